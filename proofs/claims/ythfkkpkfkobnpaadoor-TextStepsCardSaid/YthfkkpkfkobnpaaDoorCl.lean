/- The two tables of utf8 that TextSteps reads. -/
import Derived.Test.YthfkkpkfkobnpaaDoorBh
import Derived.Test.YthfkkpkfkobnpaaDoorCj
set_option linter.unusedVariables false
set_option linter.unusedSimpArgs false
namespace Go.Proofs.YthfkkpkfkobnpaaDoor.frame5
open Go.ChangeShapes Go.ChangeMaps Go.WideShapes Go.ChangeAt Go.RowKit

theorem tabs_of_laid {W : World} (h : laidMet Tryd.prog lays W) : ts.Tabs W := by
  have e1 : (Rows.laid_unicode_utf8_acceptRanges : DataW Unit) = Lib.acceptData := by kernel_rfl
  have e2 : (Rows.laid_unicode_utf8_first : DataW Unit) = Lib.firstData := Pinned.utf8First_eq
  unfold lays at h
  rw [e1, e2] at h
  have r1 := reads_head (tail (tail (tail h)))
  have r2 := reads_head (tail (tail (tail (tail h))))
  exact utf8Tabs_of_readsT (P := Tryd.prog) (ρ := ⟨id, fun | 5 => 5 | 119 => 67 | 138 => 69 | 139 => 70 | n => n, fun | 3 => 0 | 4 => 1 | n => n⟩)
      { t5 := Tryd.underlying5, t119 := Tryd.underlying67, t138 := Tryd.underlying69, t139 := Tryd.underlying70 }
      { n3 := by kernel_rfl, n4 := by kernel_rfl, y3 := by kernel_rfl, y4 := by kernel_rfl, c5 := by kernel_rfl, c119 := by kernel_rfl, c138 := by kernel_rfl } r2 r1
end Go.Proofs.YthfkkpkfkobnpaaDoor.frame5
