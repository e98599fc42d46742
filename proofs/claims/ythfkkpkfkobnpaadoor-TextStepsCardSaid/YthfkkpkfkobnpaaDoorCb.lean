/- text.Trim at any string. -/
import Derived.Test.YthfkkpkfkobnpaaDoorShelf5
import Derived.Shelf.Strings.Trim
import Derived.Test.YthfkkpkfkobnpaaDoorBs
import Derived.Test.YthfkkpkfkobnpaaDoorCa
set_option linter.unusedVariables false
set_option linter.unusedSimpArgs false
namespace Go.Proofs.YthfkkpkfkobnpaaDoor.tw
open Go.RowKit

set_option maxRecDepth 100000 in
theorem trim_any (l : List UInt8) (hs : l.length ≤ 1000000) (w : World) :
    Calls Tryd.prog 18 #[.string ⟨l.toArray⟩] w fun e w' => e = .returned (.string ⟨(Lib.trimB l 32).toArray⟩) ∧ tx.Drew w w' := by
  have h := Any.strings_Trim_one Tryd.lays160 ⟨l.toArray⟩ 32 (by decide) w (by simp [ByteArray.size]; omega)
  go_enter Tryd.func18, Tryd.ntmps18
  go_wp2_with fail
  refine h.mono ?_
  rintro _ w1 ⟨rfl, hw⟩
  go_wp2
  go_ret
  refine ⟨rfl, ?_⟩
  rcases hw with rfl | rfl
  · exact ⟨0, rfl⟩
  · exact ⟨1, rfl⟩
end Go.Proofs.YthfkkpkfkobnpaaDoor.tw
