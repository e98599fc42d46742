/- What the rows of TextLines, TextTwice, TextSteps give: the seeds, and the five tables that are laid. -/
import Derived.Test.YthfkkpkfkobnpaaDoorCards
import Derived.Test.YthfkkpkfkobnpaaDoorTie
import Derived.Test.YthfkkpkfkobnpaaDoorMill
import Derived.Test.YthfkkpkfkobnpaaDoorBd
import Derived.WalkKit
import Derived.ProofKit
import Derived.OpenShut
import Derived.ChangeOld
import Derived.Below
import Derived.SliceStrings
import Derived.Deep.DeepHandedRow
import Derived.Lib.LaidTab
import Derived.Lib.TrailingZeros
import Derived.Lib.ItoaNum
import Derived.Lib.LaidU8T
import Derived.PinnedBridge
set_option linter.unusedVariables false
namespace Go.Proofs.YthfkkpkfkobnpaaDoor.frame5
open Go.ChangeShapes Go.WideShapes Go.ChangeAt Go.RowKit Go.Proofs.YthfkkpkfkobnpaaDoor.mill

theorem own : ownKnob Tryd.prog.godebug = none := by kernel_rfl
theorem laidOut : laidOutB Tryd.prog = true := by kernel_rfl

/-- A slice of bytes that came in. -/
def IsRow (w : World) (a : Option Addr) (len cap : Nat) (zs : List Int) : Prop :=
  (a = none ∧ len = 0 ∧ cap = 0 ∧ zs = []) ∨
  ∃ x, a = some x ∧ len ≤ cap ∧ cap ≤ maxLen ∧ zs.length = cap ∧ (∀ i, i < zs.length → w.cell? (x.add i) = some (.int .u8 (zs.getD i 0))) ∧ ∀ n ∈ zs, (Lit.int .u8 n).wf = true

theorem wf_u8 {n : Int} (h : (Lit.int .u8 n).wf = true) : 0 ≤ n ∧ n < 256 := by
  have h2 : IntKind.u8.min ≤ n ∧ n ≤ IntKind.u8.max := by simpa [Lit.wf] using h
  have h3 : IntKind.u8.min = 0 := by decide
  have h4 : IntKind.u8.max = 255 := by decide
  omega

/-- .. reads as seeds. -/
theorem seeds_of_row {w : World} {a : Option Addr} {len cap : Nat} {zs : List Int} (h : IsRow w a len cap zs) : ∃ l : List Nat, len = l.length ∧ l.length ≤ maxLen ∧ Seeds w w.heap.size a cap l := by
  rcases h with ⟨rfl, rfl, rfl, rfl⟩ | ⟨x, rfl, hlc, hcm, hz, hc, hw⟩
  · exact ⟨[], rfl, Nat.zero_le _, fun j => by simp, Nat.le_refl _, fun h => absurd h (by simp)⟩
  · have hlen : ((zs.take len).map Int.toNat).length = len := by rw [List.length_map, List.length_take]; omega
    have hget : ∀ j, j < len → ((((zs.take len).map Int.toNat).getD j 0 : Nat) : Int) = zs.getD j 0 ∧ ((zs.take len).map Int.toNat).getD j 0 < 256 := by
      intro j hj
      have h1 : ((zs.take len).map Int.toNat).getD j 0 = (zs.getD j 0).toNat := by
        rw [List.getD_eq_getElem?_getD, List.getElem?_map, List.getElem?_take, if_pos hj, List.getD_eq_getElem?_getD, List.getElem?_eq_getElem (by omega)]
        rfl
      have h2 := wf_u8 (hw (zs.getD j 0) (by rw [List.getD_eq_getElem?_getD, List.getElem?_eq_getElem (by omega)]; exact List.getElem_mem _))
      rw [h1]
      omega
    refine ⟨(zs.take len).map Int.toNat, hlen.symm, by omega, fun j => ?_, by omega, fun hn => ?_⟩
    · by_cases hj : j < len
      · exact (hget j hj).2
      · rw [List.getD_eq_getElem?_getD, List.getElem?_eq_none (by omega)]; decide
    · rw [hlen] at hn
      have h0 := hc 0 (by omega)
      have hx : x = ⟨x.block, x.off, none⟩ := by
        have h1 : x.add 0 = x := rfl
        rw [h1] at h0
        unfold World.cell? at h0
        split at h0
        · split at h0
          · cases h0
          · cases x with
            | mk b o s =>
              cases s with
              | none => rfl
              | some _ => simp at *
        · cases h0
      refine ⟨x.block, x.off, by rw [← hx], ?_, fun j hj => ?_⟩
      · have := World.block_lt_of_cell? w _ h0
        exact this
      · rw [hlen] at hj
        have h1 := hc j (by omega)
        rw [hx, WideShapes.add_plain] at h1
        rw [(hget j hj).1]
        exact h1

/-- The tables that the row of TextSets lists. -/
def lays : List (String × DataW Unit) := [("math/bits.deBruijn32tab", Rows.laid_math_bits_deBruijn32tab), ("math/bits.deBruijn64tab", Rows.laid_math_bits_deBruijn64tab), ("internal/strconv.uint64pow10", Rows.laid_internal_strconv_uint64pow10), ("unicode/utf8.acceptRanges", Rows.laid_unicode_utf8_acceptRanges), ("unicode/utf8.first", Rows.laid_unicode_utf8_first)]

theorem tail {P : Program} {x : String × DataW Unit} {r : List (String × DataW Unit)} {w : World} (h : laidMet P (x :: r) w) : laidMet P r w := by
  obtain ⟨ps, hv, hnd, hrows⟩ := h
  obtain ⟨n, d⟩ := x
  obtain ⟨g, t, cs, fuel, p, q, _, _, _, _, hq, rfl⟩ := hv
  exact ⟨q, hq, List.Nodup.sublist (List.sublist_append_right _ _) hnd, fun b off hm => hrows b off (List.mem_append_right _ hm)⟩

theorem reads_head {P : Program} {name : String} {d : DataW Unit} {r : List (String × DataW Unit)} {w : World} (h : laidMet P ((name, d) :: r) w) : Lib.VarReads P w name d := by
  obtain ⟨ps, ⟨g', t', cs, fuel, p, q, hg', ht', hvar, hd, _, _⟩, _⟩ := h
  exact ⟨g', t', cs, fuel, p, hg', ht', hvar, hd⟩

theorem utf_of_laid {W : World} (h : laidMet Tryd.prog lays W) : sane.Utf W ∧ 2 ≤ W.heap.size := by
  have e1 : (Rows.laid_unicode_utf8_acceptRanges : DataW Unit) = Lib.acceptData := by kernel_rfl
  have e2 : (Rows.laid_unicode_utf8_first : DataW Unit) = Lib.firstData := Pinned.utf8First_eq
  unfold lays at h
  rw [e1, e2] at h
  have r1 := reads_head (tail (tail (tail h)))
  have r2 := reads_head (tail (tail (tail (tail h))))
  have T : Lib.Utf8Tabs 0 1 W :=
    utf8Tabs_of_readsT (P := Tryd.prog) (ρ := ⟨id, fun | 5 => 5 | 119 => 67 | 138 => 69 | 139 => 70 | n => n, fun | 3 => 0 | 4 => 1 | n => n⟩)
      { t5 := Tryd.underlying5, t119 := Tryd.underlying67, t138 := Tryd.underlying69, t139 := Tryd.underlying70 }
      { n3 := by kernel_rfl, n4 := by kernel_rfl, y3 := by kernel_rfl, y4 := by kernel_rfl, c5 := by kernel_rfl, c119 := by kernel_rfl, c138 := by kernel_rfl } r2 r1
  have c1 : W.cell? ⟨1, 1, none⟩ = some (.int .u8 191) := (T.2 0 (by decide)).2
  refine ⟨⟨T.1 195 (by decide), (T.2 0 (by decide)).1, c1⟩, ?_⟩
  have := World.block_lt_of_cell? W _ c1
  exact this

def fill (cs : Array Value) : Obj → Obj
  | .cells _ t frozen => .cells cs t frozen
  | o => o

/-- A world for the witness: the settled one, the tables holding what their initialisers lay. -/
noncomputable def laidWorld (os : Os) : World :=
  { World.holding Tryd.prog os ⟨#[], #[], []⟩ with heap := ((((((World.holding Tryd.prog os ⟨#[], #[], []⟩).heap.modify 4 (fill (Lib.deBruijn32tab.map fun n : Nat => Value.int .u8 (n : Int)).toArray)).modify 5 (fill (Lib.deBruijn64tab.map fun n : Nat => Value.int .u8 (n : Int)).toArray)).modify 3 (fill (Lib.pow10Tab.map fun z => Value.int .u64 z).toArray)).modify 1 (fill ((List.range 16).flatMap fun i => [Value.int .u8 (Lib.accLo i : Int), Value.int .u8 (Lib.accHi i : Int)]).toArray)).modify 0 (fill (Lib.firstTab.map fun z => Value.int .u8 z).toArray)) }
set_option maxRecDepth 100000 in
theorem laid_met (os : Os) (args : Array Value) : laidMet Tryd.prog lays ((laidWorld os).forCall (fun _ _ => 0) ⟨#[], args, []⟩).memory :=
  laidMet_of_run' 40 (by kernel_rfl) (by kernel_rfl)

end Go.Proofs.YthfkkpkfkobnpaaDoor.frame5
