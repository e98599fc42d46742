/- What the rows of the laws give: the seeds, and the tables that are laid. -/
import Derived.Test.YtbeidpeoichakaaGreatDoorCards
import Derived.Test.YtbeidpeoichakaaGreatDoorTie
import Derived.Test.YtbeidpeoichakaaGreatDoorMill
import Derived.Test.YtbeidpeoichakaaGreatDoorHa
import Derived.Test.YtbeidpeoichakaaGreatDoorFj
import Derived.WalkKit
import Derived.ProofKit
import Derived.OpenShut
import Derived.ChangeOld
import Derived.Below
import Derived.Deep.DeepHandedRow
import Derived.Lib.LaidTab
set_option linter.unusedVariables false
namespace Go.Proofs.YtbeidpeoichakaaGreatDoor.frame
open Go.ChangeShapes Go.WideShapes Go.ChangeAt Go.RowKit Go.Proofs.YtbeidpeoichakaaGreatDoor.mill Go.Proofs.YtbeidpeoichakaaGreatDoor.fj Go.Proofs.YtbeidpeoichakaaGreatDoor.hb

theorem own : ownKnob Tryz.prog.godebug = none := by kernel_rfl
theorem laidOut : laidOutB Tryz.prog = true := by kernel_rfl

/-- A slice of bytes that came in. -/
def IsRow (w : World) (a : Option Addr) (len cap : Nat) (zs : List Int) : Prop :=
  (a = none ∧ len = 0 ∧ cap = 0 ∧ zs = []) ∨
  ∃ x, a = some x ∧ len ≤ cap ∧ cap ≤ maxLen ∧ zs.length = cap ∧ (∀ i, i < zs.length → w.cell? (x.add i) = some (.int .u8 (zs.getD i 0))) ∧ ∀ n ∈ zs, (Lit.int .u8 n).wf = true

theorem wf_u8 {n : Int} (h : (Lit.int .u8 n).wf = true) : 0 ≤ n ∧ n < 256 := by
  have h2 : IntKind.u8.min ≤ n ∧ n ≤ IntKind.u8.max := by simpa [Lit.wf] using h
  have h3 : IntKind.u8.min = 0 := by decide
  have h4 : IntKind.u8.max = 255 := by decide
  omega

/-- .. reads as seeds. -/
theorem seeds_of_row {w : World} {a : Option Addr} {len cap : Nat} {zs : List Int} (h : IsRow w a len cap zs) : ∃ l : List Nat, len = l.length ∧ l.length ≤ maxLen ∧ Seeds w w.heap.size a cap l := by
  rcases h with ⟨rfl, rfl, rfl, rfl⟩ | ⟨x, rfl, hlc, hcm, hz, hc, hw⟩
  · exact ⟨[], rfl, Nat.zero_le _, fun j => by simp, Nat.le_refl _, fun h => absurd h (by simp)⟩
  · have hlen : ((zs.take len).map Int.toNat).length = len := by rw [List.length_map, List.length_take]; omega
    have hget : ∀ j, j < len → ((((zs.take len).map Int.toNat).getD j 0 : Nat) : Int) = zs.getD j 0 ∧ ((zs.take len).map Int.toNat).getD j 0 < 256 := by
      intro j hj
      have h1 : ((zs.take len).map Int.toNat).getD j 0 = (zs.getD j 0).toNat := by
        rw [List.getD_eq_getElem?_getD, List.getElem?_map, List.getElem?_take, if_pos hj, List.getD_eq_getElem?_getD, List.getElem?_eq_getElem (by omega)]
        rfl
      have h2 := wf_u8 (hw (zs.getD j 0) (by rw [List.getD_eq_getElem?_getD, List.getElem?_eq_getElem (by omega)]; exact List.getElem_mem _))
      rw [h1]
      omega
    refine ⟨(zs.take len).map Int.toNat, hlen.symm, by omega, fun j => ?_, by omega, fun hn => ?_⟩
    · by_cases hj : j < len
      · exact (hget j hj).2
      · rw [List.getD_eq_getElem?_getD, List.getElem?_eq_none (by omega)]; decide
    · rw [hlen] at hn
      have h0 := hc 0 (by omega)
      have hx : x = ⟨x.block, x.off, none⟩ := by
        have h1 : x.add 0 = x := rfl
        rw [h1] at h0
        unfold World.cell? at h0
        split at h0
        · split at h0
          · cases h0
          · cases x with
            | mk b o s =>
              cases s with
              | none => rfl
              | some _ => simp at *
        · cases h0
      refine ⟨x.block, x.off, by rw [← hx], ?_, fun j hj => ?_⟩
      · have := World.block_lt_of_cell? w _ h0
        exact this
      · rw [hlen] at hj
        have h1 := hc j (by omega)
        rw [hx, Lib.add_plain] at h1
        rw [(hget j hj).1]
        exact h1

/-- The tables that the rows list. -/
def lays : List (String × DataW Unit) := [("math/bits.deBruijn32tab", Rows.laid_math_bits_deBruijn32tab), ("math/bits.deBruijn64tab", Rows.laid_math_bits_deBruijn64tab), ("internal/strconv.uint64pow10", Rows.laid_internal_strconv_uint64pow10)]

theorem tail {P : Program} {x : String × DataW Unit} {r : List (String × DataW Unit)} {w : World} (h : laidMet P (x :: r) w) : laidMet P r w := by
  obtain ⟨ps, hv, hnd, hrows⟩ := h
  obtain ⟨n, d⟩ := x
  obtain ⟨g, t, cs, fuel, p, q, _, _, _, _, hq, rfl⟩ := hv
  exact ⟨q, hq, List.Nodup.sublist (List.sublist_append_right _ _) hnd, fun b off hm => hrows b off (List.mem_append_right _ hm)⟩

theorem g32 : Tryz.prog.globalNamed "math/bits.deBruijn32tab" = some 1 := by kernel_rfl
theorem g64 : Tryz.prog.globalNamed "math/bits.deBruijn64tab" = some 2 := by kernel_rfl
theorem g10 : Tryz.prog.globalNamed "internal/strconv.uint64pow10" = some 0 := by kernel_rfl

theorem tab_at {W : World} {name : String} {g : Nat} {tab : List Nat} (h : Lib.TabIs Tryz.prog W name .u8 (tab.map fun n : Nat => (n : Int))) (hg : Tryz.prog.globalNamed name = some g) : TabAt g tab W := fun j hj => by
  have := h.cell hg j (by simpa using hj)
  rw [this]
  simp [List.getD_eq_getElem?_getD, List.getElem?_eq_getElem hj]

theorem tabs_of_laid {W : World} (h : laidMet Tryz.prog lays W) : Tabs W ∧ Pow W := by
  have e1 : (Rows.laid_math_bits_deBruijn32tab : DataW Unit) = Lib.tabData .u8 (Lib.deBruijn32tab.map fun n : Nat => (n : Int)) := rfl
  have e2 : (Rows.laid_math_bits_deBruijn64tab : DataW Unit) = Lib.tabData .u8 (Lib.deBruijn64tab.map fun n : Nat => (n : Int)) := rfl
  have e3 : (Rows.laid_internal_strconv_uint64pow10 : DataW Unit) = Lib.tabData .u64 Lib.pow10Tab := rfl
  unfold lays at h
  rw [e1, e2, e3] at h
  have h2 := tail h
  have h3 := tail h2
  exact ⟨⟨tab_at (Lib.tabIs_of_head g32 (by kernel_rfl) Tryz.underlying111 Tryz.underlying5 (by kernel_rfl) (by kernel_rfl) h) g32, tab_at (Lib.tabIs_of_head g64 (by kernel_rfl) Tryz.underlying112 Tryz.underlying5 (by kernel_rfl) (by kernel_rfl) h2) g64⟩,
    Lib.tabIs_of_head g10 (by kernel_rfl) Tryz.underlying107 Tryz.underlying62 (by kernel_rfl) (by kernel_rfl) h3⟩

def fill (cs : Array Value) : Obj → Obj
  | .cells _ t frozen => .cells cs t frozen
  | o => o

/-- A world for the witness: the settled one, the tables holding what their initialisers lay. -/
noncomputable def laidWorld (os : Os) : World :=
  { World.holding Tryz.prog os ⟨#[], #[], []⟩ with heap := (((World.holding Tryz.prog os ⟨#[], #[], []⟩).heap.modify 1 (fill (Lib.deBruijn32tab.map fun n : Nat => Value.int .u8 (n : Int)).toArray)).modify 2 (fill (Lib.deBruijn64tab.map fun n : Nat => Value.int .u8 (n : Int)).toArray)).modify 0 (fill (Lib.pow10Tab.map fun z => Value.int .u64 z).toArray) }
theorem laid_met (os : Os) (args : Array Value) : laidMet Tryz.prog lays ((laidWorld os).forCall (fun _ _ => 0) ⟨#[], args, []⟩).memory :=
  laidMet_of_run' 40 (by kernel_rfl) (by kernel_rfl)

end Go.Proofs.YtbeidpeoichakaaGreatDoor.frame
