/- The mill: Mod, and the text of a number. -/
import Derived.Test.YtbeidpeoichakaaGreatDoorMill
import Derived.Test.YtbeidpeoichakaaGreatDoorHa
set_option linter.unusedSimpArgs false
namespace Go.Proofs.YtbeidpeoichakaaGreatDoor.qa
open Go.RowKit Go.Proofs.YtbeidpeoichakaaGreatDoor.mem Go.Proofs.YtbeidpeoichakaaGreatDoor.hb Go.Proofs.YtbeidpeoichakaaGreatDoor.mill

theorem tmod_lo (a n : Int) (h : 1 ≤ n) : -n < a.tmod n ∧ a.tmod n < n := by
  have h1 := Int.tmod_lt_of_pos a (show 0 < n by omega)
  have h2 := Int.tmod_lt_of_pos (-a) (show 0 < n by omega)
  rw [Int.neg_tmod] at h2
  omega

set_option maxRecDepth 100000 in
theorem mod_any (w : World) (v n : Int) (_ : -9223372036854775808 ≤ v) (_ : v < 9223372036854775808) (hn : 1 ≤ n) (hn2 : n ≤ 1000000000) :
    Calls Tryz.prog 8 #[.int .i64 v, .int .i64 n] w fun e w' => ∃ m : Nat, e = .returned (.int .i64 (m : Int)) ∧ (m : Int) < n ∧ w = w' := by
  have hlo := tmod_lo v n hn
  go_enter Tryz.func8, Tryz.ntmps8
  have h0 : (n == 0) = false := beq_eq_false_iff_ne.2 (by omega)
  go_wp2_with fail
  · go_ret
    exact ⟨(v.tmod n + n).toNat, ret_int (by omega), by omega, rfl⟩
  · go_ret
    exact ⟨(v.tmod n).toNat, ret_int (by omega), by omega, rfl⟩

def signs : Array Value := #[.string ⟨#[]⟩, .string ⟨#[]⟩, .string ⟨#[]⟩, .string ⟨#[45]⟩, .string ⟨#[43]⟩]
theorem sign_at (v : Nat) (h : v < 5) : ∃ s : ByteArray, signs[v]? = some (.string s) ∧ s.size ≤ 1 := by
  rcases v with _ | _ | _ | _ | _ | v
  all_goals first | exact ⟨_, rfl, by decide⟩ | omega

theorem DiceAt.drew {w : World} {g : Nat} {l : List Nat} {k : Nat} (D : DiceAt w g l k) : DiceAt w.drew g l k := D.after (Below.refl _ _).drew

theorem sign_get {v : Nat} {s : ByteArray} (h : v < 5) (hs : signs[v]? = some (.string s)) : ([.string ⟨#[]⟩, .string ⟨#[]⟩, .string ⟨#[]⟩, .string ⟨#[45]⟩, .string ⟨#[43]⟩] : List Value)[v]'(by simpa using h) = .string s := by
  have h2 : ([.string ⟨#[]⟩, .string ⟨#[]⟩, .string ⟨#[]⟩, .string ⟨#[45]⟩, .string ⟨#[43]⟩] : List Value)[v]? = some (.string s) := by rw [← hs]; unfold signs; simp
  rw [List.getElem?_eq_getElem (by simpa using h)] at h2
  exact Option.some.inj h2
def sg : Obj := .cells signs 9
theorem sign_new (w : World) {v : Nat} {s : ByteArray} (h : signs[v]? = some (.string s)) : (w.alloc (.cells signs 9)).cell? ⟨w.heap.size, v, none⟩ = some (.string s) := by
  rw [World.cell?_alloc_new]
  exact h
theorem sign_kept {w W : World} {g : Nat} {l : List Nat} {k v : Nat} {s : ByteArray} (D : DiceAt w g l k) (h : signs[v]? = some (.string s)) (K : Kept g (w.alloc (.cells signs 9)) W) : W.cell? ⟨w.heap.size, v, none⟩ = some (.string s) := by
  have hlt := D.lt
  exact (K.cell (p := ⟨w.heap.size, v, none⟩) (by simp) (by show w.heap.size ≠ g; omega)).trans (sign_new w h)
theorem Kept.undrew {g : Nat} {w W : World} (K : Kept g w.drew W) : Kept g w W := ⟨(Below.refl _ _).drew.trans K.bel, K.other, K.words⟩
theorem sign_cell {w W : World} {g : Nat} {l : List Nat} {k v : Nat} {s : ByteArray} (D : DiceAt w g l k) (h : signs[v]? = some (.string s)) (K : Kept g (w.alloc (.cells signs 9)).drew W) : W.cell? ⟨w.heap.size, v, none⟩ = some (.string s) :=
  sign_kept D h (Kept.undrew K)
theorem Kept.sg {g : Nat} {l : List Nat} {k : Nat} {w : World} (D : DiceAt w g l k) : Kept g w (w.alloc (.cells signs 9)) := Kept.of_below ((Below.refl _ _).alloc (Nat.le_refl _) _) (Nat.le_of_lt D.lt)
theorem DiceAt.sg {g : Nat} {l : List Nat} {k : Nat} {w : World} (D : DiceAt w g l k) : DiceAt (w.alloc (.cells signs 9)) g l k := D.after ((Below.refl _ _).alloc (Nat.le_refl _) _)

def parts : Array Value := #[.string ⟨#[53]⟩, .string ⟨#[53, 48]⟩, .string ⟨#[48]⟩, .string ⟨#[49, 50, 53]⟩, .string ⟨#[48, 48, 55]⟩, .string ⟨#[48, 48, 48, 48, 48, 48, 48, 48, 49]⟩]
theorem part_at (v : Nat) (h : v < 6) : ∃ s : ByteArray, parts[v]? = some (.string s) ∧ s.size ≤ 9 := by
  rcases v with _ | _ | _ | _ | _ | _ | v
  all_goals first | exact ⟨_, rfl, by decide⟩ | omega
theorem DiceAt.parts {g : Nat} {l : List Nat} {k : Nat} {w : World} (D : DiceAt w g l k) : DiceAt (w.alloc (.cells parts 9)) g l k := D.after ((Below.refl _ _).alloc (Nat.le_refl _) _)
theorem part_kept {w W : World} {g : Nat} {l : List Nat} {k v : Nat} {s : ByteArray} (D : DiceAt w g l k) (h : parts[v]? = some (.string s)) (K : Kept g (w.alloc (.cells parts 9)) W) : W.cell? ⟨w.heap.size, v, none⟩ = some (.string s) := by
  have hlt := D.lt
  refine (K.cell (p := ⟨w.heap.size, v, none⟩) (by simp) (by show w.heap.size ≠ g; omega)).trans ?_
  rw [World.cell?_alloc_new]
  exact h

/-- What Number answers. -/
def Numeral (g : Nat) (l : List Nat) (w : World) (e : Ending) (w' : World) : Prop :=
  ∃ (t : ByteArray) (k' : Nat), e = .returned (.string t) ∧ 1 ≤ t.size ∧ t.size ≤ 40 ∧ DiceAt w' g l k' ∧ Kept g w w'

end Go.Proofs.YtbeidpeoichakaaGreatDoor.qa
