/- The mill's dice: New, Pick. -/
import Derived.Test.YtbeidpeoichakaaGreatDoorProg
import Derived.WalkKit
import Derived.WalkSmall
import Derived.ProofKit
import Derived.OpenShut
import Derived.Lib.Hide
import Derived.Handy
import Derived.Laws.OwnMore
import Derived.Deep.QuietTactic
import Derived.BigQuiet
import Derived.StillTailTactics
set_option linter.unusedVariables false
set_option linter.unusedSimpArgs false
namespace Go.Proofs.YtbeidpeoichakaaGreatDoor.mill
open Go.RowKit

/-- Seeds that lie below block B. -/
structure Seeds (w : World) (B : Nat) (A : Option Addr) (c : Nat) (l : List Nat) : Prop where
  ok : ∀ j, l.getD j 0 < 256
  fit : l.length ≤ c
  cells : 0 < l.length → ∃ b off, A = some ⟨b, off, none⟩ ∧ b < B ∧ ∀ j, j < l.length → w.cell? ⟨b, off + j, none⟩ = some (.int .u8 ((l.getD j 0 : Nat) : Int))

theorem Seeds.below {w w' : World} {B : Nat} {A : Option Addr} {c : Nat} {l : List Nat} (h : Seeds w B A c l) (hb : Below B w w') : Seeds w' B A c l :=
  ⟨h.ok, h.fit, fun hn => by
    obtain ⟨b, off, e, hlt, hc⟩ := h.cells hn
    exact ⟨b, off, e, hlt, fun j hj => (hb.cell (p := ⟨b, off + j, none⟩) hlt).trans (hc j hj)⟩⟩

theorem Seeds.more {w : World} {B B' : Nat} {A : Option Addr} {c : Nat} {l : List Nat} (h : Seeds w B A c l) (hB : B ≤ B') : Seeds w B' A c l :=
  ⟨h.ok, h.fit, fun hn => by
    obtain ⟨b, off, e, hlt, hc⟩ := h.cells hn
    exact ⟨b, off, e, Nat.lt_of_lt_of_le hlt hB, hc⟩⟩

theorem Seeds.cut {w : World} {B : Nat} {A : Option Addr} {c : Nat} {l : List Nat} (h : Seeds w B A c l) (k : Nat) : Seeds w B A c (l.take k) := by
  have hg : ∀ j, (l.take k).getD j 0 = if j < k then l.getD j 0 else 0 := by
    intro j
    rw [List.getD_eq_getElem?_getD, List.getD_eq_getElem?_getD, List.getElem?_take]
    split <;> rfl
  refine ⟨fun j => ?_, Nat.le_trans (by simp; omega) h.fit, fun hn => ?_⟩
  · rw [hg]
    split
    · exact h.ok j
    · decide
  · rw [List.length_take] at hn
    obtain ⟨b, off, e, hlt, hc⟩ := h.cells (by omega)
    refine ⟨b, off, e, hlt, fun j hj => ?_⟩
    rw [List.length_take] at hj
    rw [hc j (by omega), hg, if_pos (by omega)]

/-- The dice at block g: the seeds l lie below it, k of them are used. -/
structure DiceAt (w : World) (g : Nat) (l : List Nat) (k : Nat) : Prop where
  lt : g < w.heap.size
  s : ∃ A c, w.cell? ⟨g, 0, none⟩ = some (.slice A l.length c) ∧ Seeds w g A c l
  at' : w.cell? ⟨g, 1, none⟩ = some (.int .i64 (k : Int))
  fr : w.frozen? ⟨g, 1, none⟩ = false
  le : k ≤ l.length
  few : l.length ≤ 300

theorem DiceAt.after {w w' : World} {g : Nat} {l : List Nat} {k : Nat} (D : DiceAt w g l k) (h : Below w.heap.size w w') : DiceAt w' g l k := by
  obtain ⟨lt, ⟨A, c, h0, hS⟩, h1, h2, h3, h4⟩ := D
  exact ⟨Nat.lt_of_lt_of_le lt h.size, ⟨A, c, (h.cell lt).trans h0, hS.below (h.mono (Nat.le_of_lt lt))⟩, (h.cell lt).trans h1, (World.frozen?_of_block (h.block g lt)).trans h2, h3, h4⟩

theorem below_drewN {B : Nat} {w w' : World} (h : Below B w w') (k : Nat) : Below B w (w'.drewN k) := ⟨h.os, h.tape, h.output, h.size, h.block⟩

/-- What the dice at block g keep: all but block g, and all words. -/
structure Kept (g : Nat) (w w' : World) : Prop where
  bel : Below g w w'
  other : ∀ b, b < w.heap.size → b ≠ g → w'.heap[b]? = w.heap[b]?
  words : ∀ (p : Addr) (k : Int), p.block < w.heap.size → w.cell? p = some (.int .u32 k) → w'.cell? p = some (.int .u32 k)

theorem Kept.refl (g : Nat) (w : World) : Kept g w w := ⟨Below.refl _ _, fun _ _ _ => rfl, fun _ _ _ h => h⟩
theorem Kept.trans {g : Nat} {w w1 w2 : World} (h : Kept g w w1) (h' : Kept g w1 w2) : Kept g w w2 :=
  ⟨h.bel.trans h'.bel, fun b hb hn => (h'.other b (Nat.lt_of_lt_of_le hb h.bel.size) hn).trans (h.other b hb hn), fun p k hp hc => h'.words p k (Nat.lt_of_lt_of_le hp h.bel.size) (h.words p k hp hc)⟩
theorem Kept.of_below {g : Nat} {w w' : World} (h : Below w.heap.size w w') (hg : g ≤ w.heap.size) : Kept g w w' :=
  ⟨h.mono hg, fun b hb _ => h.block b hb, fun _ _ hp hc => (h.cell hp).trans hc⟩
theorem Kept.cell {g : Nat} {w w' : World} (h : Kept g w w') {p : Addr} (hp : p.block < w.heap.size) (hn : p.block ≠ g) : w'.cell? p = w.cell? p := World.cell?_of_block (h.other p.block hp hn)
theorem Kept.fr {g : Nat} {w w' : World} (h : Kept g w w') {p : Addr} (hp : p.block < w.heap.size) (hn : p.block ≠ g) : w'.frozen? p = w.frozen? p := World.frozen?_of_block (h.other p.block hp hn)
theorem Kept.own {g base n size : Nat} {w w' : World} {e : TypeId} {v : Value} {xs : List Value} (h : Kept g w w') (hb : g < base) (ho : w.ownsRow base e size v n xs) : w'.ownsRow base e size v n xs := by
  obtain ⟨h1, h2⟩ := ho
  refine ⟨h1, ?_⟩
  rcases h2 with h2 | ⟨b, cap, cur, hv, hbb, hg, r⟩
  · exact Or.inl h2
  · exact Or.inr ⟨b, cap, cur, hv, hbb, (h.other b (Array.getElem?_eq_some_iff.1 hg).1 (by omega)).trans hg, r⟩

theorem DiceAt.high {w w' : World} {g B : Nat} {l : List Nat} {k : Nat} (D : DiceAt w g l k) (h : Below B w w') (hg : g < B) : DiceAt w' g l k := by
  obtain ⟨lt, ⟨A, c, h0, hS⟩, h1, h2, h3, h4⟩ := D
  exact ⟨Nat.lt_of_lt_of_le lt h.size, ⟨A, c, (h.cell hg).trans h0, hS.below (h.mono (Nat.le_of_lt hg))⟩, (h.cell hg).trans h1, (World.frozen?_of_block (h.block g hg)).trans h2, h3, h4⟩

theorem Kept.then_below {g : Nat} {w w1 w2 : World} (h : Kept g w w1) (hb : Below w.heap.size w1 w2) (hg : g ≤ w.heap.size) : Kept g w w2 :=
  ⟨h.bel.trans (hb.mono hg), fun b hl hn => (hb.block b hl).trans (h.other b hl hn), fun p k hp hc => (hb.cell hp).trans (h.words p k hp hc)⟩

set_option maxRecDepth 100000 in
set_option maxHeartbeats 1000000 in
theorem pick_any (w : World) (g n : Nat) (l : List Nat) (k : Nat) (D : DiceAt w g l k) (hn : 1 ≤ n) (hn2 : n ≤ 1000000) :
    Calls Tryz.prog 34 #[.pointer (some ⟨g, 0, none⟩), .int .i64 (n : Int)] w fun e w' => ∃ v : Nat, e = .returned (.int .i64 (v : Int)) ∧ v < n ∧ v = l.getD k 0 % n ∧
      DiceAt w' g l (min (k + 1) l.length) ∧ Kept g w w' ∧ w.heap.size = w'.heap.size := by
  obtain ⟨lt, ⟨A, c, h0, hS⟩, h1, h2, h3, h4⟩ := D
  go_enter Tryz.func34, Tryz.ntmps34
  by_cases hk : k < l.length
  · obtain ⟨b, off, rfl, hb, hc⟩ := hS.cells (by omega)
    have c1 := hc k hk
    have hx := hS.ok k
    generalize hxv : l.getD k 0 = x at *
    have hfit := hS.fit
    have HSd := Lib.hid hS
    clear hc hS
    have hne : b ≠ g := by omega
    have i1 : IntKind.i64.wrap ((k : Int) + 1) = (k : Int) + 1 := IntWalk.i64_in _ (by omega)
    go_wp2_with fail
    go_quiet (fail)
    go_wp2_with fail
    obtain ⟨w1, hw1⟩ : ∃ w1, w1 = w.drewN nq := ⟨_, rfl⟩
    have hb0 : Below g w w1 := by rw [hw1]; exact below_drewN (Below.refl g w) _
    have far0 : ∀ p, w1.cell? p = w.cell? p := by rw [hw1]; exact fun _ => rfl
    have fro0 : w1.frozen? ⟨g, 1, none⟩ = false := by rw [hw1]; exact h2
    have lt1 : g < w1.heap.size := by rw [hw1]; exact lt
    have sz1 : w.heap.size = w1.heap.size := by rw [hw1]; rfl
    have hp1 : ∀ b : Nat, w1.heap[b]? = w.heap[b]? := by rw [hw1]; exact fun _ => rfl
    rw [← hw1]
    have d0 : (w1.setCell ⟨g, 1, none⟩ (.int .i64 ((k : Int) + 1))).cell? ⟨g, 0, none⟩ = some (.slice (some ⟨b, off, none⟩) l.length c) := (World.cell?_setCell_other _ _ _ _ (by intro h; cases h)).trans ((far0 _).trans h0)
    have d1 : (w1.setCell ⟨g, 1, none⟩ (.int .i64 ((k : Int) + 1))).cell? ⟨g, 1, none⟩ = some (.int .i64 ((k : Int) + 1)) := World.cell?_setCell_same _ _ _ ((far0 _).trans h1)
    have d2 : (w1.setCell ⟨g, 1, none⟩ (.int .i64 ((k : Int) + 1))).cell? ⟨b, off + k, none⟩ = some (.int .u8 (x : Int)) := (World.cell?_setCell_other _ _ _ _ (by intro h; injection h with h; omega)).trans ((far0 _).trans c1)
    have HZ := Lib.hid (And.intro hb0 (And.intro far0 (And.intro fro0 (And.intro lt1 (And.intro sz1 hp1)))))
    clear hb0 far0 fro0 lt1 sz1 hp1 hw1
    have HW := Lib.hid (And.intro h1 (And.intro h2 (And.intro hxv (And.intro lt h0))))
    obtain ⟨W2, hW2⟩ : ∃ W2, W2 = w1.setCell ⟨g, 1, none⟩ (.int .i64 ((k : Int) + 1)) := ⟨_, rfl⟩
    rw [← hW2] at d0 d1 d2 ⊢
    have HW2 := Lib.hid hW2
    have i2 : IntKind.i64.wrap ((k : Int) + 1 - 1) = (k : Int) := by rw [show (k : Int) + 1 - 1 = (k : Int) by omega]; exact IntWalk.i64_in _ (by omega)
    have i3 : (k : Int) + 1 - 1 = (k : Int) := by omega
    have i4 : (k : Int) < (l.length : Int) := by omega
    have i5 : (0 : Int) ≤ (k : Int) := by omega
    have t1 : (x : Int).tmod (n : Int) = ((x % n : Nat) : Int) := rfl
    obtain ⟨y, hy⟩ : ∃ y, x % n = y := ⟨_, rfl⟩
    rw [hy] at t1
    have hyn : y < n := by rw [← hy]; exact Nat.mod_lt _ (by omega)
    have t2 : IntKind.i64.wrap ((x : Int).tmod (n : Int)) = (y : Int) := by rw [t1]; exact IntWalk.i64_in _ (by omega)
    have t4 : IntKind.i64.wrap (x : Int) = (x : Int) := IntWalk.i64_in _ (by omega)
    have z1 : ((n : Int) == 0) = false := beq_eq_false_iff_ne.2 (by omega)
    have HY := Lib.hid hy
    clear h1 h2 hxv lt h0 hW2 hy c1 i1
    go_quiet (fail)
    go_wp2_with fail

    go_ret
    obtain ⟨h1, h2, hxv, lt, h0⟩ := HW.out
    obtain ⟨hb0, far0, fro0, lt1, sz1, hp1⟩ := HZ.out
    have e2 := HW2.out
    have hbel := below_drewN (hb0.setCell (p := ⟨g, 1, none⟩) (Nat.le_refl _) (.int .i64 ((k : Int) + 1))) nq
    have ff : W2.frozen? ⟨g, 1, none⟩ = false := by rw [e2]; simp [go_sem, fro0]
    have hsz : W2.heap.size = w1.heap.size := by rw [e2]; exact World.size_setCell _ _ _
    have hfar : ∀ p : Addr, p ≠ ⟨g, 1, none⟩ → W2.cell? p = w1.cell? p := fun p hp => by rw [e2]; exact World.cell?_setCell_other _ _ _ _ (fun e => hp e.symm)
    have hblk : ∀ b : Nat, b ≠ g → W2.heap[b]? = w1.heap[b]? := fun b hb => by rw [e2]; exact Below.heap_setCell _ _ _ _ hb
    rw [← e2] at hbel
    refine ⟨y, rfl, hyn, HY.out.symm, ?_, ⟨hbel, fun b _ hn => (hblk b hn).trans (hp1 b), fun p k' _ hc => ?_⟩, by rw [sz1, ← hsz]; rfl⟩
    rotate_left
    · refine ((hfar p ?_).trans (far0 p)).trans hc
      rintro rfl
      rw [h1] at hc
      cases hc
    refine ⟨by show g < W2.heap.size; omega, ⟨_, _, d0, HSd.out.below hbel⟩, ?_, ff, by omega, h4⟩
    rw [Nat.min_eq_left (by omega)]
    exact d1
  · obtain rfl : k = l.length := by omega
    have hS2 := Lib.hid hS
    clear hS h3 hk
    go_wp2_with fail
    go_quiet (fail)
    go_wp2_with fail
    go_ret
    have hbel := below_drewN (Below.refl g w) nq
    refine ⟨0, rfl, by omega, by rw [List.getD_eq_getElem?_getD, List.getElem?_eq_none (Nat.le_refl _)]; simp, ?_, ⟨hbel, fun _ _ _ => rfl, fun _ _ _ h => h⟩, rfl⟩
    rw [Nat.min_eq_right (by omega)]
    exact ⟨lt, ⟨A, c, h0, hS2.out.below hbel⟩, h1, h2, Nat.le_refl _, h4⟩

/-- Pick, where the number does not matter. -/
theorem pick_some (w : World) (g n : Nat) (l : List Nat) (k : Nat) (D : DiceAt w g l k) (hn : 1 ≤ n) (hn2 : n ≤ 1000000) :
    Calls Tryz.prog 34 #[.pointer (some ⟨g, 0, none⟩), .int .i64 (n : Int)] w fun e w' => ∃ v k' : Nat, e = .returned (.int .i64 (v : Int)) ∧ v < n ∧ DiceAt w' g l k' ∧ Kept g w w' := by
  refine (pick_any w g n l k D hn hn2).mono ?_
  rintro _ w' ⟨v, rfl, hv, _, hD, hK, _⟩
  exact ⟨v, _, rfl, hv, hD, hK⟩

set_option maxRecDepth 100000 in
set_option maxHeartbeats 1000000 in
theorem new_any (w : World) (A : Option Addr) (c : Nat) (l : List Nat) (S : Seeds w w.heap.size A c l) (hl : l.length ≤ maxLen) :
    Calls Tryz.prog 5 #[.slice A l.length c] w fun e w' => e = .returned (.pointer (some ⟨w.heap.size, 0, none⟩)) ∧ DiceAt w' w.heap.size (l.take 300) 0 ∧ Below w.heap.size w w' := by
  have hfit := S.fit
  go_enter Tryz.func5, Tryz.ntmps5
  by_cases hk : 300 < l.length
  · obtain ⟨b, off, rfl, hb, hc⟩ := S.cells (by omega)
    have HS := Lib.hid S
    clear hc S
    go_wp2_with fail
    go_ret
    have hb := (Below.refl w.heap.size w).alloc (Nat.le_refl _) (.cells #[.slice (some ⟨b, off, none⟩) 300 c, .int .i64 0] 56)
    have hlen : (l.take 300).length = 300 := by simp; omega
    refine ⟨rfl, ⟨by simp, ⟨some ⟨b, off, none⟩, c, ?_, (HS.out.cut 300).below hb⟩, ?_, ?_, Nat.zero_le _, by simp; omega⟩, hb⟩
    · rw [hlen]; simp [go_sem]
    · simp [go_sem]
    · simp [go_sem]
  · have HS := Lib.hid S
    clear S
    go_wp2_with fail
    go_ret
    have hb := (Below.refl w.heap.size w).alloc (Nat.le_refl _) (.cells #[.slice A l.length c, .int .i64 0] 56)
    rw [List.take_of_length_le (by omega)]
    refine ⟨rfl, ⟨by simp, ⟨A, c, ?_, HS.out.below hb⟩, ?_, ?_, Nat.zero_le _, by omega⟩, hb⟩
    · simp [go_sem]
    · simp [go_sem]
    · simp [go_sem]

end Go.Proofs.YtbeidpeoichakaaGreatDoor.mill
