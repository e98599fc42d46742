/- tablefinderkit's dice: Next, Word: a number from 0 on below n; one of three strings. -/
import Derived.Test.YtlionnncmgiifaaKitMod
import Derived.WalkKit
import Derived.WalkSmall
import Derived.ProofKit
import Derived.OpenShut
import Derived.Lib.Hide
import Derived.Handy
import Derived.Laws.OwnMore
import Derived.Deep.QuietTactic
import Derived.BigQuiet
import Derived.StillTailTactics
set_option linter.unusedSimpArgs false
set_option linter.unusedVariables false
namespace Go.Proofs.Ytlionnncmgiifaa.dice
open Go.RowKit

/-- Numbers that lie below block B. -/
structure Nums (w : World) (B : Nat) (A : Option Addr) (c : Nat) (l : List Int) : Prop where
  fit : l.length ≤ c
  cells : 0 < l.length → ∃ b off, A = some ⟨b, off, none⟩ ∧ b < B ∧ ∀ j, j < l.length → w.cell? ⟨b, off + j, none⟩ = some (.int .i64 (l.getD j 0))

theorem Nums.below {w w' : World} {B : Nat} {A : Option Addr} {c : Nat} {l : List Int} (h : Nums w B A c l) (hb : Below B w w') : Nums w' B A c l :=
  ⟨h.fit, fun hn => by
    obtain ⟨b, off, e, hlt, hc⟩ := h.cells hn
    exact ⟨b, off, e, hlt, fun j hj => (hb.cell (p := ⟨b, off + j, none⟩) hlt).trans (hc j hj)⟩⟩

/-- The dice at block g: the numbers l lie below it, k of them are used. -/
structure DiceK (w : World) (g : Nat) (l : List Int) (k : Nat) : Prop where
  lt : g < w.heap.size
  s : ∃ A c, w.cell? ⟨g, 0, none⟩ = some (.slice A l.length c) ∧ Nums w g A c l
  at' : w.cell? ⟨g, 1, none⟩ = some (.int .i64 (k : Int))
  fr : w.frozen? ⟨g, 1, none⟩ = false
  le : k ≤ l.length
  few : l.length ≤ 500

theorem below_drewN {B : Nat} {w w' : World} (h : Below B w w') (k : Nat) : Below B w (w'.drewN k) := ⟨h.os, h.tape, h.output, h.size, h.block⟩

/-- What the dice at block g keep: all but block g. -/
structure Kept (g : Nat) (w w' : World) : Prop where
  bel : Below g w w'
  other : ∀ b, b < w.heap.size → b ≠ g → w'.heap[b]? = w.heap[b]?

theorem Kept.refl (g : Nat) (w : World) : Kept g w w := ⟨Below.refl _ _, fun _ _ _ => rfl⟩
theorem Kept.trans {g : Nat} {w w1 w2 : World} (h : Kept g w w1) (h' : Kept g w1 w2) : Kept g w w2 :=
  ⟨h.bel.trans h'.bel, fun b hb hn => (h'.other b (Nat.lt_of_lt_of_le hb h.bel.size) hn).trans (h.other b hb hn)⟩
theorem Kept.of_below {g : Nat} {w w' : World} (h : Below w.heap.size w w') (hg : g ≤ w.heap.size) : Kept g w w' :=
  ⟨h.mono hg, fun b hb _ => h.block b hb⟩
theorem Kept.cell {g : Nat} {w w' : World} (h : Kept g w w') {p : Addr} (hp : p.block < w.heap.size) (hn : p.block ≠ g) : w'.cell? p = w.cell? p := World.cell?_of_block (h.other p.block hp hn)
theorem Kept.own {g base n size : Nat} {w w' : World} {e : TypeId} {v : Value} {xs : List Value} (h : Kept g w w') (hb : g < base) (ho : w.ownsRow base e size v n xs) : w'.ownsRow base e size v n xs := by
  obtain ⟨h1, h2⟩ := ho
  refine ⟨h1, ?_⟩
  rcases h2 with h2 | ⟨b, cap, cur, hv, hbb, hg, r⟩
  · exact Or.inl h2
  · exact Or.inr ⟨b, cap, cur, hv, hbb, (h.other b (Array.getElem?_eq_some_iff.1 hg).1 (by omega)).trans hg, r⟩

theorem DiceK.high {w w' : World} {g B : Nat} {l : List Int} {k : Nat} (D : DiceK w g l k) (h : Below B w w') (hg : g < B) : DiceK w' g l k := by
  obtain ⟨lt, ⟨A, c, h0, hS⟩, h1, h2, h3, h4⟩ := D
  exact ⟨Nat.lt_of_lt_of_le lt h.size, ⟨A, c, (h.cell hg).trans h0, hS.below (h.mono (Nat.le_of_lt hg))⟩, (h.cell hg).trans h1, (World.frozen?_of_block (h.block g hg)).trans h2, h3, h4⟩

set_option maxRecDepth 100000 in
set_option maxHeartbeats 1000000 in
theorem next_any (w : World) (g n : Nat) (l : List Int) (k : Nat) (D : DiceK w g l k) (hn : 1 ≤ n) (hn2 : n ≤ 1000000) :
    Calls Try.prog 11 #[.pointer (some ⟨g, 0, none⟩), .int .i64 (n : Int)] w fun e w' => ∃ (v : Nat) (k' : Nat), e = .returned (.int .i64 (v : Int)) ∧ v < n ∧
      DiceK w' g l k' ∧ Kept g w w' ∧ w.heap.size = w'.heap.size := by
  obtain ⟨lt, ⟨A, c, h0, hS⟩, h1, h2, h3, h4⟩ := D
  go_enter Try.func11, Try.ntmps11
  by_cases hk : k < l.length
  · obtain ⟨b, off, rfl, hb, hc⟩ := hS.cells (by omega)
    have c1 := hc k hk
    generalize hxv : l.getD k 0 = x at *
    have hfit := hS.fit
    have HSd := Lib.hid hS
    clear hc hS
    have hne : b ≠ g := by omega
    have i1 : IntKind.i64.wrap ((k : Int) + 1) = (k : Int) + 1 := IntWalk.i64_in _ (by omega)
    go_wp2_with fail
    go_quiet (fail)
    go_wp2_with fail
    obtain ⟨w1, hw1⟩ : ∃ w1, w1 = w.drewN nq := ⟨_, rfl⟩
    have hb0 : Below g w w1 := by rw [hw1]; exact below_drewN (Below.refl g w) _
    have far0 : ∀ p, w1.cell? p = w.cell? p := by rw [hw1]; exact fun _ => rfl
    have fro0 : w1.frozen? ⟨g, 1, none⟩ = false := by rw [hw1]; exact h2
    have lt1 : g < w1.heap.size := by rw [hw1]; exact lt
    have sz1 : w.heap.size = w1.heap.size := by rw [hw1]; rfl
    have hp1 : ∀ b : Nat, w1.heap[b]? = w.heap[b]? := by rw [hw1]; exact fun _ => rfl
    rw [← hw1]
    have d0 : (w1.setCell ⟨g, 1, none⟩ (.int .i64 ((k : Int) + 1))).cell? ⟨g, 0, none⟩ = some (.slice (some ⟨b, off, none⟩) l.length c) := (World.cell?_setCell_other _ _ _ _ (by intro h; cases h)).trans ((far0 _).trans h0)
    have d1 : (w1.setCell ⟨g, 1, none⟩ (.int .i64 ((k : Int) + 1))).cell? ⟨g, 1, none⟩ = some (.int .i64 ((k : Int) + 1)) := World.cell?_setCell_same _ _ _ ((far0 _).trans h1)
    have d2 : (w1.setCell ⟨g, 1, none⟩ (.int .i64 ((k : Int) + 1))).cell? ⟨b, off + k, none⟩ = some (.int .i64 x) := (World.cell?_setCell_other _ _ _ _ (by intro h; injection h with h; omega)).trans ((far0 _).trans c1)
    have HZ := Lib.hid (And.intro hb0 (And.intro far0 (And.intro fro0 (And.intro lt1 (And.intro sz1 hp1)))))
    clear hb0 far0 fro0 lt1 sz1 hp1 hw1
    have HW := Lib.hid (And.intro h1 (And.intro h2 (And.intro hxv (And.intro lt h0))))
    obtain ⟨W2, hW2⟩ : ∃ W2, W2 = w1.setCell ⟨g, 1, none⟩ (.int .i64 ((k : Int) + 1)) := ⟨_, rfl⟩
    rw [← hW2] at d0 d1 d2 ⊢
    have HW2 := Lib.hid hW2
    have i2 : IntKind.i64.wrap ((k : Int) + 1 - 1) = (k : Int) := by rw [show (k : Int) + 1 - 1 = (k : Int) by omega]; exact IntWalk.i64_in _ (by omega)
    have i3 : (k : Int) + 1 - 1 = (k : Int) := by omega
    have i6 : IntKind.i64.wrap (k : Int) = (k : Int) := IntWalk.i64_in _ (by omega)
    have i4 : (k : Int) < (l.length : Int) := by omega
    have i5 : (0 : Int) ≤ (k : Int) := by omega
    clear h1 h2 hxv lt h0 hW2 c1 i1
    go_quiet ((go_at_call 20; exact Calls.quiet_of_same ((kitMod.mod_any x (n : Int) _ (by omega) (by omega)).mono fun _ _ h => ⟨h.1, h.2.symm⟩)))
    go_wp2_with fail
    go_ret
    obtain ⟨h1, h2, hxv, lt, h0⟩ := HW.out
    obtain ⟨hb0, far0, fro0, lt1, sz1, hp1⟩ := HZ.out
    have e2 := HW2.out
    have hbel := below_drewN (hb0.setCell (p := ⟨g, 1, none⟩) (Nat.le_refl _) (.int .i64 ((k : Int) + 1))) nq
    have ff : W2.frozen? ⟨g, 1, none⟩ = false := by rw [e2]; simp [go_sem, fro0]
    have hsz : W2.heap.size = w1.heap.size := by rw [e2]; exact World.size_setCell _ _ _
    have hblk : ∀ b : Nat, b ≠ g → W2.heap[b]? = w1.heap[b]? := fun b hb => by rw [e2]; exact Below.heap_setCell _ _ _ _ hb
    rw [← e2] at hbel
    have p0 : 0 ≤ x % (n : Int) := Int.emod_nonneg _ (by omega)
    have p1 : x % (n : Int) < (n : Int) := Int.emod_lt_of_pos _ (by omega)
    refine ⟨(x % (n : Int)).toNat, k + 1, kitMod.ret_int (by omega), by omega, ?_, ⟨hbel, fun b _ hn => (hblk b hn).trans (hp1 b)⟩, by rw [sz1, ← hsz]; rfl⟩
    exact ⟨by show g < W2.heap.size; omega, ⟨_, _, d0, HSd.out.below hbel⟩, d1, ff, by omega, h4⟩
  · obtain rfl : k = l.length := by omega
    have hS2 := Lib.hid hS
    clear hS h3 hk
    go_wp2_with fail
    go_quiet (fail)
    go_wp2_with fail
    go_ret
    have hbel := below_drewN (Below.refl g w) nq
    refine ⟨0, l.length, rfl, by omega, ?_, ⟨hbel, fun _ _ _ => rfl⟩, rfl⟩
    exact ⟨lt, ⟨A, c, h0, hS2.out.below hbel⟩, h1, h2, Nat.le_refl _, h4⟩

theorem light_any (a : Option Addr) (len cap : Nat) (w : World) :
    Calls Try.prog 4 #[.slice a len cap] w fun e w' => e = .returned (.bool (decide ((len : Int) ≤ 500))) ∧ w' = w := by
  go_enter Try.func4, Try.ntmps4
  go_wp2
  go_ret
  exact ⟨rfl, rfl⟩

set_option maxRecDepth 100000 in
theorem roll_any (A : Option Addr) (c : Nat) (l : List Int) (w : World) (S : Nums w w.heap.size A c l) (hl : l.length ≤ 500) :
    Calls Try.prog 7 #[.slice A l.length c] w fun e w' => e = .returned (.pointer (some ⟨w.heap.size, 0, none⟩)) ∧ DiceK w' w.heap.size l 0 ∧ Below w.heap.size w w' ∧ w'.heap.size = w.heap.size + 1 := by
  have HS := Lib.hid S
  clear S
  go_enter Try.func7, Try.ntmps7
  go_wp2
  go_ret
  have hb := (Below.refl w.heap.size w).alloc (Nat.le_refl _) (.cells #[.slice A l.length c, .int .i64 0] 50)
  refine ⟨rfl, ⟨by simp, ⟨A, c, by simp [go_sem], HS.out.below hb⟩, by simp [go_sem], by simp [go_sem], Nat.zero_le _, hl⟩, hb, by simp⟩

set_option maxRecDepth 100000 in
set_option maxHeartbeats 400000 in
/-- Word of three words: one of them -/
theorem word_any (w : World) (g b cap : Nat) (x y z : ByteArray) (l : List Int) (k : Nat) (D : DiceK w g l k) (h0 : w.cell? ⟨b, 0, none⟩ = some (.string x)) (h1 : w.cell? ⟨b, 1, none⟩ = some (.string y)) (h2 : w.cell? ⟨b, 2, none⟩ = some (.string z)) (hb : b < w.heap.size) (hg : b ≠ g) :
    Calls Try.prog 12 #[.pointer (some ⟨g, 0, none⟩), .slice (some ⟨b, 0, none⟩) 3 cap] w fun e w' => ∃ (s : ByteArray) (k' : Nat), e = .returned (.string s) ∧ (s = x ∨ s = y ∨ s = z) ∧
      DiceK w' g l k' ∧ Kept g w w' ∧ w.heap.size = w'.heap.size := by
  go_enter Try.func12, Try.ntmps12
  go_wp2_with fail
  refine (next_any w g 3 l k D (by omega) (by omega)).mono ?_
  rintro _ w1 ⟨v, k', rfl, hv, D1, hK, hsz⟩
  have e0 := (hK.cell (p := ⟨b, 0, none⟩) hb hg).trans h0
  have e1 := (hK.cell (p := ⟨b, 1, none⟩) hb hg).trans h1
  have e2 := (hK.cell (p := ⟨b, 2, none⟩) hb hg).trans h2
  clear h0 h1 h2
  have hv3 : v = 0 ∨ v = 1 ∨ v = 2 := by omega
  rcases hv3 with rfl | rfl | rfl
  · go_wp2_with fail
    go_ret
    exact ⟨x, k', rfl, .inl rfl, D1, hK, hsz⟩
  · go_wp2_with fail
    go_ret
    exact ⟨y, k', rfl, .inr (.inl rfl), D1, hK, hsz⟩
  · go_wp2_with fail
    go_ret
    exact ⟨z, k', rfl, .inr (.inr rfl), D1, hK, hsz⟩
end Go.Proofs.Ytlionnncmgiifaa.dice
