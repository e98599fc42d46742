/- The mill's Rule, and distance.Lengths at its rules. -/
import Derived.Test.YtgmnjiiommbjaaaDt
import Derived.Deep.RegionHeld3
set_option linter.unusedVariables false
set_option linter.unusedSimpArgs false
namespace Go.Proofs.Ytgmnjiiommbjaaa.dist
open Go.RowKit Go.Proofs.Ytgmnjiiommbjaaa.txt Go.Proofs.Ytgmnjiiommbjaaa.mill Go.Proofs.Ytgmnjiiommbjaaa.tx

/-- a fresh rule at block r -/
def RuleAt (w : World) (r : Nat) : Prop := ∀ j, j < 4 → w.cell? ⟨r, j, none⟩ = some (.int .i64 0) ∧ w.frozen? ⟨r, j, none⟩ = false

theorem results_rule {fn : Func} {p : Tmp} (h : fn.results = #[.cell p 24]) (tmps : Array Value) (w : World) (g : Nat) {v0 v1 v2 v3 : Value} (hp : tmps.getD p undef = .pointer (some ⟨g, 0, none⟩))
    (c0 : w.cell? ⟨g, 0, none⟩ = some v0) (c1 : w.cell? ⟨g, 1, none⟩ = some v1) (c2 : w.cell? ⟨g, 2, none⟩ = some v2) (c3 : w.cell? ⟨g, 3, none⟩ = some v3) : (results fn tmps).run Try.prog w = .ok (.agg #[v0, v1, v2, v3]) w := by
  have hp' : tmps[p]?.getD undef = .pointer (some ⟨g, 0, none⟩) := by simpa using hp
  simp [results, h, hp', asAddr, go_sem, c0, c1, c2, c3]
def putRule (w : World) (r : Nat) (a b c d : Int) : World := (((w.setCell ⟨r, 0, none⟩ (.int .i64 a)).setCell ⟨r, 1, none⟩ (.int .i64 b)).setCell ⟨r, 2, none⟩ (.int .i64 c)).setCell ⟨r, 3, none⟩ (.int .i64 d)
theorem put_rule {w : World} {r : Nat} (h : RuleAt w r) (a b c d : Int) : (putRule w r a b c d).cell? ⟨r, 0, none⟩ = some (.int .i64 a) ∧ (putRule w r a b c d).cell? ⟨r, 1, none⟩ = some (.int .i64 b) ∧ (putRule w r a b c d).cell? ⟨r, 2, none⟩ = some (.int .i64 c) ∧ (putRule w r a b c d).cell? ⟨r, 3, none⟩ = some (.int .i64 d) ∧ Below r w (putRule w r a b c d) := by
  have h0 := (h 0 (by omega)).1
  have h1 := (h 1 (by omega)).1
  have h2 := (h 2 (by omega)).1
  have h3 := (h 3 (by omega)).1
  unfold putRule
  refine ⟨?_, ?_, ?_, ?_, ((((Below.refl r w).setCell (p := ⟨r, 0, none⟩) (Nat.le_refl _) _).setCell (p := ⟨r, 1, none⟩) (Nat.le_refl _) _).setCell (p := ⟨r, 2, none⟩) (Nat.le_refl _) _).setCell (p := ⟨r, 3, none⟩) (Nat.le_refl _) _⟩
  · rw [World.cell?_setCell_other _ _ _ _ (by intro h; injection h with _ h; omega), World.cell?_setCell_other _ _ _ _ (by intro h; injection h with _ h; omega), World.cell?_setCell_other _ _ _ _ (by intro h; injection h with _ h; omega), World.cell?_setCell_same _ _ _ h0]
  · rw [World.cell?_setCell_other _ _ _ _ (by intro h; injection h with _ h; omega), World.cell?_setCell_other _ _ _ _ (by intro h; injection h with _ h; omega)]
    exact World.cell?_setCell_same _ _ _ (u := .int .i64 0) (by rw [World.cell?_setCell_other _ _ _ _ (by intro h; injection h with _ h; omega)]; exact h1)
  · rw [World.cell?_setCell_other _ _ _ _ (by intro h; injection h with _ h; omega)]
    exact World.cell?_setCell_same _ _ _ (u := .int .i64 0) (by rw [World.cell?_setCell_other _ _ _ _ (by intro h; injection h with _ h; omega), World.cell?_setCell_other _ _ _ _ (by intro h; injection h with _ h; omega)]; exact h2)
  · exact World.cell?_setCell_same _ _ _ (u := .int .i64 0) (by rw [World.cell?_setCell_other _ _ _ _ (by intro h; injection h with _ h; omega), World.cell?_setCell_other _ _ _ _ (by intro h; injection h with _ h; omega), World.cell?_setCell_other _ _ _ _ (by intro h; injection h with _ h; omega)]; exact h3)

theorem rule_kept {w w' : World} {r g : Nat} (h : RuleAt w r) (K : Kept g w w') (hr : r < w.heap.size) (hn : r ≠ g) : RuleAt w' r := fun j hj =>
  ⟨(K.cell (p := ⟨r, j, none⟩) hr hn).trans (h j hj).1, (K.fr (p := ⟨r, j, none⟩) hr hn).trans (h j hj).2⟩

set_option maxRecDepth 100000 in
set_option maxHeartbeats 2000000 in
theorem rule_any (w : World) (g : Nat) (l : List Nat) (k : Nat) (D : DiceAt w g l k) :
    Calls Try.prog 17 #[.pointer (some ⟨g, 0, none⟩)] w fun e w' => ∃ (a b c d : Int) (k' : Nat), e = .returned (ruleV a b c d) ∧ Hid (diceR a b c d) ∧ DiceAt w' g l k' ∧ Kept g w w' := by
  have hgl := D.lt
  go_enter Try.func17, Try.ntmps17
  go_wp2_with fail
  have hb0 : Below w.heap.size w (w.alloc (.cells #[.int .i64 0, .int .i64 0, .int .i64 0, .int .i64 0] 24)) := (Below.refl _ w).alloc (Nat.le_refl _) _
  have hz0 : (w.alloc (.cells #[.int .i64 0, .int .i64 0, .int .i64 0, .int .i64 0] 24)).heap.size = w.heap.size + 1 := by simp
  have q0 : ∀ j, j < 4 → (w.alloc (.cells #[.int .i64 0, .int .i64 0, .int .i64 0, .int .i64 0] 24)).cell? ⟨w.heap.size, j, none⟩ = some (.int .i64 0) ∧ (w.alloc (.cells #[.int .i64 0, .int .i64 0, .int .i64 0, .int .i64 0] 24)).frozen? ⟨w.heap.size, j, none⟩ = false := by
    intro j hj
    have : j = 0 ∨ j = 1 ∨ j = 2 ∨ j = 3 := by omega
    rcases this with rfl | rfl | rfl | rfl <;> exact ⟨by simp [go_sem], by simp [go_sem]⟩
  obtain ⟨W0, hW0⟩ : ∃ W0, W0 = w.alloc (.cells #[.int .i64 0, .int .i64 0, .int .i64 0, .int .i64 0] 24) := ⟨_, rfl⟩
  rw [← hW0] at hb0 hz0 q0 ⊢
  clear hW0
  have D0 := D.after hb0
  have HB0 := Lib.hid (And.intro hb0 q0)
  obtain ⟨r, hr⟩ : ∃ r, r = w.heap.size := ⟨_, rfl⟩
  rw [← hr] at HB0 hz0 hgl ⊢
  have HR := Lib.hid hr
  clear hb0 q0 D hr
  refine (pick_some W0 g 3 l k D0 (by omega) (by omega)).mono ?_
  rintro _ w1 ⟨q, k1, rfl, hq, D1, K1⟩
  have hz1 := K1.bel.size
  have HC1 : Hid (RuleAt w1 r ∧ Kept g w w1) := Lib.hid ⟨fun j hj => ⟨(K1.cell (p := ⟨r, j, none⟩) (by show r < _; omega) (by show r ≠ g; omega)).trans (HB0.out.2 j hj).1, (K1.fr (p := ⟨r, j, none⟩) (by show r < _; omega) (by show r ≠ g; omega)).trans (HB0.out.2 j hj).2⟩, (Kept.of_below (by have := HB0.out.1; rw [HR.out] at this; exact this) (by have := HR.out; omega)).trans K1⟩
  clear K1 D0 HB0
  have p00 := HC1.out.1 0 (by omega)
  have p01 := HC1.out.1 1 (by omega)
  have p02 := HC1.out.1 2 (by omega)
  have p03 := HC1.out.1 3 (by omega)
  obtain ⟨c0, f0⟩ := p00
  obtain ⟨c1, f1⟩ := p01
  obtain ⟨c2, f2⟩ := p02
  obtain ⟨c3, f3⟩ := p03
  by_cases hq0 : q = 0
  · subst hq0
    rw [show ((0 : Nat) : Int) = 0 from rfl]
    go_wp2_with fail
    obtain ⟨d0, d1, d2, d3, hb⟩ := put_rule HC1.out.1 1 0 0 0
    change bodyPost _ _ _ _ _ (putRule w1 r 1 0 0 0)
    refine bodyPost_ret (results_rule rfl _ _ r rfl d0 d1 d2 d3) rfl ?_
    exact ⟨1, 0, 0, 0, k1, rfl, Lib.hid (.inl ⟨rfl, rfl, rfl, rfl⟩), D1.high hb hgl, HC1.out.2.then_below (hb.mono (by have := HR.out; omega)) (by have := HR.out; omega)⟩
  · have e0 : ((q : Int) == 0) = false := by rw [beq_eq_false_iff_ne]; omega
    by_cases hq1 : q = 1
    · subst hq1
      rw [show ((1 : Nat) : Int) = 1 from rfl]
      clear e0 c0 c1 c2 c3 f0 f1 f2 f3
      go_wp2_with fail
      refine (pick_some w1 g 4 l k1 D1 (by omega) (by omega)).mono ?_
      rintro _ w2 ⟨q2, k2, rfl, hq2, D2, K2⟩
      have hz2 := K2.bel.size
      have HC2 : Hid (RuleAt w2 r ∧ Kept g w w2) := Lib.hid ⟨rule_kept HC1.out.1 K2 (by omega) (by omega), HC1.out.2.trans K2⟩
      clear K2
      obtain ⟨c0, f0⟩ := HC2.out.1 0 (by omega)
      obtain ⟨c1, f1⟩ := HC2.out.1 1 (by omega)
      obtain ⟨c2, f2⟩ := HC2.out.1 2 (by omega)
      obtain ⟨c3, f3⟩ := HC2.out.1 3 (by omega)
      go_wp2_with fail
      obtain ⟨d0, d1, d2, d3, hb⟩ := put_rule HC2.out.1 2 q2 0 0
      change bodyPost _ _ _ _ _ (putRule w2 r 2 q2 0 0)
      refine bodyPost_ret (results_rule rfl _ _ r rfl d0 d1 d2 d3) rfl ?_
      exact ⟨2, q2, 0, 0, k2, rfl, Lib.hid (.inr (.inl ⟨rfl, rfl, rfl, by omega, by omega⟩)), D2.high hb hgl, HC2.out.2.then_below (hb.mono (by have := HR.out; omega)) (by have := HR.out; omega)⟩
    · have e1 : ((q : Int) == 1) = false := by rw [beq_eq_false_iff_ne]; omega
      clear c0 c1 c2 c3 f0 f1 f2 f3
      go_wp2_with fail
      refine (pick_some w1 g 4 l k1 D1 (by omega) (by omega)).mono ?_
      rintro _ w2 ⟨q2, k2, rfl, hq2, D2, K2⟩
      have hz2 := K2.bel.size
      have HC2 : Hid (RuleAt w2 r ∧ Kept g w w2) := Lib.hid ⟨rule_kept HC1.out.1 K2 (by omega) (by omega), HC1.out.2.trans K2⟩
      clear K2
      have e2 : IntKind.i64.wrap (1 + (q2 : Int)) = ((q2 + 1 : Nat) : Int) := by rw [show 1 + (q2 : Int) = ((q2 + 1 : Nat) : Int) by omega]; exact IntWalk.i64_in _ (by omega)
      go_wp2_with fail
      refine (pick_some w2 g (q2 + 1) l k2 D2 (by omega) (by omega)).mono ?_
      rintro _ w3 ⟨q3, k3, rfl, hq3, D3, K3⟩
      have hz3 := K3.bel.size
      have HC3 : Hid (RuleAt w3 r ∧ Kept g w w3) := Lib.hid ⟨rule_kept HC2.out.1 K3 (by omega) (by omega), HC2.out.2.trans K3⟩
      clear K3 e2
      have e3 : IntKind.i64.wrap (1 + (q3 : Int)) = 1 + (q3 : Int) := IntWalk.i64_in _ (by omega)
      obtain ⟨c0, f0⟩ := HC3.out.1 0 (by omega)
      obtain ⟨c1, f1⟩ := HC3.out.1 1 (by omega)
      obtain ⟨c2, f2⟩ := HC3.out.1 2 (by omega)
      obtain ⟨c3, f3⟩ := HC3.out.1 3 (by omega)
      go_wp2_with fail
      obtain ⟨d0, d1, d2, d3, hb⟩ := put_rule HC3.out.1 3 0 (1 + (q3 : Int)) ((q2 : Int) + 1)
      change bodyPost _ _ _ _ _ (putRule w3 r 3 0 (1 + (q3 : Int)) ((q2 : Int) + 1))
      refine bodyPost_ret (results_rule rfl _ _ r rfl d0 d1 d2 d3) rfl ?_
      exact ⟨3, 0, 1 + (q3 : Int), (q2 : Int) + 1, k3, rfl, Lib.hid (.inr (.inr ⟨rfl, rfl, by omega, by omega, by omega⟩)), D3.high hb hgl, HC3.out.2.then_below (hb.mono (by have := HR.out; omega)) (by have := HR.out; omega)⟩

set_option maxRecDepth 100000 in
set_option maxHeartbeats 2000000 in
theorem lengths_any (a b c d : Int) (n : Nat) (w : World) (h : diceR a b c d) (hn : n ≤ 1000000) :
    Calls Try.prog 23 #[ruleV a b c d, .int .i64 (n : Int)] w fun e w' => (∃ (lo hi : Int) (ok : Bool), e = .returned (.tuple #[.int .i64 lo, .int .i64 hi, .bool ok]) ∧ Hid (ok = true → a ≠ 3 ∧ lo ≤ max 0 ((n : Int) - b) ∧ (n : Int) + b ≤ hi)) ∧ Below w.heap.size w w' := by
  have hok := h.ok
  have hva := fun W => valid_any a b c d W
  simp only [hok] at hva
  have HO := Lib.hid h
  clear h hok
  go_enter Try.func23, Try.ntmps23
  have hb0 : ∀ v, Below w.heap.size w (w.alloc (.cells v 24)) := fun v => (Below.refl _ w).alloc (Nat.le_refl _) _
  have HB := Lib.hid hb0
  clear hb0
  go_wp2_with fail
  refine (hva _).mono ?_
  rintro _ w1 ⟨rfl, b1⟩
  clear hva
  have c0 : w1.cell? ⟨w.heap.size, 0, none⟩ = some (.int .i64 a) := (b1.cell (p := ⟨w.heap.size, 0, none⟩) (by simp)).trans (by rw [World.cell?_alloc_new]; rfl)
  have c1 : w1.cell? ⟨w.heap.size, 1, none⟩ = some (.int .i64 b) := (b1.cell (p := ⟨w.heap.size, 1, none⟩) (by simp)).trans (by rw [World.cell?_alloc_new]; rfl)
  have HW := Lib.hid ((HB.out _).trans (b1.mono (by simp)))
  clear b1
  have hn0 : ¬ (n : Int) < 0 := by omega
  rcases HO.out with ⟨rfl, rfl, rfl, rfl⟩ | ⟨rfl, rfl, rfl, hl0, hl3⟩ | ⟨rfl, rfl, h1, h2, h3⟩
  · have e1 : IntKind.i64.wrap ((n : Int) - 0) = (n : Int) := by rw [Int.sub_zero]; exact IntWalk.i64_in _ (by omega)
    have e2 : IntKind.i64.wrap (9223372036854775807 - (n : Int)) = 9223372036854775807 - (n : Int) := IntWalk.i64_in _ (by omega)
    have g1 : ¬ 9223372036854775807 - (n : Int) < 0 := by omega
    have e3 : IntKind.i64.wrap ((n : Int) + 0) = (n : Int) := by rw [Int.add_zero]; exact IntWalk.i64_in _ (by omega)
    go_wp2_with fail
    go_quiet (fail)
    go_wp2_with fail
    go_returns
    refine ⟨⟨_, _, _, rfl, Lib.hid fun _ => ⟨by decide, ?_, ?_⟩⟩, below_drewN HW.out _⟩
    · simp <;> omega
    · simp <;> omega
  · have e1 : IntKind.i64.wrap ((n : Int) - b) = (n : Int) - b := IntWalk.i64_in _ (by omega)
    have e2 : IntKind.i64.wrap (9223372036854775807 - (n : Int)) = 9223372036854775807 - (n : Int) := IntWalk.i64_in _ (by omega)
    have g1 : ¬ 9223372036854775807 - (n : Int) < b := by omega
    have e3 : IntKind.i64.wrap ((n : Int) + b) = (n : Int) + b := IntWalk.i64_in _ (by omega)
    by_cases hnb : (0 : Int) < (n : Int) - b
    · go_wp2_with fail
      go_quiet (fail)
      go_wp2_with fail
      go_returns
      refine ⟨⟨_, _, _, rfl, Lib.hid fun _ => ⟨by decide, ?_, ?_⟩⟩, below_drewN HW.out _⟩
      · simp <;> omega
      · simp <;> omega
    · go_wp2_with fail
      go_quiet (fail)
      go_wp2_with fail
      go_returns
      refine ⟨⟨_, _, _, rfl, Lib.hid fun _ => ⟨by decide, ?_, ?_⟩⟩, below_drewN HW.out _⟩
      · simp <;> omega
      · simp <;> omega
  · go_wp2_with fail
    go_returns
    exact ⟨⟨0, 0, false, rfl, Lib.hid fun h => by cases h⟩, HW.out⟩
end Go.Proofs.Ytgmnjiiommbjaaa.dist
