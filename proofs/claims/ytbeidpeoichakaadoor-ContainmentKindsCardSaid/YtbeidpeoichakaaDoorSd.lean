/- containment: Valid, Score; the reference: Whole. -/
import Derived.Test.YtbeidpeoichakaaDoorSc
set_option linter.unusedSimpArgs false
set_option linter.unusedVariables false
namespace Go.Proofs.YtbeidpeoichakaaDoor.se
open Go.RowKit Go.Proofs.YtbeidpeoichakaaDoor.fm Go.Proofs.YtbeidpeoichakaaDoor.mem Go.Proofs.YtbeidpeoichakaaDoor.fa Go.Proofs.YtbeidpeoichakaaDoor.fb Go.Proofs.YtbeidpeoichakaaDoor.fu Go.Proofs.YtbeidpeoichakaaDoor.fv Go.Proofs.YtbeidpeoichakaaDoor.fw Go.Proofs.YtbeidpeoichakaaDoor.fy Go.Proofs.YtbeidpeoichakaaDoor.ga Go.Proofs.YtbeidpeoichakaaDoor.gb Go.Proofs.YtbeidpeoichakaaDoor.gc Go.Proofs.YtbeidpeoichakaaDoor.fj Go.Proofs.YtbeidpeoichakaaDoor.gg Go.Proofs.YtbeidpeoichakaaDoor.ja Go.Proofs.YtbeidpeoichakaaDoor.jb Go.Proofs.YtbeidpeoichakaaDoor.jg Go.Proofs.YtbeidpeoichakaaDoor.jh Go.Proofs.YtbeidpeoichakaaDoor.pa Go.Proofs.YtbeidpeoichakaaDoor.pb Go.Proofs.YtbeidpeoichakaaDoor.pc Go.Proofs.YtbeidpeoichakaaDoor.nb Go.Proofs.YtbeidpeoichakaaDoor.hc Go.Proofs.YtbeidpeoichakaaDoor.hd Go.Proofs.YtbeidpeoichakaaDoor.re Go.Proofs.YtbeidpeoichakaaDoor.sa

set_option maxRecDepth 100000 in
set_option maxHeartbeats 4000000 in
theorem rwhole_any (w : World) (n : Int) (h1 : -9223372036854775808 ≤ n) (h2 : n < 9223372036854775808) :
    Calls Tryd.prog 7 #[.int .i64 n] w fun e w' => ∃ v, e = .returned v ∧ IsFrac w' v n 1 ∧ Below w.heap.size w w' := by
  go_enter Tryd.func7, Tryd.ntmps7
  have HB := Lib.hid (fbox_made w)
  obtain ⟨W, hW⟩ : ∃ W, W = w.alloc (.cells #[.bool false, .slice none 0 0, .bool false, .slice none 0 0] 27) := ⟨_, rfl⟩
  rw [← hW] at HB
  go_upto_region 1 with fail
  rw [← hW]
  clear hW
  go_wp2_with fail
  refine (rfromInt_any W n h1 h2).mono ?_
  rintro _ W1 ⟨_, rfl, ⟨A, c, rfl, R⟩, hb1⟩
  have H1 := Lib.hid (And.intro (HB.out.after hb1) R)
  clear hb1 R HB
  go_wp2_with fail
  refine (rfromInt_any W1 1 (by decide) (by decide)).mono ?_
  rintro _ W2 ⟨_, rfl, ⟨B, k, rfl, S⟩, hb2⟩
  have F3 := H1.out.1.after hb2
  have r0 := F3.r0
  have r1 := F3.r1
  have r2 := F3.r2
  have r3 := F3.r3
  have f0 := F3.fr 0
  have f1 := F3.fr 1
  have f2 := F3.fr 2
  have f3 := F3.fr 3
  have R3 := (H1.out.2.below hb2).more hb2.size
  obtain ⟨e, d0, d1, d2, d3⟩ := F3.filled R3 (show Rd W2 W2.heap.size B k (digs 1) from S) _ rfl
  have HE := Lib.hid (And.intro e (And.intro d0 (And.intro d1 (And.intro d2 d3))))
  clear e d0 d1 d2 d3 R3 F3 hb2 S H1
  go_wp2
  (try simp only [Exit.inBlock, Exit.then])
  refine bodyPost_ret (results_frac1 rfl _ _ w.heap.size rfl HE.out.2.1 HE.out.2.2.1 HE.out.2.2.2.1 HE.out.2.2.2.2) rfl ?_
  exact ⟨_, rfl, HE.out.1.1, HE.out.1.2⟩

set_option maxRecDepth 100000 in
theorem cvalid_any (w : World) (t : Int) : Calls Tryd.prog 27 #[.int .i64 t] w fun e w' => e = .returned (.bool (t == 1 || t == 2 || t == 3)) ∧ w = w' := by
  go_enter Tryd.func27, Tryd.ntmps27
  by_cases h1 : t = 1
  · subst h1
    go_wp2_with fail
    go_ret
    exact ⟨rfl, rfl⟩
  · by_cases h2 : t = 2
    · subst h2
      go_wp2_with fail
      go_ret
      exact ⟨rfl, rfl⟩
    · go_wp2_with fail
      go_ret
      exact ⟨rfl, rfl⟩

/-- what a kind divides by -/
def dv (t c q n : Nat) : Nat := if t = 1 then q else if t = 2 then n else q + n - c
/-- a score -/
def Score (w : World) (c m : Nat) (e : Ending) (w' : World) : Prop :=
  ∃ (A : Option Addr) (k : Nat) (B : Option Addr) (k' : Nat) (Z : Int) (D : Nat), e = .returned (.tuple #[.agg #[.bool (decide (Z < 0)), .slice A (digs Z.natAbs).length k, .bool false, .slice B (digs D).length k'], .bool true]) ∧
    Rd w' w'.heap.size A k (digs Z.natAbs) ∧ Rd w' w'.heap.size B k' (digs D) ∧ Below w.heap.size w w' ∧ Hid (nb.Good 2 Z D ∧ q Z D = q (c : Int) m)
theorem turned_nat (c m : Nat) : turned (c : Int) (m : Int) = (c : Int) := by
  unfold turned
  rw [decide_eq_false (by omega), decide_eq_false (by omega)]
  simp [sgnd]
set_option maxRecDepth 100000 in
set_option maxHeartbeats 4000000 in
theorem score_any (w : World) (t c q n : Nat) (ht : t = 1 ∨ t = 2 ∨ t = 3) (hq : 1 ≤ q) (hn : 1 ≤ n) (hq2 : q ≤ 1000) (hn2 : n ≤ 1000) (hcq : c ≤ q) (hcn : c ≤ n) (hT : Tabs w) :
    Calls Tryd.prog 8 #[.int .i64 (t : Int), .int .i64 (c : Int), .int .i64 (q : Int), .int .i64 (n : Int)] w (Score w c (dv t c q n)) := by
  go_enter Tryd.func8, Tryd.ntmps8
  have HB := Lib.hid (fbox_made w)
  obtain ⟨W, hW⟩ : ∃ W, W = w.alloc (.cells #[.bool false, .slice none 0 0, .bool false, .slice none 0 0] 27) := ⟨_, rfl⟩
  rw [← hW] at HB
  go_upto_region 1 with fail
  rw [← hW]
  clear hW
  go_wp2_with fail
  refine (cvalid_any W t).mono ?_
  rintro _ _ ⟨rfl, rfl⟩
  have hv : ((t : Int) == 1 || (t : Int) == 2 || (t : Int) == 3) = true := by
    rcases ht with rfl | rfl | rfl <;> rfl
  rw [hv]
  have h1 : (c : Int) ≤ q := by omega
  have h2 : (c : Int) ≤ n := by omega
  have h3 : (q : Int) ≤ 2147483648 := by omega
  have h4 : (n : Int) ≤ 2147483648 := by omega
  clear hv
  have e1 : IntKind.i64.wrap ((q : Int) + n) = (q : Int) + n := IntWalk.i64_in _ (by omega)
  have e2 : IntKind.i64.wrap ((q : Int) + n - c) = (q : Int) + n - c := IntWalk.i64_in _ (by omega)
  obtain ⟨m, hm⟩ : ∃ m, m = dv t c q n := ⟨_, rfl⟩
  rw [← hm]
  have hm1 : 1 ≤ m := by rw [hm]; unfold dv; (repeat' split) <;> omega
  have hm2 : m ≤ 2000 := by rw [hm]; unfold dv; (repeat' split) <;> omega
  have HT := Lib.hid (And.intro hT (turned_nat c m))
  clear hT
  have hc : ∀ W' : World, Tabs W' → Calls Tryd.prog 29 #[.int .i64 (c : Int), .int .i64 (m : Int)] W' (Out W' 2 (nb.q (c : Int) m)) := by
    intro W' hT
    refine (of_any W' c m (by omega) (by omega) (by omega) (by omega) (by omega) hT).mono ?_
    intro e W'' h
    rw [HT.out.2, Int.natAbs_natCast] at h
    exact out_low h (int_len (by omega) (by omega)) (by have := int_len (n := (m : Int)) (by omega) (by omega); rwa [Int.natAbs_natCast] at this) (by omega) (by decide)
  have HC := Lib.hid hc
  clear hc
  have hd : (t = 1 ∧ (m : Int) = q ∧ Hid (dv 1 c q n = m)) ∨ (t = 2 ∧ (m : Int) = n ∧ Hid (dv 2 c q n = m)) ∨ (t = 3 ∧ (m : Int) = (q : Int) + n - c ∧ Hid (dv 3 c q n = m)) := by
    rcases ht with h | h | h
    · exact .inl ⟨h, by rw [hm]; unfold dv; rw [if_pos h], Lib.hid (by rw [hm, h])⟩
    · exact .inr (.inl ⟨h, by rw [hm]; unfold dv; rw [if_neg (by omega), if_pos h], Lib.hid (by rw [hm, h])⟩)
    · exact .inr (.inr ⟨h, by rw [hm]; unfold dv; rw [if_neg (by omega), if_neg (by omega)]; omega, Lib.hid (by rw [hm, h])⟩)
  clear hm ht
  rcases hd with ⟨rfl, hd, HM⟩ | ⟨rfl, hd, HM⟩ | ⟨rfl, hd, HM⟩
  all_goals (
    have hd2 := Lib.hid hd
    clear hd
    go_upto_region 9 with fail
    rw [← hd2.out]
    clear hd2
    go_wp2_with fail
    refine (HC.out W (HT.out.1.below HB.out.bel)).mono ?_
    rintro _ W1 ⟨A, k, B, k', Z, D, rfl, R, S, hb1, HG⟩
    have hF := sa.fat_new R S 27
    have hb2 : Below W1.heap.size W1 (W1.alloc (.cells #[.bool (decide (Z < 0)), .slice A (digs Z.natAbs).length k, .bool false, .slice B (digs D).length k'] 27)) := (Below.refl _ _).alloc (Nat.le_refl _) _
    have F2 := (HB.out.after hb1).after hb2
    clear HC HT R S hb1 hb2
    go_upto_region 10 with fail
    obtain ⟨U, hU⟩ : ∃ U, U = W1.alloc (.cells #[.bool (decide (Z < 0)), .slice A (digs Z.natAbs).length k, .bool false, .slice B (digs D).length k'] 27) := ⟨_, rfl⟩
    rw [← hU] at hF F2 ⊢
    clear hU
    generalize W1.heap.size = g at *
    have x0 := hF.c0
    have x1 := hF.c1
    have x2 := hF.c2
    have x3 := hF.c3
    have r0 := F2.r0
    have r1 := F2.r1
    have r2 := F2.r2
    have r3 := F2.r3
    have f0 := F2.fr 0
    have f1 := F2.fr 1
    have f2 := F2.fr 2
    have f3 := F2.fr 3
    obtain ⟨e, d0, d1, d2, d3⟩ := F2.filled hF.R hF.R' _ rfl
    have HE := Lib.hid (And.intro e (And.intro d0 (And.intro d1 (And.intro d2 d3))))
    clear e d0 d1 d2 d3 hF F2 HB
    go_wp2
    (try simp only [Exit.inBlock, Exit.then])
    refine bodyPost_ret (results_frac rfl _ _ w.heap.size rfl HE.out.2.1 HE.out.2.2.1 HE.out.2.2.2.1 HE.out.2.2.2.2) rfl ?_
    obtain ⟨A', c', B', k2, he, R1, R2⟩ := HE.out.1.1
    injection he with he
    simp only [Array.mk.injEq, List.cons.injEq, Value.slice.injEq, and_true, true_and] at he
    obtain ⟨⟨_, _⟩, _, _⟩ := he
    subst_vars
    exact ⟨_, _, _, _, Z, D, rfl, R1, R2, HE.out.1.2, Lib.hid ⟨HG.out.1, HG.out.2⟩⟩)
end Go.Proofs.YtbeidpeoichakaaDoor.se
