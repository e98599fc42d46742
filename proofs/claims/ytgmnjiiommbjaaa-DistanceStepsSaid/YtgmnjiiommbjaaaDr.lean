/- DistanceMetric: the edit distance of three words is a metric. -/
import Derived.Test.YtgmnjiiommbjaaaDq
import Derived.Laws.Cover1
import Derived.Deep.Cut
import Derived.Deep.DeepCutAuto
set_option linter.unusedVariables false
set_option linter.unusedSimpArgs false
namespace Go.Proofs.Ytgmnjiiommbjaaa.dist
open Go.RowKit Go.Proofs.Ytgmnjiiommbjaaa.txt Go.Proofs.Ytgmnjiiommbjaaa.tx Go.Proofs.Ytgmnjiiommbjaaa.mill Go.Proofs.Ytgmnjiiommbjaaa.lev Go.Proofs.Ytgmnjiiommbjaaa.fold Go.Proofs.Ytgmnjiiommbjaaa.pat

theorem refPointsL (X : List UInt8) (w : World) (hs : X.length ≤ 1000000) :
    Calls Try.prog 30 #[.string ⟨X.toArray⟩] w fun e w' => ∃ a cap, e = .returned (.slice a (P X).length cap) ∧ Below w.heap.size w w' :=
  (pts.refPoints_any ⟨X.toArray⟩ (by simpa [ByteArray.size] using hs) w).mono fun _ _ ⟨v, h1, h2, h3⟩ => by
    rcases h2.2 with ⟨rfl, h0⟩ | ⟨g, cap, cur, rfl, _⟩
    · exact ⟨none, 0, by rw [h1]; show _ = Ending.returned (Value.slice none (pts.points ⟨X.toArray⟩).length 0); rw [h0], h3⟩
    · exact ⟨_, _, h1, h3⟩

set_option maxRecDepth 100000 in
set_option maxHeartbeats 4000000 in
theorem metric_law (w : World) (A : Option Addr) (c : Nat) (l : List Nat) (S : Seeds w w.heap.size A c l) (hl : l.length ≤ maxLen) :
    Calls Try.prog 4 #[.slice A l.length c] w fun e w' => e = .returned (.bool true) ∧ Below w.heap.size w w' := by
  go_enter Try.func4, Try.ntmps4
  have HS := Lib.hid S
  clear S
  go_wp2_with fail
  refine (sane_any w).mono ?_
  rintro _ w1 ⟨rfl, b1⟩
  have s1 := b1.size
  go_wp2_with fail
  refine (new_any w1 A c l ((HS.out.below b1).more s1) hl).mono ?_
  rintro _ w2 ⟨rfl, D2, b2⟩
  have HB := Lib.hid (b1.trans (b2.mono s1))
  clear b1 b2
  go_wp2_with fail
  refine (word16_any w2 w1.heap.size _ 0 D2).mono ?_
  rintro _ w3 ⟨a, k3, rfl, ga, la, D3, K3⟩
  go_wp2_with fail
  refine (word16_any w3 w1.heap.size _ k3 D3).mono ?_
  rintro _ w4 ⟨b, k4, rfl, gb, lb, D4, K4⟩
  go_wp2_with fail
  refine (word16_any w4 w1.heap.size _ k4 D4).mono ?_
  rintro _ w5 ⟨c', k5, rfl, gc, lc, D5, K5⟩
  have HC := Lib.hid (HB.out.trans (((K3.trans K4).trans K5).bel.mono s1))
  have z5 := HC.out.size
  clear D2 D3 D4 D5 K3 K4 K5
  go_wp2_with fail
  refine (edit_any a b w5 (by omega) (by omega)).mono ?_
  rintro _ w6 ⟨rfl, b6⟩
  have HC6 := Lib.hid (HC.out.trans (b6.mono z5))
  have z6 := HC6.out.size
  clear b6
  go_wp2_with fail
  refine (edit_any b c' w6 (by omega) (by omega)).mono ?_
  rintro _ w7 ⟨rfl, b7⟩
  have HC7 := Lib.hid (HC6.out.trans (b7.mono z6))
  have z7 := HC7.out.size
  clear b7
  go_wp2_with fail
  refine (edit_any a c' w7 (by omega) (by omega)).mono ?_
  rintro _ w8 ⟨rfl, b8⟩
  have HC8 := Lib.hid (HC7.out.trans (b8.mono z7))
  have z8 := HC8.out.size
  clear b8
  go_wp2_with fail
  refine (refPointsL a w8 (by omega)).mono ?_
  rintro _ w9 ⟨a9, c9, rfl, b9⟩
  have HC9 := Lib.hid (HC8.out.trans (b9.mono z8))
  have z9 := HC9.out.size
  clear b9
  go_wp2_with fail
  refine (refPointsL b w9 (by omega)).mono ?_
  rintro _ w10 ⟨a10, c10, rfl, b10⟩
  have HC10 := Lib.hid (HC9.out.trans (b10.mono z9))
  have z10 := HC10.out.size
  clear b10
  go_wp2_with fail
  refine (edit_any b a w10 (by omega) (by omega)).mono ?_
  rintro _ w11 ⟨rfl, b11⟩
  have HC11 := Lib.hid (HC10.out.trans (b11.mono z10))
  clear b11
  have hs : E a b = E b a := lev_symm (P a) (P b)
  have ht : E a c' ≤ E a b + E b c' := lev_triangle (P a) (P b) (P c')
  have hln : (P a).length ≤ (P b).length + E a b ∧ (P b).length ≤ (P a).length + E a b := lev_lens (P a) (P b)
  have hmx : E a b ≤ max (P a).length (P b).length := lev_max (P a) (P b)
  have hm2 : E b c' ≤ max (P b).length (P c').length := lev_max (P b) (P c')
  have hm3 : E a c' ≤ max (P a).length (P c').length := lev_max (P a) (P c')
  have hpa := P_len a
  have hpb := P_len b
  have hpc := P_len c'
  have hz := E_zero ga gb
  rw [show E b a = E a b from hs.symm]
  generalize hX : E a b = X at *
  generalize hY : E b c' = Y at *
  generalize hZ : E a c' = Z at *
  generalize hN : (P a).length = N at *
  generalize hM : (P b).length = M at *
  clear hs
  have i1 : IntKind.i64.wrap ((X : Int) + (Y : Int)) = (X : Int) + (Y : Int) := IntWalk.i64_in _ (by omega)
  have i2 : IntKind.i64.wrap ((N : Int) - (M : Int)) = (N : Int) - (M : Int) := IntWalk.i64_in _ (by omega)
  have i3 : IntKind.i64.wrap ((M : Int) - (N : Int)) = (M : Int) - (N : Int) := IntWalk.i64_in _ (by omega)
  have g1 : (Z : Int) ≤ (X : Int) + (Y : Int) := by omega
  have g2 : (N : Int) - (M : Int) ≤ (X : Int) := by omega
  have g3 : (M : Int) - (N : Int) ≤ (X : Int) := by omega
  have g6 : (X : Int) ≤ (if (M : Int) > (N : Int) then (M : Int) else (N : Int)) := by split <;> omega
  have HY := Lib.hid (show Y ≤ 100 by omega)
  have HM := Lib.hid (show (X : Int) ≤ max (N : Int) (M : Int) by omega)
  have HD := Lib.hid (And.intro hmx (And.intro hm2 hm3))
  clear hmx hm2 hm3 hln ht hX hY hZ hN hM hpa hpb hpc ga gb gc la lb lc
  by_cases hab : a = b
  · subst hab
    obtain rfl : X = 0 := hz.2 rfl
    have HG := Lib.hid (And.intro g1 (And.intro g2 (And.intro g3 g6)))
    clear hz i1 g1 g2 g3 g6
    have i1 : IntKind.i64.wrap (Y : Int) = (Y : Int) := IntWalk.i64_in _ (by have := HY.out; omega)
    have g1 : (Z : Int) ≤ (Y : Int) := by have := HG.out.1; omega
    have g2 : (N : Int) - (M : Int) ≤ 0 := by have := HG.out.2.1; omega
    have g3 : (M : Int) - (N : Int) ≤ 0 := by have := HG.out.2.2.1; omega
    go_wp2_with fail
    go_ret
    exact ⟨by show Ending.returned (Value.bool (decide ((0 : Int) ≤ max (N : Int) (M : Int)))) = _; rw [decide_eq_true (by omega)], HC11.out⟩
  · have hX0 : X ≠ 0 := fun e => hab (hz.1 e)
    have g4 : ((X : Int) == 0) = false := by rw [beq_eq_false_iff_ne]; omega
    have g5 : (a == b) = false := by simp [hab]
    clear hz g6
    go_wp2_with fail
    go_ret
    exact ⟨by show Ending.returned (Value.bool (decide ((X : Int) ≤ max (N : Int) (M : Int)))) = _; rw [decide_eq_true HM.out], HC11.out⟩
end Go.Proofs.Ytgmnjiiommbjaaa.dist
