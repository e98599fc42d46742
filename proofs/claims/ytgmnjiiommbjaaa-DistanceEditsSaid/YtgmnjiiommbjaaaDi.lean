/- DistanceEdits: the law. -/
import Derived.Test.YtgmnjiiommbjaaaDh
set_option linter.unusedVariables false
set_option linter.unusedSimpArgs false
namespace Go.Proofs.Ytgmnjiiommbjaaa.dist
open Go.RowKit Go.Proofs.Ytgmnjiiommbjaaa.txt Go.Proofs.Ytgmnjiiommbjaaa.mill

theorem cat3 (X : List UInt8) (b : UInt8) (Y : List UInt8) : (⟨X.toArray⟩ ++ ⟨#[b]⟩ : ByteArray) ++ ⟨Y.toArray⟩ = ⟨(X ++ [b] ++ Y).toArray⟩ := by
  apply ByteArray.ext
  rw [ByteArray.data_append, ByteArray.data_append]
  simp
theorem cat2 (X Y : List UInt8) : (⟨X.toArray⟩ : ByteArray) ++ ⟨Y.toArray⟩ = ⟨(X ++ Y).toArray⟩ := by
  apply ByteArray.ext
  rw [ByteArray.data_append]
  simp
theorem ext_take (L : List UInt8) (k : Nat) : (⟨L.toArray⟩ : ByteArray).extract 0 k = ⟨(L.take k).toArray⟩ := by
  rw [Lib.extract_mk]; simp
theorem ext_drop (L : List UInt8) (k : Nat) : (⟨L.toArray⟩ : ByteArray).extract k L.length = ⟨(L.drop k).toArray⟩ := by
  rw [Lib.extract_mk, List.take_of_length_le (by simp)]
def abc : List UInt8 := [97, 98, 99, 100, 101, 102, 103, 104]
theorem abc_asc (k : Nat) : Asc (abc.take k) := fun c hc => by
  have h : ∀ c ∈ abc, c.toNat < 128 := by unfold abc; decide
  exact h c (List.mem_of_mem_take hc)

set_option maxRecDepth 100000 in
set_option maxHeartbeats 2000000 in
theorem edits_law (w : World) (A : Option Addr) (c : Nat) (l : List Nat) (S : Seeds w w.heap.size A c l) (hl : l.length ≤ maxLen) (lim : Int) (h0 : 0 ≤ lim) (h1 : lim < 256) :
    Calls Try.prog 5 #[.slice A l.length c, .int .u8 lim] w fun e w' => e = .returned (.bool true) ∧ Below w.heap.size w w' := by
  go_enter Try.func5, Try.ntmps5
  have HS := Lib.hid S
  clear S
  go_wp2_with fail
  refine (sane_any w).mono ?_
  rintro _ w1 ⟨rfl, b1⟩
  have s1 := b1.size
  go_wp2_with fail
  refine (new_any w1 A c l ((HS.out.below b1).more s1) hl).mono ?_
  rintro _ w2 ⟨rfl, D2, b2⟩
  have s2 := b2.size
  have hg := D2.lt
  have HB := Lib.hid (And.intro b1 b2)
  clear b1 b2
  go_wp2_with fail
  refine (pick_some w2 w1.heap.size 9 _ 0 D2 (by omega) (by omega)).mono ?_
  rintro _ w3 ⟨n0, k3, rfl, hn0, D3, K3⟩
  have hx : (⟨#[97, 98, 99, 100, 101, 102, 103, 104]⟩ : ByteArray).extract 0 n0 = ⟨(abc.take n0).toArray⟩ := ext_take abc n0
  obtain ⟨a, ha⟩ : ∃ a, a = abc.take n0 := ⟨_, rfl⟩
  rw [← ha] at hx
  have hasc : Asc a := by rw [ha]; exact abc_asc n0
  have hal : a.length ≤ 8 := by rw [ha, List.length_take]; unfold abc; simp; omega
  have HA := Lib.hid (edited_start a hasc hal)
  have HAS := Lib.hid hasc
  clear ha hasc
  go_wp2_with fail
  go_loopw [7, 8] (fun bs kk wr => ∃ (b : List UInt8) (k kd : Nat), bs = .string ⟨b.toArray⟩ ∧ kk = .int .i64 (k : Int) ∧ k ≤ 5 ∧ Hid (Edited a b k) ∧ DiceAt wr w1.heap.size (l.take 300) kd ∧ Kept w1.heap.size w2 wr) (fun _ kk _ => 5 - (intOf kk).toNat)
  case atStart => exact ⟨a, 0, k3, rfl, rfl, by omega, HA, D3, K3⟩
  case round =>
    obtain ⟨b, k, kd, rfl, rfl, hk5, HE, D4, K4⟩ := hrel
    obtain ⟨S, hS⟩ : ∃ S : ByteArray, S = ⟨b.toArray⟩ := ⟨_, rfl⟩
    have hsz : S.size = b.length := by rw [hS]; simp [ByteArray.size]
    have hxa := fun i => ext_take b i
    have hxb := fun i => ext_drop b i
    rw [← hS, ← hsz] at hxb
    rw [← hS] at hxa ⊢
    have hbl : S.size ≤ 8 + k := by rw [hsz]; exact HE.out.len
    have hb13 : b.length ≤ 13 := by have := HE.out.len; omega
    have HX := Lib.hid (And.intro hxa (And.intro hxb (And.intro hsz hS)))
    clear hxa hxb hsz hS
    have e1 : IntKind.i64.wrap ((k : Int) + 1) = (k : Int) + 1 := IntWalk.i64_in _ (by omega)
    clear D2 D3 K3 HA hx
    go_wp2_with fail
    refine (pick_some wr w1.heap.size 5 _ kd D4 (by omega) (by omega)).mono ?_
    rintro _ w5 ⟨n5, k5, rfl, hn5, D5, K5⟩
    by_cases hlt : k < n5
    · have HK := Lib.hid (K4.trans K5)
      clear K4 K5 D4
      go_wp2_with fail
      have e2 : (S.size : Int) + 1 = ((S.size + 1 : Nat) : Int) := by omega
      rw [e2]
      refine (pick_some w5 w1.heap.size (S.size + 1) _ k5 D5 (by omega) (by omega)).mono ?_
      rintro _ w6 ⟨i, k6, rfl, hi, D6, K6⟩
      have HK6 := Lib.hid (HK.out.trans K6)
      clear D5 K6 HK e2
      have hxa := HX.out.1 i
      have hxb := HX.out.2.1 i
      have hxc := HX.out.2.1 (i + 1)
      have i1 : (0 : Int) ≤ (i : Int) := by omega
      have i2 : (i : Int) ≤ (S.size : Int) := by omega
      have i3 : IntKind.i64.wrap ((i : Int) + 1) = (i : Int) + 1 := IntWalk.i64_in _ (by omega)
      go_upto_region 11 with fail
      go_cut [41] (fun s41 wx => ∃ (M : Bool) (k7 : Nat), s41 = .bool M ∧ (M = false → i < S.size) ∧ DiceAt wx w1.heap.size (l.take 300) k7 ∧ Kept w1.heap.size w2 wx)
      case first =>
        clear hxa hxb hxc
        go_wp2_with fail
        refine (pick_some w6 w1.heap.size 3 _ k6 D6 (by omega) (by omega)).mono ?_
        rintro _ w7 ⟨n7, k7, rfl, hn7, D7, K7⟩
        have HF := Lib.hid (And.intro D7 (HK6.out.trans K7))
        clear D7 K7
        by_cases hi3 : i = S.size
        · have f2 : ((i : Int) == (S.size : Int)) = true := by rw [beq_iff_eq]; omega
          by_cases hs0 : S.size = 0
          · have f1 : ((S.size : Int) == 0) = true := by rw [beq_iff_eq]; omega
            have HH := Lib.hid (And.intro hi3 hs0)
            clear hi3 hs0
            go_wp2_with fail
            all_goals (go_meet; exact ⟨_, k7, rfl, (fun h => absurd h (by simp)), HF.out.1, HF.out.2⟩)
          · have f1 : ((S.size : Int) == 0) = false := by rw [beq_eq_false_iff_ne]; omega
            have HH := Lib.hid (And.intro hi3 hs0)
            clear hi3 hs0
            go_wp2_with fail
            all_goals (go_meet; exact ⟨_, k7, rfl, (fun h => absurd h (by simp)), HF.out.1, HF.out.2⟩)
        · have f2 : ((i : Int) == (S.size : Int)) = false := by rw [beq_eq_false_iff_ne]; omega
          have f1 : ((S.size : Int) == 0) = true ∨ ((S.size : Int) == 0) = false := by cases ((S.size : Int) == 0) <;> simp
          have HH := Lib.hid (show i < S.size by omega)
          clear hi3
          rcases f1 with f1 | f1
          · exfalso
            rw [beq_iff_eq] at f1
            have := HH.out
            omega
          · go_wp2_with fail
            all_goals (go_meet; exact ⟨_, k7, rfl, fun _ => HH.out, HF.out.1, HF.out.2⟩)
      case rest =>
      obtain ⟨M, k7, rfl, hM, D7, K7⟩ := hcut
      have hs7 : w1.heap.size < wc.heap.size := D7.lt
      cases M
      · have hib := hM rfl
        have i4 : (i : Int) + 1 ≤ (S.size : Int) := by omega
        rw [HX.out.2.2.1] at hib
        clear hM D6 HK6
        go_wp2_with fail
        refine (pick_some wc w1.heap.size 2 _ k7 D7 (by omega) (by omega)).mono ?_
        rintro _ w8 ⟨n8, k8, rfl, hn8, D8, K8⟩
        have HF := Lib.hid (And.intro D8 (K7.trans K8))
        have hs8 : w1.heap.size < w8.heap.size := D8.lt
        clear D8 K8 K7 D7
        by_cases h8 : n8 = 0
        · subst h8
          rw [show ((0 : Nat) : Int) = 0 from rfl]
          go_wp2_with fail
          go_quiet (fail)
          go_wp2_with fail
          rw [cat2]
          exact ⟨⟨b.take i ++ b.drop (i + 1), k + 1, k8, rfl, by simp, by omega, Lib.hid (HE.out.del i hib), HF.out.1.after (sane.below_q (Below.refl _ _) _), HF.out.2.then_below (sane.below_q (Below.refl _ _) _) (by omega)⟩, by simp [intOf] <;> omega⟩
        · have h8' : ((n8 : Int) == 0) = false := by rw [beq_eq_false_iff_ne]; omega
          go_wp2_with fail
          go_quiet (fail)
          go_wp2_with fail
          rw [cat3]
          exact ⟨⟨b.take i ++ [121] ++ b.drop (i + 1), k + 1, k8, rfl, by simp, by omega, Lib.hid (HE.out.sub i hib), HF.out.1.after (sane.below_q (Below.refl _ _) _), HF.out.2.then_below (sane.below_q (Below.refl _ _) _) (by omega)⟩, by simp [intOf] <;> omega⟩
      · have HF := Lib.hid (And.intro D7 K7)
        clear hM D6 HK6 D7 K7
        go_wp2_with fail
        go_quiet (fail)
        go_wp2_with fail
        rw [cat3]
        exact ⟨⟨b.take i ++ [120] ++ b.drop i, k + 1, k7, rfl, by simp, by omega, Lib.hid (HE.out.ins i), HF.out.1.after (sane.below_q (Below.refl _ _) _), HF.out.2.then_below (sane.below_q (Below.refl _ _) _) (by omega)⟩, by simp [intOf] <;> omega⟩
    · have HK := Lib.hid (And.intro ((HB.out.1.trans (HB.out.2.mono s1)).trans ((K4.trans K5).bel.mono s1)) (HE.out.E HAS.out))
      have hz5 : w.heap.size ≤ w5.heap.size := HK.out.1.size
      clear K4 K5 D4 D5
      obtain ⟨EE, hEE⟩ : ∃ EE, EE = E a b := ⟨_, rfl⟩
      have HEE := Lib.hid hEE
      have hEk : EE ≤ k := by rw [hEE]; exact HK.out.2
      rw [HX.out.2.2.2]
      rw [HX.out.2.2.1] at hbl
      clear HX
      go_wp2_with fail
      refine (edit_any a b w5 (by omega) (by omega)).mono ?_
      rintro _ w6 ⟨rfl, b6⟩
      rw [← hEE]
      clear hEE
      have HK6 := Lib.hid (HK.out.1.trans (b6.mono hz5))
      have hz6 := Nat.le_trans hz5 b6.size
      clear b6
      obtain ⟨L, hL⟩ : ∃ L : Nat, (L : Int) = lim % 6 := ⟨(lim % 6).toNat, by omega⟩
      go_wp2_with fail
      rw [← hL]
      refine (within_any a b L w6 (by omega) (by omega)).mono ?_
      rintro _ w7 ⟨rfl, b7⟩
      rw [← HEE.out]
      have HK7 := Lib.hid (HK6.out.trans (b7.mono hz6))
      clear b7
      have hlek : (EE : Int) ≤ (k : Int) := by omega
      by_cases hle : EE ≤ L
      · have hle' : (EE : Int) ≤ lim % 6 := by omega
        rw [show withinV EE L = EE from if_pos hle, decide_eq_true hle]
        go_wp2_with fail
        go_ret
        exact ⟨rfl, HK7.out⟩
      · have hle' : ¬ (EE : Int) ≤ lim % 6 := by omega
        rw [show withinV EE L = 0 from if_neg hle, decide_eq_false hle]
        go_wp2_with fail
        go_ret
        refine ⟨?_, HK7.out⟩
        show Ending.returned (Value.bool (!decide ((EE : Int) ≤ lim % 6))) = _
        rw [decide_eq_false (by omega)]
        rfl
end Go.Proofs.Ytgmnjiiommbjaaa.dist
