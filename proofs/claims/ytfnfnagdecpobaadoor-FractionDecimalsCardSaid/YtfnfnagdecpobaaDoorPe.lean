/- The reference: Parts of a decimal, the walk. -/
import Derived.Test.YtfnfnagdecpobaaDoorPd
set_option linter.unusedSimpArgs false
namespace Go.Proofs.YtfnfnagdecpobaaDoor.pe
open Go.RowKit Go.Proofs.YtfnfnagdecpobaaDoor.fm Go.Proofs.YtfnfnagdecpobaaDoor.mem Go.Proofs.YtfnfnagdecpobaaDoor.ge Go.Proofs.YtfnfnagdecpobaaDoor.he Go.Proofs.YtfnfnagdecpobaaDoor.pd

/-- What Parts answers. -/
def Parted (s : ByteArray) (w : World) (e : Ending) (w' : World) : Prop :=
  ∃ (n : Bool) (f b : ByteArray) (o : Bool), e = .returned (.tuple #[.bool n, .string f, .string b, .bool o]) ∧ Hid (PartsIs s n f b o) ∧ ∃ j, w' = w.drewN j

theorem hd_ne {x : UInt8} {c : UInt8} (h : ¬ x = c) : ¬ x.toNat = c.toNat := fun e => h (UInt8.toNat_inj.1 e)

set_option maxRecDepth 100000 in
set_option maxHeartbeats 4000000 in
theorem parts_any (w : World) (s : ByteArray) (hs : s.size ≤ 1000000) :
    Calls Tryd.prog 73 #[.string s] w (Parted s w) := by
  go_enter Tryd.func73, Tryd.ntmps73
  obtain ⟨N, hN⟩ : ∃ N, N = headIs s 45 := ⟨_, rfl⟩
  obtain ⟨M, hM⟩ : ∃ M, M = (headIs s 45 || headIs s 43) := ⟨_, rfl⟩
  have HN := Lib.hid (And.intro hN hM)
  clear hN hM
  go_upto_region 1 with fail
  go_cut [20] (fun s20 wx => s20 = .bool M ∧ w = wx)
  case first =>
    by_cases h0 : s.size = 0
    · obtain rfl : s = ByteArray.empty := by
        apply ByteArray.ext
        exact Array.eq_empty_of_size_eq_zero h0
      have HM := Lib.hid (show M = false by rw [HN.out.2]; rfl)
      clear h0
      go_wp2_with fail
      go_meet
      exact ⟨by rw [HM.out], rfl⟩
    · have hz0 : (0 : Int) < (s.size : Int) := by omega
      have hin : 0 < s.size := by omega
      have hM := HN.out.2
      rw [head_at hin, head_at hin] at hM
      obtain ⟨x, hx⟩ : ∃ x : UInt8, s[0] = x := ⟨_, rfl⟩
      rw [hx] at hM
      clear h0
      by_cases hd : x = 43
      · subst hd
        have HM := Lib.hid (show M = true by rw [hM]; rfl)
        clear hM
        go_wp2_with fail
        go_meet
        exact ⟨by rw [HM.out], rfl⟩
      · have z2 : (((x.toNat : Nat) : Int) == 43) = false := beq_eq_false_iff_ne.2 (fun e => hd (UInt8.toNat_inj.1 (by show x.toNat = 43; omega)))
        by_cases hd5 : x = 45
        · subst hd5
          have HM := Lib.hid (show M = true by rw [hM]; rfl)
          clear hM hd
          go_wp2_with fail
          go_meet
          exact ⟨by rw [HM.out], rfl⟩
        · have z3 : (((x.toNat : Nat) : Int) == 45) = false := beq_eq_false_iff_ne.2 (fun e => hd5 (UInt8.toNat_inj.1 (by show x.toNat = 45; omega)))
          have HM := Lib.hid (show M = false by rw [hM, decide_eq_false hd, decide_eq_false hd5]; rfl)
          clear hM hd hd5
          go_wp2_with fail
          go_meet
          exact ⟨by rw [HM.out], rfl⟩
  case rest =>
  obtain ⟨rfl, rfl⟩ := hcut
  go_upto_if 20 with fail
  obtain ⟨t, ht⟩ : ∃ t, t = bodyB s := ⟨_, rfl⟩
  have hts : t.size ≤ s.size := by rw [ht]; exact body_size s
  have HB := Lib.hid (And.intro ht (show s.size ≤ t.size + 1 by rw [ht]; unfold bodyB; split; (rw [ByteArray.size_extract]; omega); omega))
  clear ht
  go_cut [0, 2] (fun s0 s2 wx => s0 = .string t ∧ s2 = .bool N ∧ ∃ j, wx = w.drewN j)
  case first =>
    have hB := HB.out.1
    unfold bodyB at hB
    rw [← HN.out.2] at hB
    by_cases hMt : M = true
    · have hpos : s.size ≠ 0 := by
        intro e
        have : s = ByteArray.empty := by
          apply ByteArray.ext
          exact Array.eq_empty_of_size_eq_zero e
        rw [HN.out.2, this] at hMt
        exact absurd hMt (by decide)
      rw [if_pos hMt] at hB
      subst hMt
      have hin : 0 < s.size := by omega
      have hz0 : (0 : Int) < (s.size : Int) := by omega
      have hz1 : (1 : Int) ≤ (s.size : Int) := by omega
      have hN := HN.out.1
      rw [head_at hin] at hN
      obtain ⟨x, hx⟩ : ∃ x : UInt8, s[0] = x := ⟨_, rfl⟩
      rw [hx] at hN
      clear hpos
      by_cases hd : x = 45
      · subst hd
        have HNt := Lib.hid (show N = true by rw [hN]; rfl)
        have HBB := Lib.hid hB
        clear hN hB
        go_wp2_with fail
        go_quiet (fail)
        go_wp2_with fail
        go_meet
        exact ⟨by rw [HBB.out], by rw [HNt.out], _, rfl⟩
      · have z2 : (((x.toNat : Nat) : Int) == 45) = false := beq_eq_false_iff_ne.2 (fun e => hd (UInt8.toNat_inj.1 (by show x.toNat = 45; omega)))
        have HNt := Lib.hid (show N = false by rw [hN]; exact decide_eq_false hd)
        have HBB := Lib.hid hB
        clear hN hB hd
        go_wp2_with fail
        go_quiet (fail)
        go_wp2_with fail
        go_meet
        exact ⟨by rw [HBB.out], by rw [HNt.out], _, rfl⟩
    · obtain rfl : M = false := by simpa using hMt
      rw [if_neg (by decide)] at hB
      have HNt := Lib.hid (show N = false by have h2 := HN.out.2; rw [← HN.out.1] at h2; exact (Bool.or_eq_false_iff.1 h2.symm).1)
      have HBB := Lib.hid hB
      clear hB hMt
      go_wp2_with fail
      go_meet
      exact ⟨by rw [HBB.out], by rw [HNt.out], 0, rfl⟩
  case rest =>
  obtain ⟨rfl, rfl, j0, rfl⟩ := hcut
  obtain ⟨W, hW⟩ : ∃ W, W = w.drewN j0 := ⟨_, rfl⟩
  have HW := Lib.hid hW
  rw [← hW]
  clear hW
  have hts2 : t.size ≤ 1000000 := by omega
  go_upto_region 4 with fail
  go_loopw [6] (fun i wr => ∃ k : Nat, k ≤ t.size ∧ i = .int .i64 k ∧ W = wr ∧ (t.data.toList.take k).all dig = true) (fun i _ => t.size - (intOf i).toNat)
  case atStart => exact ⟨0, Nat.zero_le _, rfl, rfl, rfl⟩
  case round =>
    obtain ⟨k, hk, rfl, rfl, ha⟩ := hrel
    have HA := Lib.hid ha
    clear ha
    obtain ⟨G, hG⟩ : ∃ G : Bool, G = ((t.data.toList[k]?).any dig) := ⟨_, rfl⟩
    have HG := Lib.hid hG
    clear hG
    go_upto_region 4 with fail
    go_cut [41] (fun s41 wx => s41 = .bool G ∧ W = wx)
    case first =>
      by_cases hin : k < t.size
      · have hiz : (k : Int) < (t.size : Int) := by omega
        obtain ⟨x, hx⟩ : ∃ x : UInt8, t[k] = x := ⟨_, rfl⟩
        have hxl : t.data.toList[k]? = some x := by rw [← hx]; exact Lib.data_getElem? t k hin
        have hxz : (x.toNat : Int) < 256 := by have := x.toNat_lt; omega
        have hGx : G = dig x := by rw [HG.out, hxl]; rfl
        clear hxl
        by_cases hd1 : x.toNat < 48
        · have HX := Lib.hid (show G = false by rw [hGx]; unfold dig; rw [decide_eq_false (show ¬ 48 ≤ x.toNat by omega)]; rfl)
          clear hGx
          go_wp2_with fail
          go_meet
          exact ⟨by rw [HX.out], rfl⟩
        · by_cases hd2 : 57 < x.toNat
          · have HX := Lib.hid (show G = false by rw [hGx]; unfold dig; rw [decide_eq_false (show ¬ x.toNat ≤ 57 by omega)]; simp)
            clear hGx
            go_wp2_with fail
            go_meet
            exact ⟨by rw [HX.out, decide_eq_false (by omega)], rfl⟩
          · have HX := Lib.hid (show G = true by rw [hGx]; unfold dig; rw [decide_eq_true (show 48 ≤ x.toNat by omega), decide_eq_true (show x.toNat ≤ 57 by omega)]; rfl)
            clear hGx
            go_wp2_with fail
            go_meet
            exact ⟨by rw [HX.out, decide_eq_true (by omega)], rfl⟩
      · have HX := Lib.hid (show G = false by rw [HG.out, List.getElem?_eq_none (by rw [data_len]; omega)]; rfl)
        have hiz : ¬ (k : Int) < (t.size : Int) := by omega
        go_wp2_with fail
        go_meet
        exact ⟨by rw [HX.out], rfl⟩
    case rest =>
    obtain ⟨rfl, rfl⟩ := hcut
    by_cases hGt : G = true
    · subst hGt
      have hin : k < t.size := by
        rcases Nat.lt_or_ge k t.size with h | h
        · exact h
        · have := HG.out
          rw [List.getElem?_eq_none (by rw [data_len]; omega)] at this
          exact absurd this (by simp)
      have hn : (t.data.toList.take (k + 1)).all dig = true := by
        have hg := HG.out
        obtain ⟨x, hx⟩ : ∃ x, t.data.toList[k]? = some x := ⟨_, List.getElem?_eq_getElem (by rw [data_len]; exact hin)⟩
        rw [hx] at hg
        rw [List.take_add_one, hx, List.all_append, HA.out]
        simpa using hg
      have Hn := Lib.hid hn
      clear hn
      go_wp2_with fail
      exact ⟨⟨k + 1, by omega, by go_num, trivial, Hn.out⟩, by simp [intOf]; omega⟩
    · obtain rfl : G = false := by simpa using hGt
      clear hGt
      have hend : t.size ≤ k ∨ ∃ x, t.data.toList[k]? = some x ∧ dig x = false := by
        rcases Nat.lt_or_ge k t.size with h | h
        · refine .inr ⟨_, List.getElem?_eq_getElem (by rw [data_len]; exact h), ?_⟩
          have hg := HG.out
          rw [List.getElem?_eq_getElem (by rw [data_len]; exact h)] at hg
          simpa using hg.symm
        · exact .inl h
      have HE := Lib.hid hend
      have i2 : (0 : Int) ≤ (k : Int) := by omega
      have i3 : (k : Int) ≤ (t.size : Int) := by omega
      clear hend HG
      by_cases hb : k < 1 ∨ 15 < k
      · have HND := Lib.hid (show NotDec s from Or.inr (by have := bad_front HA.out HE.out hk hb; rw [HB.out.1] at this; exact this))
        rcases hb with hb | hb
        · go_wp2_with fail
          go_returns
          exact ⟨false, _, _, false, rfl, Lib.hid (.inl ⟨rfl, rfl, rfl, rfl, HND.out⟩), j0, HW.out⟩
        · go_wp2_with fail
          go_returns
          exact ⟨false, _, _, false, rfl, Lib.hid (.inl ⟨rfl, rfl, rfl, rfl, HND.out⟩), j0, HW.out⟩
      · have hk1 : ¬ k < 1 := by omega
        have hk2 : ¬ 15 < k := by omega
        clear hb
        by_cases hend : k = t.size
        · subst hend
          go_wp2_with fail
          go_returns
          have ha := HA.out
          rw [List.take_of_length_le (by rw [data_len]; exact Nat.le_refl _)] at ha
          have e0 : t.extract 0 t.size = t := ByteArray.extract_zero_size
          refine ⟨N, t, _, true, by first | rw [e0] | rfl, Lib.hid (.inr ⟨rfl, HN.out.1, ?_, num_of (by omega) (by omega) ha, .inl ⟨rfl, ?_⟩⟩), j0, HW.out⟩
          · have := HB.out.2; omega
          · rw [← HB.out.1]; exact cut_whole ha
        · have hin : k < t.size := by omega
          have hiz : (k : Int) < (t.size : Int) := by omega
          have hez : ((k : Int) == (t.size : Int)) = false := beq_eq_false_iff_ne.2 (by omega)
          have i1 : IntKind.i64.wrap ((k : Int) + 1) = (k : Int) + 1 := IntWalk.i64_in _ (by omega)
          have i4 : (k : Int) + 1 ≤ (t.size : Int) := by omega
          have i5 : (0 : Int) ≤ (k : Int) + 1 := by omega
          obtain ⟨x, hx⟩ : ∃ x : UInt8, t[k] = x := ⟨_, rfl⟩
          have hxl : t.data.toList[k]? = some x := by rw [← hx]; exact Lib.data_getElem? t k hin
          have hxd : dig x = false := by
            rcases HE.out with h | ⟨y, hy, hyd⟩
            · omega
            · rw [hxl] at hy; rw [Option.some.inj hy]; exact hyd
          have HX := Lib.hid (And.intro hxl hxd)
          clear hxl hxd hend
          obtain ⟨p, hp⟩ : ∃ p, p = t.extract (k + 1) t.size := ⟨_, rfl⟩
          have hpe : t.extract (((k : Int) + 1).toNat) t.size = p := by rw [hp]; congr 1
          have hps : p.size = t.size - (k + 1) := by rw [hp]; exact ex1_size t (k + 1)
          have HP := Lib.hid hp
          clear hp
          by_cases hx46 : x = 46
          · subst hx46
            have hcut := cut_point HA.out HX.out.1
            have HC := Lib.hid hcut
            clear hcut
            by_cases hpl : p.size < 1 ∨ 9 < p.size
            · have HND := Lib.hid (show NotDec s from Or.inr ⟨_, _, true, by rw [← HB.out.1]; exact HC.out, by rw [← HP.out, num_size (f := p) (m := 9) (by omega)]; simp⟩)
              rcases hpl with hpl | hpl
              · go_wp2_with fail
                go_returns
                exact ⟨false, _, _, false, rfl, Lib.hid (.inl ⟨rfl, rfl, rfl, rfl, HND.out⟩), j0, HW.out⟩
              · go_wp2_with fail
                go_returns
                exact ⟨false, _, _, false, rfl, Lib.hid (.inl ⟨rfl, rfl, rfl, rfl, HND.out⟩), j0, HW.out⟩
            · have hp1 : ¬ p.size < 1 := by omega
              have hp2 : ¬ 9 < p.size := by omega
              clear hpl
              have hp3 : p.size ≤ 9 := by omega
              go_wp2_with fail
              go_loopw [2, 3, 4, 5, 7] (fun s2 s3 s4 s5 i wr => ∃ m : Nat, m ≤ p.size ∧ i = .int .i64 m ∧ s2 = .bool N ∧ s3 = .string (t.extract 0 k) ∧ s4 = .string p ∧ s5 = .bool false ∧ W = wr ∧ (p.data.toList.take m).all dig = true) (fun _ _ _ _ i _ => p.size - (intOf i).toNat)
              case atStart => exact ⟨0, Nat.zero_le _, rfl, rfl, rfl, congrArg Value.string (by first | rfl | exact hpe | exact HP.out.symm), rfl, rfl, rfl⟩
              case round =>
                obtain ⟨m, hm, rfl, rfl, rfl, rfl, rfl, rfl, ha⟩ := hrel
                have HM := Lib.hid ha
                clear ha
                by_cases hin2 : m < p.size
                · have hiz2 : (m : Int) < (p.size : Int) := by omega
                  obtain ⟨y, hy⟩ : ∃ y : UInt8, p[m] = y := ⟨_, rfl⟩
                  have hyl : p.data.toList[m]? = some y := by rw [← hy]; exact Lib.data_getElem? p m hin2
                  have hyz : (y.toNat : Int) < 256 := by have := y.toNat_lt; omega
                  have HY := Lib.hid hyl
                  clear hyl
                  by_cases hd1 : y.toNat < 48
                  · have HND := Lib.hid (show NotDec s from Or.inr ⟨_, _, true, by rw [← HB.out.1]; exact HC.out, by rw [← HP.out, not_num (most := 9) HY.out (by unfold dig; rw [decide_eq_false (show ¬ 48 ≤ y.toNat by omega)]; rfl)]; simp⟩)
                    go_wp2_with fail
                    go_returns
                    exact ⟨false, _, _, false, rfl, Lib.hid (.inl ⟨rfl, rfl, rfl, rfl, HND.out⟩), j0, HW.out⟩
                  · by_cases hd2 : 57 < y.toNat
                    · have HND := Lib.hid (show NotDec s from Or.inr ⟨_, _, true, by rw [← HB.out.1]; exact HC.out, by rw [← HP.out, not_num (most := 9) HY.out (by unfold dig; rw [decide_eq_false (show ¬ y.toNat ≤ 57 by omega)]; simp)]; simp⟩)
                      go_wp2_with fail
                      go_returns
                      exact ⟨false, _, _, false, rfl, Lib.hid (.inl ⟨rfl, rfl, rfl, rfl, HND.out⟩), j0, HW.out⟩
                    · have hd : dig y = true := by unfold dig; rw [decide_eq_true (show 48 ≤ y.toNat by omega), decide_eq_true (show y.toNat ≤ 57 by omega)]; rfl
                      have e2 : (p.data.toList.take (m + 1)).all dig = true := by rw [List.take_add_one, HY.out, List.all_append, HM.out]; simp [hd]
                      have HE2 := Lib.hid e2
                      clear hd e2
                      go_wp2_with fail
                      exact ⟨⟨m + 1, by omega, by go_num, rfl, rfl, rfl, rfl, trivial, HE2.out⟩, by simp [intOf]; omega⟩
                · obtain rfl : m = p.size := by omega
                  have ha := HM.out
                  rw [List.take_of_length_le (by rw [data_len]; exact Nat.le_refl _)] at ha
                  have HN9 := Lib.hid (num_of (m := 9) (by omega) (by omega) ha)
                  clear ha
                  have hiz2 : ¬ (p.size : Int) < (p.size : Int) := by omega
                  go_wp2_with fail
                  go_returns
                  refine ⟨N, t.extract 0 k, p, true, rfl, Lib.hid (.inr ⟨rfl, HN.out.1, ?_, num_of (by rw [ex0_size t k hk]; omega) (by rw [ex0_size t k hk]; omega) (by rw [digits_only]; exact HA.out), .inr ⟨HN9.out, ?_⟩⟩), j0, HW.out⟩
                  · have := HB.out.2; omega
                  · rw [← HB.out.1, HP.out]; exact HC.out
          · have z2 : (((x.toNat : Nat) : Int) == 46) = false := beq_eq_false_iff_ne.2 (fun e => hx46 (UInt8.toNat_inj.1 (by show x.toNat = 46; omega)))
            have z3 : (((x.toNat : Nat) : Int) != 46) = true := by rw [bne, z2]; rfl
            have hcut := cut_other HA.out HX.out.1 hx46 HX.out.2
            have HND := Lib.hid (show NotDec s from Or.inr (by rw [HB.out.1] at hcut; obtain ⟨f, b, p, h1, h2⟩ := hcut; exact ⟨f, b, p, h1, by rw [h2]; rfl⟩))
            clear hcut
            go_wp2_with fail
            go_returns
            exact ⟨false, _, _, false, rfl, Lib.hid (.inl ⟨rfl, rfl, rfl, rfl, HND.out⟩), j0, HW.out⟩

end Go.Proofs.YtfnfnagdecpobaaDoor.pe
