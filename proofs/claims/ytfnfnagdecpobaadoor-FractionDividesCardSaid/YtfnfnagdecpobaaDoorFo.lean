/- fraction: subtractProduct, addBack. -/
import Derived.Test.YtfnfnagdecpobaaDoorFl
namespace Go.Proofs.YtfnfnagdecpobaaDoor.fo
open Go.RowKit Go.Proofs.YtfnfnagdecpobaaDoor.fm Go.Proofs.YtfnfnagdecpobaaDoor.mem Go.Proofs.YtfnfnagdecpobaaDoor.fa Go.Proofs.YtfnfnagdecpobaaDoor.fb Go.Proofs.YtfnfnagdecpobaaDoor.fd Go.Proofs.YtfnfnagdecpobaaDoor.fe

theorem mask32 (T : Nat) (h : T < 18446744073709551616) : bits .and .u64 (T : Int) 4294967295 = ((T % 4294967296 : Nat) : Int) := by
  have := u64_and_nat T 4294967295 h (by decide)
  rw [show ((4294967295 : Nat) : Int) = 4294967295 from rfl] at this
  rw [this]
  congr 1
  exact Nat.and_two_pow_sub_one_eq_mod T 32

theorem drop_set (X : List Nat) (j i x : Nat) : (X.set (j + i) x).drop j = (X.drop j).set i x := by
  rw [List.drop_set, if_neg (by omega)]
  congr 1
  omega

theorem getD_drop (X : List Nat) (j i : Nat) : (X.drop j).getD i 0 = X.getD (j + i) 0 := by
  rw [List.getD_eq_getElem?_getD, List.getElem?_drop, ← List.getD_eq_getElem?_getD]

theorem getD_of_drop {X Y : List Nat} {k : Nat} (h : X.drop k = Y.drop k) (t : Nat) (ht : k ≤ t) : X.getD t 0 = Y.getD t 0 := by
  have e1 : (X.drop k)[t - k]? = (Y.drop k)[t - k]? := by rw [h]
  rw [List.getElem?_drop, List.getElem?_drop, show k + (t - k) = t by omega] at e1
  rw [List.getD_eq_getElem?_getD, List.getD_eq_getElem?_getD, e1]

set_option maxRecDepth 100000 in
set_option maxHeartbeats 2000000 in
theorem subtractProduct_any (w : World) (base g N cap j n cj dg : Nat) (A' : Option Addr) (c' : Nat) (X y : List Nat) (h : w.ownsRow base 66 1 (.slice (some ⟨g, 0, none⟩) N cap) N (ws X)) (ho : ok X)
    (h' : Rd w w.heap.size A' c' y) (hne : ∀ ad, A' = some ad → 0 < y.length → ad.block ≠ g) (hyn : y.length = n) (hj : j + n + 1 ≤ N) (hN : N ≤ 2000000) (hdg : dg < 4294967296) :
    Calls Tryd.prog 93 #[.slice (some ⟨g, j, none⟩) (n + 1) cj, .slice A' n c', .int .u64 (dg : Int)] w fun e w' =>
      ∃ (X' : List Nat) (x : Nat), e = .returned (.bool ((x : Int) != 0)) ∧ x ≤ 1 ∧ w'.ownsRow base 66 1 (.slice (some ⟨g, 0, none⟩) N cap) N (ws X') ∧ ok X' ∧ X'.take j = X.take j ∧ X'.drop (j + (n + 1)) = X.drop (j + (n + 1)) ∧
        val ((X'.drop j).take (n + 1)) + dg * val y = val ((X.drop j).take (n + 1)) + 4294967296 ^ (n + 1) * x ∧ w.grownBy w' (some g) := by
  have hlx := own_len h
  have hg := h.lt g rfl
  go_enter Tryd.func93, Tryd.ntmps93
  go_wp2
  go_loopw [7, 8, 14] (fun cv rv i wr => ∃ (k c r : Nat) (Y : List Nat), k ≤ n ∧ i = .int .i64 k ∧ cv = .int .u64 c ∧ rv = .int .u64 r ∧ r ≤ 1 ∧ c < 4294967296 ∧ ok Y ∧ Y.take j = X.take j ∧ Y.drop (j + k) = X.drop (j + k) ∧
      val ((Y.drop j).take k) + dg * val (y.take k) = val ((X.drop j).take k) + 4294967296 ^ k * (c + r) ∧ wr.ownsRow base 66 1 (.slice (some ⟨g, 0, none⟩) N cap) N (ws Y) ∧ w.grownBy wr (some g))
    (fun _ _ i _ => n - (intOf i).toNat)
  case atStart => exact ⟨0, 0, 0, X, Nat.zero_le _, rfl, rfl, rfl, by omega, by decide, ho, rfl, rfl, by simp [val], h, World.grownBy.refl _ _⟩
  case round =>
    obtain ⟨k, c, r, Y, hk, rfl, rfl, rfl, hr, hc, hok, htk, hdr, hE, hown, hgr⟩ := hrel
    have hl := own_len hown
    have c1 := own_cell hown (j + k) (by omega)
    have c3 := hown.frozenAt (j + k)
    have ex : Y.getD (j + k) 0 = X.getD (j + k) 0 := getD_of_drop hdr (j + k) (Nat.le_refl _)
    rw [ex] at c1
    have b1 := ok_getD ho (j + k)
    by_cases hkx : k < n
    · obtain ⟨b', off', rfl, hb', hc'⟩ := h'.cells (by omega)
      have c4 := (hgr.cell_far ⟨b', off' + k, none⟩ hb' (fun e => hne _ rfl (by omega) (by injection e))).trans (hc' k (by omega))
      have b2 := ok_getD h'.ok k
      obtain ⟨f1, f2, f3, f4, f5, f6⟩ := word_prod dg (y.getD k 0) 0 c hdg b2 (by decide) hc
      have hT : c + dg * y.getD k 0 < 18446744073709551616 := by simp only [Nat.add_zero] at f1; omega
      simp only [Nat.add_zero, Int.natCast_zero, Int.add_zero] at f1 f2 f6
      obtain ⟨E, D, d, r', w1, w2, w3, w4, hr', hd, heq, hD⟩ := borrow (X.getD (j + k) 0) r ((c + dg * y.getD k 0) % 4294967296) b1 hr (Nat.mod_lt _ (by decide))
      have hmask := mask32 (c + dg * y.getD k 0) hT
      have hE2 := subprod_step (X.drop j) y (Y.drop j) k dg c r d r' (by simp; omega) (by rw [getD_drop]; exact heq) hE
      rw [← drop_set] at hE2
      have hdr2 : (Y.set (j + k) d).drop (j + (k + 1)) = X.drop (j + (k + 1)) := by
        rw [List.drop_set_of_lt (by omega), ← Nat.add_assoc, ← List.drop_drop, hdr, List.drop_drop]
      have htk2 : (Y.set (j + k) d).take j = X.take j := by rw [List.take_set_of_le (by omega), htk]
      have own2 := own_set hown (j + k) d ((D : Int) % 4294967296) (by omega)
      have gr2 : w.grownBy (wr.setCell ⟨g, j + k, none⟩ (.int .u32 ((D : Int) % 4294967296))) (some g) := hgr.trans (hown.stored (j + k) _).2
      have O := Lib.hid (And.intro own2 (And.intro gr2 (And.intro hE2 (And.intro hdr2 (And.intro htk2 (And.intro (ok_set hok (j + k) hd) f1))))))
      have V := Lib.hid (And.intro w3 (And.intro w4 (And.intro hr' hd)))
      clear own2 gr2 hE2 hdr2 htk2 hE hdr htk ex hok heq w3 w4 hr' hd hown hc' hgr f1 f5 hl hlx
      obtain ⟨T, hTe⟩ : ∃ T, T = c + dg * y.getD k 0 := ⟨_, rfl⟩
      rw [← hTe] at hmask hT w2 f2 O
      have g1 : IntKind.u64.wrap ((dg : Int) * ((y.getD k 0 : Nat) : Int)) = (dg : Int) * ((y.getD k 0 : Nat) : Int) := f4
      have g2 : IntKind.u64.wrap ((c : Int) + (dg : Int) * ((y.getD k 0 : Nat) : Int)) = (T : Int) := f6.trans f2.symm
      have g3 : (c : Int) + (dg : Int) * ((y.getD k 0 : Nat) : Int) = (T : Int) := f2.symm
      have HT := Lib.hid hTe
      clear f2 f4 f6 hTe
      generalize X.getD (j + k) 0 = xk at *
      generalize y.getD k 0 = yk at *
      generalize hLo : T % 4294967296 = lo at *
      have HL := Lib.hid hLo
      clear hLo
      go_wp2
      go_roundw
      case rel =>
        obtain ⟨o1, o2, o3, o4, o5, o6, o7⟩ := O.out
        exact ⟨k + 1, T / 4294967296, r', _, by omega, by go_num, congrArg (Value.int .u64) (by omega), congrArg (Value.int .u64) (by have := V.out.2.1; omega), V.out.2.2.1, o7, o6, o5, o4, o3, o1, o2⟩
      case measure => simp [intOf]; omega
    · obtain rfl : k = n := by omega
      obtain ⟨E, D, d, r', w1, w2, w3, w4, hr', hd, heq, hD⟩ := borrow (X.getD (j + k) 0) r c b1 hr hc
      have hdr2 : (Y.set (j + k) d).drop (j + (k + 1)) = X.drop (j + (k + 1)) := by
        rw [List.drop_set_of_lt (by omega), ← Nat.add_assoc, ← List.drop_drop, hdr, List.drop_drop]
      have htk2 : (Y.set (j + k) d).take j = X.take j := by rw [List.take_set_of_le (by omega), htk]
      have hE2 : val (((Y.set (j + k) d).drop j).take (k + 1)) + dg * val y = val ((X.drop j).take (k + 1)) + 4294967296 ^ (k + 1) * r' := by
        rw [drop_set, val_take_set _ _ _ (by simp; omega), val_take_next (X.drop j), getD_drop, Nat.pow_succ]
        rw [List.take_of_length_le (show y.length ≤ k by omega)] at hE
        have h2 : 4294967296 ^ k * (d + c + r) = 4294967296 ^ k * (X.getD (j + k) 0 + 4294967296 * r') := by rw [heq]
        generalize 4294967296 ^ k = p at *
        simp only [Nat.mul_add, ← Nat.mul_assoc] at h2 hE ⊢
        omega
      have own2 := own_set hown (j + k) d ((D : Int) % 4294967296) (by omega)
      have gr2 : w.grownBy (wr.setCell ⟨g, j + k, none⟩ (.int .u32 ((D : Int) % 4294967296))) (some g) := hgr.trans (hown.stored (j + k) _).2
      have hw4 : (D : Int) / 9223372036854775808 = (r' : Int) := by omega
      have O := Lib.hid (And.intro own2 (And.intro gr2 (And.intro hE2 (And.intro hdr2 (And.intro htk2 (And.intro (ok_set hok (j + k) hd) hr'))))))
      have W := Lib.hid hw4
      clear own2 gr2 hE2 hdr2 htk2 hE hdr htk ex hok heq w3 w4 hr' hd hown hgr hl hlx hw4
      generalize X.getD (j + k) 0 = xk at *
      go_wp2
      go_ret
      obtain ⟨o1, o2, o3, o4, o5, o6, o7⟩ := O.out
      exact ⟨_, r', by rw [← W.out]; rfl, o7, o1, o6, o5, o4, o3, o2⟩

set_option maxRecDepth 100000 in
set_option maxHeartbeats 2000000 in
theorem addBack_any (w : World) (base g N cap j n cj : Nat) (A' : Option Addr) (c' : Nat) (X y : List Nat) (h : w.ownsRow base 66 1 (.slice (some ⟨g, 0, none⟩) N cap) N (ws X)) (ho : ok X)
    (h' : Rd w w.heap.size A' c' y) (hne : ∀ ad, A' = some ad → 0 < y.length → ad.block ≠ g) (hyn : y.length = n) (hj : j + n + 1 ≤ N) (hN : N ≤ 2000000) :
    Calls Tryd.prog 94 #[.slice (some ⟨g, j, none⟩) (n + 1) cj, .slice A' n c'] w fun e w' =>
      ∃ (X' : List Nat) (x : Nat), e = .returned (.tuple #[]) ∧ w'.ownsRow base 66 1 (.slice (some ⟨g, 0, none⟩) N cap) N (ws X') ∧ ok X' ∧ X'.take j = X.take j ∧ X'.drop (j + (n + 1)) = X.drop (j + (n + 1)) ∧
        val ((X'.drop j).take (n + 1)) + 4294967296 ^ (n + 1) * x = val ((X.drop j).take (n + 1)) + val y ∧ w.grownBy w' (some g) := by
  have hlx := own_len h
  have hg := h.lt g rfl
  go_enter Tryd.func94, Tryd.ntmps94
  go_wp2
  go_loopw [4, 8] (fun cv i wr => ∃ (k c : Nat) (Y : List Nat), k ≤ n ∧ i = .int .i64 k ∧ cv = .int .u64 c ∧ c ≤ 1 ∧ ok Y ∧ Y.take j = X.take j ∧ Y.drop (j + k) = X.drop (j + k) ∧
      val ((Y.drop j).take k) + 4294967296 ^ k * c = val ((X.drop j).take k) + val (y.take k) ∧ wr.ownsRow base 66 1 (.slice (some ⟨g, 0, none⟩) N cap) N (ws Y) ∧ w.grownBy wr (some g))
    (fun _ i _ => n - (intOf i).toNat)
  case atStart => exact ⟨0, 0, X, Nat.zero_le _, rfl, rfl, by omega, ho, rfl, rfl, by simp [val], h, World.grownBy.refl _ _⟩
  case round =>
    obtain ⟨k, c, Y, hk, rfl, rfl, hc, hok, htk, hdr, hE, hown, hgr⟩ := hrel
    have hl := own_len hown
    have c1 := own_cell hown (j + k) (by omega)
    have c3 := hown.frozenAt (j + k)
    have ex : Y.getD (j + k) 0 = X.getD (j + k) 0 := getD_of_drop hdr (j + k) (Nat.le_refl _)
    rw [ex] at c1
    have b1 := ok_getD ho (j + k)
    by_cases hkx : k < n
    · obtain ⟨b', off', rfl, hb', hc'⟩ := h'.cells (by omega)
      have c4 := (hgr.cell_far ⟨b', off' + k, none⟩ hb' (fun e => hne _ rfl (by omega) (by injection e))).trans (hc' k (by omega))
      have b2 := ok_getD h'.ok k
      have hE2 := add_step (X.drop j) y (Y.drop j) k c (by simp; omega) hE
      rw [getD_drop, ← drop_set] at hE2
      obtain ⟨T, hT⟩ : ∃ T, T = c + X.getD (j + k) 0 + y.getD k 0 := ⟨_, rfl⟩
      rw [← hT] at hE2
      have hd : T % 4294967296 < 4294967296 := Nat.mod_lt _ (by decide)
      have hdr2 : (Y.set (j + k) (T % 4294967296)).drop (j + (k + 1)) = X.drop (j + (k + 1)) := by
        rw [List.drop_set_of_lt (by omega), ← Nat.add_assoc, ← List.drop_drop, hdr, List.drop_drop]
      have htk2 : (Y.set (j + k) (T % 4294967296)).take j = X.take j := by rw [List.take_set_of_le (by omega), htk]
      have own2 := own_set hown (j + k) (T % 4294967296) ((T : Int) % 4294967296) (by omega)
      have gr2 : w.grownBy (wr.setCell ⟨g, j + k, none⟩ (.int .u32 ((T : Int) % 4294967296))) (some g) := hgr.trans (hown.stored (j + k) _).2
      have O := Lib.hid (And.intro own2 (And.intro gr2 (And.intro hE2 (And.intro hdr2 (And.intro htk2 (ok_set hok (j + k) hd))))))
      have i1 : (k : Int) < (n : Int) + 1 := by omega
      have i2 : (k : Int) < (n : Int) := by omega
      have i3 : (0 : Int) ≤ (k : Int) := by omega
      have s1 : IntKind.u64.wrap (((X.getD (j + k) 0 : Nat) : Int) + ((y.getD k 0 : Nat) : Int)) = ((X.getD (j + k) 0 : Nat) : Int) + ((y.getD k 0 : Nat) : Int) := by rw [IntKind.wrap_u64]; omega
      have s2 : IntKind.u64.wrap ((c : Int) + (((X.getD (j + k) 0 : Nat) : Int) + ((y.getD k 0 : Nat) : Int))) = (T : Int) := by rw [IntKind.wrap_u64]; omega
      have s3 : (c : Int) + (((X.getD (j + k) 0 : Nat) : Int) + ((y.getD k 0 : Nat) : Int)) = (T : Int) := by omega
      have hTb : T ≤ 8589934591 := by omega
      clear own2 gr2 hE2 hdr2 htk2 hE hdr htk ex hok hd hown hc' hgr hl hlx hT
      generalize X.getD (j + k) 0 = xk at *
      generalize y.getD k 0 = yk at *
      go_wp2
      go_quiet (fail)
      go_wp2
      go_roundw
      case rel =>
        obtain ⟨o1, o2, o3, o4, o5, o6⟩ := O.out
        exact ⟨k + 1, T / 4294967296, _, by omega, by go_num, congrArg (Value.int .u64) (by omega), by omega, o6, o5, o4, o3, o1, ⟨o2.os, o2.tape, o2.output, o2.size, o2.block⟩⟩
      case measure => simp [intOf]; omega
    · obtain rfl : k = n := by omega
      obtain ⟨T, hT⟩ : ∃ T, T = X.getD (j + k) 0 + c := ⟨_, rfl⟩
      have hd : T % 4294967296 < 4294967296 := Nat.mod_lt _ (by decide)
      have hdr2 : (Y.set (j + k) (T % 4294967296)).drop (j + (k + 1)) = X.drop (j + (k + 1)) := by
        rw [List.drop_set_of_lt (by omega), ← Nat.add_assoc, ← List.drop_drop, hdr, List.drop_drop]
      have htk2 : (Y.set (j + k) (T % 4294967296)).take j = X.take j := by rw [List.take_set_of_le (by omega), htk]
      have hE2 : val (((Y.set (j + k) (T % 4294967296)).drop j).take (k + 1)) + 4294967296 ^ (k + 1) * (T / 4294967296) = val ((X.drop j).take (k + 1)) + val y := by
        rw [drop_set, val_take_set _ _ _ (by simp; omega), val_take_next (X.drop j), getD_drop, Nat.pow_succ]
        rw [List.take_of_length_le (show y.length ≤ k by omega)] at hE
        have h2 : 4294967296 ^ k * (4294967296 * (T / 4294967296) + T % 4294967296) = 4294967296 ^ k * (X.getD (j + k) 0 + c) := by rw [Nat.div_add_mod, hT]
        generalize 4294967296 ^ k = p at *
        simp only [Nat.mul_add, ← Nat.mul_assoc] at h2 hE ⊢
        omega
      have own2 := own_set hown (j + k) (T % 4294967296) ((T : Int) % 4294967296) (by omega)
      have gr2 : w.grownBy (wr.setCell ⟨g, j + k, none⟩ (.int .u32 ((T : Int) % 4294967296))) (some g) := hgr.trans (hown.stored (j + k) _).2
      have O := Lib.hid (And.intro own2 (And.intro gr2 (And.intro hE2 (And.intro hdr2 (And.intro htk2 (ok_set hok (j + k) hd))))))
      have s3 : ((X.getD (j + k) 0 : Nat) : Int) + (c : Int) = (T : Int) := by omega
      have s4 : (c : Int) % 4294967296 = (c : Int) := by omega
      clear own2 gr2 hE2 hdr2 htk2 hE hdr htk ex hok hd hown hgr hl hlx hT
      generalize X.getD (j + k) 0 = xk at *
      go_wp2
      go_end0
      obtain ⟨o1, o2, o3, o4, o5, o6⟩ := O.out
      exact ⟨_, _, rfl, o1, o6, o5, o4, o3, o2⟩

end Go.Proofs.YtfnfnagdecpobaaDoor.fo
