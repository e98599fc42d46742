/- fraction: mulWords. -/
import Derived.Test.YtfnfnagdecpobaaDoorFd
namespace Go.Proofs.YtfnfnagdecpobaaDoor.fe
open Go.RowKit Go.Proofs.YtfnfnagdecpobaaDoor.fm Go.Proofs.YtfnfnagdecpobaaDoor.mem Go.Proofs.YtfnfnagdecpobaaDoor.fa Go.Proofs.YtfnfnagdecpobaaDoor.fb

theorem word_prod (x y p c : Nat) (hx : x < 4294967296) (hy : y < 4294967296) (hp : p < 4294967296) (hc : c < 4294967296) :
    (c + x * y + p) / 4294967296 < 4294967296 ∧ ((c + x * y + p : Nat) : Int) = (c : Int) + ((x : Int) * (y : Int) + (p : Int)) ∧ 0 ≤ (x : Int) * (y : Int) ∧
      IntKind.u64.wrap ((x : Int) * (y : Int)) = (x : Int) * (y : Int) ∧ IntKind.u64.wrap ((x : Int) * (y : Int) + p) = (x : Int) * (y : Int) + p ∧ IntKind.u64.wrap ((c : Int) + ((x : Int) * (y : Int) + p)) = (c : Int) + ((x : Int) * (y : Int) + p) := by
  have h1 : x * y ≤ 4294967295 * 4294967295 := Nat.mul_le_mul (by omega) (by omega)
  have h2 : ((x * y : Nat) : Int) = (x : Int) * (y : Int) := Int.natCast_mul x y
  simp only [IntKind.wrap_u64]
  rw [← h2]
  generalize x * y = q at *
  omega

set_option maxRecDepth 100000 in
set_option maxHeartbeats 4000000 in
theorem mulWords_any (w : World) (A A' : Option Addr) (c c' : Nat) (x y : List Nat) (h : Rd w w.heap.size A c x) (h' : Rd w w.heap.size A' c' y) (hs : x.length ≤ 1000000) (hs' : y.length ≤ 1000000) :
    Calls Tryd.prog 80 #[.slice A x.length c, .slice A' y.length c'] w fun e w' => ∃ v, e = .returned v ∧ Owns w.heap.size w' v (digs (val x * val y)) ∧ Below w.heap.size w w' := by
  obtain ⟨i0, hi, hz0, hz1, hz2⟩ := info_parts info_u32
  obtain ⟨n, hn⟩ : ∃ n, n = x.length + y.length := ⟨_, rfl⟩
  have hn' : ((x.length : Int) + (y.length : Int)) = (n : Int) := by omega
  have Hn := Lib.hid hn
  have Hn' := Lib.hid hn'
  have hn2 : n ≤ x.length + y.length := by omega
  have hn3 : x.length + y.length ≤ n := by omega
  clear hn hn'
  go_enter Tryd.func80, Tryd.ntmps80
  go_wp2_with (refine wpList_make_full _ rfl _ _ 26 rfl w.heap.size 66 i0 _ 1 Tryd.underlying26 hi hz0 hz1 .i64 .i64 _ _ n rfl rfl (by omega) (by omega) (by rw [hz2]; omega) (by unfold maxLen; omega) (Nat.le_refl _) ?_; intro w1 hown hgrow)
  rw [zeros_made] at hown
  have hbel : Below w.heap.size w w1 := (Below.refl _ _).grown hgrow (Nat.le_refl _) (by simp)
  clear hgrow
  go_loopw [17] (fun i wr => ∃ (k : Nat) (P : List Nat), k ≤ x.length ∧ i = .int .i64 k ∧ ok P ∧ val P = val (x.take k) * val y ∧ (∀ t, k + y.length ≤ t → P.getD t 0 = 0) ∧
        wr.ownsRow w.heap.size 66 1 (.slice (some ⟨w.heap.size, 0, none⟩) n n) n (ws P) ∧ Below w.heap.size w wr)
      (fun i _ => x.length - (intOf i).toNat)
  case atStart => exact ⟨0, _, Nat.zero_le _, rfl, ok_replicate _, by simp [val, val_replicate], fun t _ => by simp [List.getD_eq_getElem?_getD, List.getElem?_replicate]; split <;> rfl, hown, hbel⟩
  case round =>
    clear hown hbel
    obtain ⟨k, P, hk, rfl, hok, hE, hzero, hown, hbel⟩ := hrel
    have hl := own_len hown
    by_cases hkx : k < x.length
    · obtain ⟨b, off, rfl, hb, hc⟩ := h.cells (by omega)
      have c1 := hc k hkx
      have b1 := ok_getD h.ok k
      have hstep : val (x.take (k + 1)) = val (x.take k) + 4294967296 ^ k * x.getD k 0 := val_take_next x k
      have HS := Lib.hid (And.intro hstep (And.intro hE (And.intro hzero (And.intro hok hown))))
      have HB := Lib.hid hbel
      have Hc := Lib.hid c1
      clear hstep hE hc hzero hown hok hbel c1
      generalize x.getD k 0 = xk at *
      clear hl
      obtain ⟨wo, rfl⟩ : ∃ wo : World, wo = wr := ⟨_, rfl⟩
      go_wp2
      go_loopw [7, 22] (fun cv i wr => ∃ (j cc : Nat) (P' : List Nat), j ≤ y.length ∧ i = .int .i64 j ∧ cv = .int .u64 cc ∧ cc < 4294967296 ∧ ok P' ∧ val P' + 4294967296 ^ (k + j) * cc = val P + 4294967296 ^ k * (xk * val (y.take j)) ∧ (∀ t, k + y.length ≤ t → P'.getD t 0 = 0) ∧
          wr.ownsRow w.heap.size 66 1 (.slice (some ⟨w.heap.size, 0, none⟩) n n) n (ws P') ∧ Below w.heap.size w wr)
        (fun _ i _ => y.length - (intOf i).toNat)
      case atStart => exact ⟨0, 0, P, Nat.zero_le _, rfl, rfl, by decide, HS.out.2.2.2.1, by simp [val], HS.out.2.2.1, HS.out.2.2.2.2, HB.out⟩
      case round =>
        clear HB
        obtain ⟨j, cc, P', hj, rfl, rfl, hcc, hok', hE', hzero', hown, hbel⟩ := hrel
        have hl' := own_len hown
        by_cases hjy : j < y.length
        · obtain ⟨b', off', rfl, hb', hc'⟩ := h'.cells (by omega)
          have c1 := (hbel.cell (p := ⟨b, off + k, none⟩) hb).trans Hc.out
          have c2 := (hbel.cell (p := ⟨b', off' + j, none⟩) hb').trans (hc' j hjy)
          have c3 := own_cell hown (k + j) (by omega)
          have c4 := hown.frozenAt (k + j)
          have b2 := ok_getD h'.ok j
          have b3 := ok_getD hok' (k + j)
          obtain ⟨f1, f2, f3, f4, f5, f6⟩ := word_prod xk (y.getD j 0) (P'.getD (k + j) 0) cc b1 b2 b3 hcc
          have hst := mul_step y P' xk k j cc (val P) (by omega) hE'
          have hok2 := ok_set hok' (k + j) (Nat.mod_lt (cc + xk * y.getD j 0 + P'.getD (k + j) 0) (show 4294967296 > 0 by decide))
          have hz2' : ∀ t, k + y.length ≤ t → (P'.set (k + j) ((cc + xk * y.getD j 0 + P'.getD (k + j) 0) % 4294967296)).getD t 0 = 0 := fun t ht => by
            rw [fm.getD_set_ne _ _ _ _ (by omega)]; exact hzero' t ht
          have own2 := own_set hown (k + j) ((cc + xk * y.getD j 0 + P'.getD (k + j) 0) % 4294967296) (((cc : Int) + ((xk : Int) * (y.getD j 0 : Nat) + (P'.getD (k + j) 0 : Nat))) % 4294967296) (by omega)
          have bel2 := hbel.setCell (p := ⟨w.heap.size, k + j, none⟩) (Nat.le_refl _) (.int .u32 (((cc : Int) + ((xk : Int) * (y.getD j 0 : Nat) + (P'.getD (k + j) 0 : Nat))) % 4294967296))
          have O := Lib.hid (And.intro own2 (And.intro bel2 (And.intro hst (And.intro hok2 (And.intro hz2' (And.intro f1 f2))))))
          have i1 : (0 : Int) ≤ (k : Int) + (j : Int) := by omega
          have i2 : (k : Int) + (j : Int) < (n : Int) := by omega
          have i3 : IntKind.i64.wrap ((k : Int) + (j : Int)) = (k : Int) + (j : Int) := IntWalk.i64_in _ (by omega)
          have i4 : ((k : Int) + (j : Int)).toNat = k + j := by omega
          have i5 : (j : Int) < (y.length : Int) := by omega
          have i6 : (k : Int) < (x.length : Int) := by omega
          clear own2 bel2 hst hok2 hz2' f1 f2 hown hbel hE' hzero' hok' hc' hl' HS
          generalize y.getD j 0 = yj at *
          generalize P'.getD (k + j) 0 = pk at *
          go_wp2
          go_quiet (fail)
          go_wp2
          go_roundw
          case rel =>
            obtain ⟨o1, o2, o3, o4, o5, o6, o7⟩ := O.out
            exact ⟨j + 1, (cc + xk * yj + pk) / 4294967296, _, by omega, by go_num, congrArg (Value.int .u64) (by omega), o6, o4, o3, o5, o1, ⟨o2.os, o2.tape, o2.output, o2.size, o2.block⟩⟩
          case measure => simp [intOf]; omega
        · obtain rfl : j = y.length := by omega
          obtain ⟨hstep, hE, hz, hokP, _⟩ := HS.out
          have c3 := own_cell hown (k + y.length) (by omega)
          have c4 := hown.frozenAt (k + y.length)
          have i1 : (0 : Int) ≤ (k : Int) + (y.length : Int) := by omega
          have i2 : (k : Int) + (y.length : Int) < (n : Int) := by omega
          have i4 : ((k : Int) + (y.length : Int)).toNat = k + y.length := by omega
          have hv : val (P'.set (k + y.length) cc) = val (x.take (k + 1)) * val y := by
            have e1 := val_set P' (k + y.length) cc (by omega)
            rw [hzero' _ (Nat.le_refl _)] at e1
            rw [List.take_length] at hE'
            rw [hstep, Nat.add_mul, ← hE, Nat.mul_assoc]
            omega
          have own2 := own_set hown (k + y.length) cc (cc : Int) rfl
          have bel2 := hbel.setCell (p := ⟨w.heap.size, k + y.length, none⟩) (Nat.le_refl _) (.int .u32 (cc : Int))
          have hz2' : ∀ t, k + 1 + y.length ≤ t → (P'.set (k + y.length) cc).getD t 0 = 0 := fun t ht => by
            rw [fm.getD_set_ne _ _ _ _ (by omega)]; exact hzero' t (by omega)
          have O := Lib.hid (And.intro own2 (And.intro bel2 (And.intro hv (And.intro (ok_set hok' (k + y.length) hcc) hz2'))))
          clear own2 bel2 hv hz2' hstep hE hz hokP hE' hzero' hown hbel hok' HS hl'
          generalize P'.getD (k + y.length) 0 = pk at *
          go_wp2
          go_roundw
          case rel =>
            obtain ⟨o1, o2, o3, o4, o5⟩ := O.out
            exact ⟨k + 1, _, by omega, by go_num, o4, o3, o5, o1, o2⟩
          case measure => simp [intOf]; omega
    · obtain rfl : k = x.length := by omega
      rw [List.take_length] at hE
      have H := Lib.hid hbel
      clear hbel hzero hl
      go_wp2_with fail
      refine (trim_own _ w.heap.size _ _ _ P _ hown hok (by omega) hE).mono ?_
      rintro e w2 ⟨rfl, ho3, rfl⟩
      have O3 := Lib.hid ho3
      clear ho3 hown
      go_wp2
      go_ret
      exact ⟨_, rfl, O3.out, H.out⟩

end Go.Proofs.YtfnfnagdecpobaaDoor.fe
