/- fraction: shiftLeft. -/
import Derived.Test.YtfnfnagdecpobaaDoorFf
import Derived.StillTailTactics
namespace Go.Proofs.YtfnfnagdecpobaaDoor.fh
open Go.RowKit Go.Proofs.YtfnfnagdecpobaaDoor.fm Go.Proofs.YtfnfnagdecpobaaDoor.mem Go.Proofs.YtfnfnagdecpobaaDoor.fa Go.Proofs.YtfnfnagdecpobaaDoor.fb

/-- one word of a shift to the left -/
theorem shl_step (x L : List Nat) (k p : Nat) (hk : k + 1 < L.length) (E : val (L.take (k + 1)) = val (x.take k) * p) :
    val ((((L.set k (L.getD k 0 + x.getD k 0 * p % 4294967296)).set (k + 1) (x.getD k 0 * p / 4294967296))).take (k + 1 + 1)) = val (x.take (k + 1)) * p := by
  have h1 := val_take_set (L.set k (L.getD k 0 + x.getD k 0 * p % 4294967296)) (k + 1) (x.getD k 0 * p / 4294967296) (by simpa using hk)
  have h2 := val_take_set L k (L.getD k 0 + x.getD k 0 * p % 4294967296) (by omega)
  rw [val_take_next L k] at E
  rw [h1, h2, val_take_next x k, Nat.add_mul, ← E, Nat.pow_succ]
  have h3 := Nat.div_add_mod (x.getD k 0 * p) 4294967296
  generalize 4294967296 ^ k = q at *
  generalize hy : x.getD k 0 * p = y at *
  have e : q * x.getD k 0 * p = q * y := by rw [Nat.mul_assoc, hy]
  have e2 : q * y = q * (4294967296 * (y / 4294967296)) + q * (y % 4294967296) := by rw [← Nat.mul_add, h3]
  rw [e, Nat.mul_add, e2, ← Nat.mul_assoc]
  omega

theorem shl_word (l x s : Nat) (hs : s < 32) (hx : x < 4294967296) (hl : l < 4294967296) (hc : l < 2 ^ s) :
    ∃ Y : Nat, Y = x * 2 ^ s ∧ bits .or .u32 (l : Int) (IntKind.u32.wrap ((x : Int) * 2 ^ s)) = ((l + Y % 4294967296 : Nat) : Int) ∧ IntKind.u64.wrap ((x : Int) * 2 ^ s) = (Y : Int) ∧ Y / 4294967296 < 2 ^ s ∧ l + Y % 4294967296 < 4294967296 ∧ Y < 18446744069414584320 := by
  have hp : (2 : Nat) ^ s ≤ 2 ^ 31 := Nat.pow_le_pow_right (by decide) (by omega)
  have hp0 : 0 < (2 : Nat) ^ s := Nat.pow_pos (by decide)
  have hy : x * 2 ^ s ≤ 4294967295 * 2147483648 := Nat.mul_le_mul (by omega) hp
  have e : ((x : Int) * 2 ^ s) = ((x * 2 ^ s : Nat) : Int) := by rw [Int.natCast_mul, Int.natCast_pow]; rfl
  have hm : (x * 2 ^ s % 4294967296) % 2 ^ s = 0 := by
    have h1 : (2 : Nat) ^ s ∣ 4294967296 := ⟨2 ^ (32 - s), by rw [← Nat.pow_add, show s + (32 - s) = 32 by omega]⟩
    rw [Nat.mod_mod_of_dvd _ h1, Nat.mul_mod_left]
  have hlt : x * 2 ^ s % 4294967296 < 4294967296 := Nat.mod_lt _ (by decide)
  have hsum : l + x * 2 ^ s % 4294967296 < 4294967296 := by
    -- both are parts of a word that do not meet
    have h1 : 2 ^ s * (2 ^ (32 - s)) = 4294967296 := by rw [← Nat.pow_add, show s + (32 - s) = 32 by omega]
    obtain ⟨t, ht⟩ := Nat.dvd_of_mod_eq_zero hm
    rw [ht] at hlt ⊢
    have h2 : t < 2 ^ (32 - s) := by
      rw [← h1] at hlt
      exact Nat.lt_of_mul_lt_mul_left hlt
    have h3 : 2 ^ s * (t + 1) ≤ 2 ^ s * 2 ^ (32 - s) := Nat.mul_le_mul_left _ h2
    rw [Nat.mul_add, h1] at h3
    omega
  refine ⟨x * 2 ^ s, rfl, ?_, ?_, ?_, hsum, by omega⟩
  · have e2 : IntKind.u32.wrap ((x : Int) * 2 ^ s) = ((x * 2 ^ s % 4294967296 : Nat) : Int) := by
      rw [e, IntKind.wrap_u32']; omega
    rw [e2, u32_or_nat _ _ hl hlt, Nat.or_comm, nat_join s _ _ hm hc]
    congr 1
    omega
  · rw [e, IntKind.wrap_u64]; omega
  · rw [Nat.div_lt_iff_lt_mul (by decide), Nat.mul_comm]
    exact Nat.mul_lt_mul_of_pos_left hx hp0

set_option maxRecDepth 100000 in
set_option maxHeartbeats 1000000 in
theorem shiftLeft_any (w : World) (A : Option Addr) (c s : Nat) (x : List Nat) (h : Rd w w.heap.size A c x) (hs : x.length ≤ 1000000) (hsh : s < 32) :
    Calls Tryd.prog 91 #[.slice A x.length c, .int .i64 (s : Int)] w fun e w' => ∃ L, e = .returned (.slice (some ⟨w.heap.size, 0, none⟩) (x.length + 1) (x.length + 1)) ∧
      w'.ownsRow w.heap.size 66 1 (.slice (some ⟨w.heap.size, 0, none⟩) (x.length + 1) (x.length + 1)) (x.length + 1) (ws L) ∧ ok L ∧ val L = val x * 2 ^ s ∧ Below w.heap.size w w' := by
  obtain ⟨i0, hi, hz0, hz1, hz2⟩ := info_parts info_u32
  go_enter Tryd.func91, Tryd.ntmps91
  go_wp2_with (refine wpList_make_full _ rfl _ _ 26 rfl w.heap.size 66 i0 _ 1 Tryd.underlying26 hi hz0 hz1 .i64 .i64 _ _ (x.length + 1) rfl rfl (by omega) (by omega) (by rw [hz2]; omega) (by unfold maxLen; omega) (Nat.le_refl _) ?_; intro w1 hown hgrow)
  rw [zeros_made] at hown
  have hbel : Below w.heap.size w w1 := (Below.refl _ _).grown hgrow (Nat.le_refl _) (by simp)
  clear hgrow
  go_loopw [13] (fun i wr => ∃ (k : Nat) (L : List Nat), k ≤ x.length ∧ i = .int .i64 k ∧ ok L ∧ val (L.take (k + 1)) = val (x.take k) * 2 ^ s ∧ L.getD k 0 < 2 ^ s ∧
        wr.ownsRow w.heap.size 66 1 (.slice (some ⟨w.heap.size, 0, none⟩) (x.length + 1) (x.length + 1)) (x.length + 1) (ws L) ∧ Below w.heap.size w wr)
      (fun i _ => x.length - (intOf i).toNat)
  case atStart => exact ⟨0, _, Nat.zero_le _, rfl, ok_replicate _, by simp [List.replicate_succ, val], by simp [List.replicate_succ]; exact Nat.pow_pos (by decide), hown, hbel⟩
  case round =>
    clear hown hbel
    obtain ⟨k, L, hk, rfl, hok, hE, hcar, hown, hbel⟩ := hrel
    have hl := own_len hown
    by_cases hkx : k < x.length
    · obtain ⟨b, off, rfl, hb, hc⟩ := h.cells (by omega)
      have c1 := (hbel.cell (p := ⟨b, off + k, none⟩) hb).trans (hc k hkx)
      have c2 := own_cell hown k (by omega)
      have c3 := hown.frozenAt k
      have i1 : (k : Int) < (x.length : Int) := by omega
      have i2 : (k : Int) < (x.length : Int) + 1 := by omega
      have i3 : (0 : Int) ≤ (k : Int) := by omega
      have c4 := own_cell hown (k + 1) (by omega)
      have c5 := hown.frozenAt (k + 1)
      have bx := ok_getD h.ok k
      obtain ⟨Y, hY, e1, e2, hY1, hY2, hY3⟩ := shl_word (L.getD k 0) (x.getD k 0) s hsh bx (ok_getD hok k) hcar
      have hst := shl_step x L k (2 ^ s) (by omega) hE
      rw [← hY] at hst
      have hcar2 : ((L.set k (L.getD k 0 + Y % 4294967296)).set (k + 1) (Y / 4294967296)).getD (k + 1) 0 < 2 ^ s := by
        rw [fm.getD_set_self _ _ _ (by simp; omega)]; exact hY1
      have hok2 : ok ((L.set k (L.getD k 0 + Y % 4294967296)).set (k + 1) (Y / 4294967296)) := ok_set (ok_set hok k hY2) (k + 1) (by omega)
      have own2 := own_set (own_set hown k (L.getD k 0 + Y % 4294967296) _ rfl) (k + 1) (Y / 4294967296) ((Y : Int) / 4294967296) (by omega)
      have bel2 := (hbel.setCell (p := ⟨w.heap.size, k, none⟩) (Nat.le_refl _) (.int .u32 ((L.getD k 0 + Y % 4294967296 : Nat) : Int))).setCell (p := ⟨w.heap.size, k + 1, none⟩) (Nat.le_refl _) (.int .u32 ((Y : Int) / 4294967296))
      have O := Lib.hid (And.intro own2 (And.intro bel2 (And.intro hst (And.intro hok2 hcar2))))
      clear own2 bel2 hst hok2 hcar2 hown hbel hok hE hcar hl hY hY1 hc
      generalize hZ : L.getD k 0 + Y % 4294967296 = Z at *
      have HZ := Lib.hid hZ
      clear hZ
      generalize x.getD k 0 = xk at *
      generalize L.getD k 0 = lk at *
      generalize L.getD (k + 1) 0 = lk1 at *
      go_wp2
      go_still_tail 12, (by kernel_rfl)
      change wpList _ _ _ _ _ wr.drew
      go_wp2
      go_roundw
      case rel =>
        obtain ⟨o1, o2, o3, o4, o5⟩ := O.out
        exact ⟨k + 1, _, by omega, by go_num, o4, o3, o5, o1, o2.drew⟩
      case measure => simp [intOf]; omega
    · obtain rfl : k = x.length := by omega
      have hv : val L = val x * 2 ^ s := by
        rw [List.take_of_length_le (by omega), List.take_length] at hE
        exact hE
      go_wp2
      go_ret
      exact ⟨L, rfl, hown, hok, hv, hbel⟩

end Go.Proofs.YtfnfnagdecpobaaDoor.fh
