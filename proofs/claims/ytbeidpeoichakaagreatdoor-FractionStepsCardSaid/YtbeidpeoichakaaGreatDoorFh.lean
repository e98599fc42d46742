/- fraction: shiftLeft. -/
import Derived.Test.YtbeidpeoichakaaGreatDoorFd
import Derived.StillTailTactics
namespace Go.Proofs.YtbeidpeoichakaaGreatDoor.fh
open Go.RowKit Go.Proofs.YtbeidpeoichakaaGreatDoor.fm Go.Proofs.YtbeidpeoichakaaGreatDoor.mem Go.Proofs.YtbeidpeoichakaaGreatDoor.fa Go.Proofs.YtbeidpeoichakaaGreatDoor.fb

/-- one word of a shift to the left -/
theorem shl_step (x L : List Nat) (k p : Nat) (hk : k + 1 < L.length) (E : val (L.take (k + 1)) = val (x.take k) * p) :
    val ((((L.set k (L.getD k 0 + x.getD k 0 * p % 4294967296)).set (k + 1) (x.getD k 0 * p / 4294967296))).take (k + 1 + 1)) = val (x.take (k + 1)) * p := by
  have h1 := val_take_set (L.set k (L.getD k 0 + x.getD k 0 * p % 4294967296)) (k + 1) (x.getD k 0 * p / 4294967296) (by simpa using hk)
  have h2 := val_take_set L k (L.getD k 0 + x.getD k 0 * p % 4294967296) (by omega)
  rw [val_take_next L k] at E
  rw [h1, h2, val_take_next x k, Nat.add_mul, ← E, Nat.pow_succ]
  have h3 := Nat.div_add_mod (x.getD k 0 * p) 4294967296
  generalize 4294967296 ^ k = q at *
  generalize hy : x.getD k 0 * p = y at *
  have e : q * x.getD k 0 * p = q * y := by rw [Nat.mul_assoc, hy]
  have e2 : q * y = q * (4294967296 * (y / 4294967296)) + q * (y % 4294967296) := by rw [← Nat.mul_add, h3]
  rw [e, Nat.mul_add, e2, ← Nat.mul_assoc]
  omega

theorem shl_word (l x s : Nat) (hs : s < 32) (hx : x < 4294967296) (hl : l < 4294967296) (hc : l < 2 ^ s) :
    ∃ Y : Nat, Y = x * 2 ^ s ∧ bits .or .u32 (l : Int) (IntKind.u32.wrap ((x : Int) * 2 ^ s)) = ((l + Y % 4294967296 : Nat) : Int) ∧ IntKind.u64.wrap ((x : Int) * 2 ^ s) = (Y : Int) ∧ Y / 4294967296 < 2 ^ s ∧ l + Y % 4294967296 < 4294967296 ∧ Y < 18446744069414584320 := by
  have hp : (2 : Nat) ^ s ≤ 2 ^ 31 := Nat.pow_le_pow_right (by decide) (by omega)
  have hp0 : 0 < (2 : Nat) ^ s := Nat.pow_pos (by decide)
  have hy : x * 2 ^ s ≤ 4294967295 * 2147483648 := Nat.mul_le_mul (by omega) hp
  have e : ((x : Int) * 2 ^ s) = ((x * 2 ^ s : Nat) : Int) := by rw [Int.natCast_mul, Int.natCast_pow]; rfl
  have hm : (x * 2 ^ s % 4294967296) % 2 ^ s = 0 := by
    have h1 : (2 : Nat) ^ s ∣ 4294967296 := ⟨2 ^ (32 - s), by rw [← Nat.pow_add, show s + (32 - s) = 32 by omega]⟩
    rw [Nat.mod_mod_of_dvd _ h1, Nat.mul_mod_left]
  have hlt : x * 2 ^ s % 4294967296 < 4294967296 := Nat.mod_lt _ (by decide)
  have hsum : l + x * 2 ^ s % 4294967296 < 4294967296 := by
    -- both are parts of a word that do not meet
    have h1 : 2 ^ s * (2 ^ (32 - s)) = 4294967296 := by rw [← Nat.pow_add, show s + (32 - s) = 32 by omega]
    obtain ⟨t, ht⟩ := Nat.dvd_of_mod_eq_zero hm
    rw [ht] at hlt ⊢
    have h2 : t < 2 ^ (32 - s) := by
      rw [← h1] at hlt
      exact Nat.lt_of_mul_lt_mul_left hlt
    have h3 : 2 ^ s * (t + 1) ≤ 2 ^ s * 2 ^ (32 - s) := Nat.mul_le_mul_left _ h2
    rw [Nat.mul_add, h1] at h3
    omega
  refine ⟨x * 2 ^ s, rfl, ?_, ?_, ?_, hsum, by omega⟩
  · have e2 : IntKind.u32.wrap ((x : Int) * 2 ^ s) = ((x * 2 ^ s % 4294967296 : Nat) : Int) := by
      rw [e, IntKind.wrap_u32']; omega
    rw [e2, u32_or_nat _ _ hl hlt, Nat.or_comm, nat_join s _ _ hm hc]
    congr 1
    omega
  · rw [e, IntKind.wrap_u64]; omega
  · rw [Nat.div_lt_iff_lt_mul (by decide), Nat.mul_comm]
    exact Nat.mul_lt_mul_of_pos_left hx hp0

set_option maxRecDepth 100000 in
set_option maxHeartbeats 1000000 in
theorem shiftLeft_any (w : World) (A : Option Addr) (c s : Nat) (x : List Nat) (h : Rd w w.heap.size A c x) (hs : x.length ≤ 1000000) (hsh : s < 32) :
    Calls Tryz.prog 79 #[.slice A x.length c, .int .i64 (s : Int)] w fun e w' => ∃ L, e = .returned (.slice (some ⟨w.heap.size, 0, none⟩) (x.length + 1) (x.length + 1)) ∧
      w'.ownsRow w.heap.size 59 1 (.slice (some ⟨w.heap.size, 0, none⟩) (x.length + 1) (x.length + 1)) (x.length + 1) (ws L) ∧ ok L ∧ val L = val x * 2 ^ s ∧ Below w.heap.size w w' := by
  obtain ⟨i0, hi, hz0, hz1, hz2⟩ := info_parts info_u32
  go_enter Tryz.func79, Tryz.ntmps79
  go_wp2_with (refine wpList_make_full _ rfl _ _ 26 rfl w.heap.size 59 i0 _ 1 Tryz.underlying26 hi hz0 hz1 .i64 .i64 _ _ (x.length + 1) rfl rfl (by omega) (by omega) (by rw [hz2]; omega) (by unfold maxLen; omega) (Nat.le_refl _) ?_; intro w1 hown hgrow)
  rw [zeros_made] at hown
  have hbel : Below w.heap.size w w1 := (Below.refl _ _).grown hgrow (Nat.le_refl _) (by simp)
  clear hgrow
  go_loopw [13] (fun i wr => ∃ (k : Nat) (L : List Nat), k ≤ x.length ∧ i = .int .i64 k ∧ ok L ∧ val (L.take (k + 1)) = val (x.take k) * 2 ^ s ∧ L.getD k 0 < 2 ^ s ∧
        wr.ownsRow w.heap.size 59 1 (.slice (some ⟨w.heap.size, 0, none⟩) (x.length + 1) (x.length + 1)) (x.length + 1) (ws L) ∧ Below w.heap.size w wr)
      (fun i _ => x.length - (intOf i).toNat)
  case atStart => exact ⟨0, _, Nat.zero_le _, rfl, ok_replicate _, by simp [List.replicate_succ, val], by simp [List.replicate_succ]; exact Nat.pow_pos (by decide), hown, hbel⟩
  case round =>
    clear hown hbel
    obtain ⟨k, L, hk, rfl, hok, hE, hcar, hown, hbel⟩ := hrel
    have hl := own_len hown
    by_cases hkx : k < x.length
    · obtain ⟨b, off, rfl, hb, hc⟩ := h.cells (by omega)
      have c1 := (hbel.cell (p := ⟨b, off + k, none⟩) hb).trans (hc k hkx)
      have c2 := own_cell hown k (by omega)
      have c3 := hown.frozenAt k
      have i1 : (k : Int) < (x.length : Int) := by omega
      have i2 : (k : Int) < (x.length : Int) + 1 := by omega
      have i3 : (0 : Int) ≤ (k : Int) := by omega
      have c4 := own_cell hown (k + 1) (by omega)
      have c5 := hown.frozenAt (k + 1)
      have bx := ok_getD h.ok k
      obtain ⟨Y, hY, e1, e2, hY1, hY2, hY3⟩ := shl_word (L.getD k 0) (x.getD k 0) s hsh bx (ok_getD hok k) hcar
      have hst := shl_step x L k (2 ^ s) (by omega) hE
      rw [← hY] at hst
      have hcar2 : ((L.set k (L.getD k 0 + Y % 4294967296)).set (k + 1) (Y / 4294967296)).getD (k + 1) 0 < 2 ^ s := by
        rw [fm.getD_set_self _ _ _ (by simp; omega)]; exact hY1
      have hok2 : ok ((L.set k (L.getD k 0 + Y % 4294967296)).set (k + 1) (Y / 4294967296)) := ok_set (ok_set hok k hY2) (k + 1) (by omega)
      have own2 := own_set (own_set hown k (L.getD k 0 + Y % 4294967296) _ rfl) (k + 1) (Y / 4294967296) ((Y : Int) / 4294967296) (by omega)
      have bel2 := (hbel.setCell (p := ⟨w.heap.size, k, none⟩) (Nat.le_refl _) (.int .u32 ((L.getD k 0 + Y % 4294967296 : Nat) : Int))).setCell (p := ⟨w.heap.size, k + 1, none⟩) (Nat.le_refl _) (.int .u32 ((Y : Int) / 4294967296))
      have O := Lib.hid (And.intro own2 (And.intro bel2 (And.intro hst (And.intro hok2 hcar2))))
      clear own2 bel2 hst hok2 hcar2 hown hbel hok hE hcar hl hY hY1 hc
      generalize hZ : L.getD k 0 + Y % 4294967296 = Z at *
      have HZ := Lib.hid hZ
      clear hZ
      generalize x.getD k 0 = xk at *
      generalize L.getD k 0 = lk at *
      generalize L.getD (k + 1) 0 = lk1 at *
      go_wp2
      go_still_tail 12, (by kernel_rfl)
      change wpList _ _ _ _ _ wr.drew
      go_wp2
      go_roundw
      case rel =>
        obtain ⟨o1, o2, o3, o4, o5⟩ := O.out
        exact ⟨k + 1, _, by omega, by go_num, o4, o3, o5, o1, o2.drew⟩
      case measure => simp [intOf]; omega
    · obtain rfl : k = x.length := by omega
      have hv : val L = val x * 2 ^ s := by
        rw [List.take_of_length_le (by omega), List.take_length] at hE
        exact hE
      go_wp2
      go_ret
      exact ⟨L, rfl, hown, hok, hv, hbel⟩

end Go.Proofs.YtbeidpeoichakaaGreatDoor.fh

/- fraction: shiftRight. -/
namespace Go.Proofs.YtbeidpeoichakaaGreatDoor.fi
open Go.RowKit Go.Proofs.YtbeidpeoichakaaGreatDoor.fm Go.Proofs.YtbeidpeoichakaaGreatDoor.mem Go.Proofs.YtbeidpeoichakaaGreatDoor.fa Go.Proofs.YtbeidpeoichakaaGreatDoor.fb

/-- one word of a shift to the right -/
theorem shr_word (x y d r : Nat) (hr : r < 32) : (x + 4294967296 * (y + 4294967296 * d)) / 2 ^ r = (x + 4294967296 * y) / 2 ^ r % 4294967296 + 4294967296 * ((y + 4294967296 * d) / 2 ^ r) ∨ 4294967296 ≤ x := by
  rcases Nat.lt_or_ge x 4294967296 with hx | hx
  · left
    have hp0 : 0 < (2 : Nat) ^ r := Nat.pow_pos (by decide)
    have hb : 2 ^ r * 2 ^ (32 - r) = 4294967296 := by rw [← Nat.pow_add, show r + (32 - r) = 32 by omega]
    have e1 : (x + 4294967296 * (y + 4294967296 * d)) / 2 ^ r / 4294967296 = (y + 4294967296 * d) / 2 ^ r := by
      rw [Nat.div_div_eq_div_mul, Nat.mul_comm (2 ^ r), ← Nat.div_div_eq_div_mul, Nat.add_mul_div_left _ _ (by decide), Nat.div_eq_of_lt hx, Nat.zero_add]
    have e2 : (x + 4294967296 * (y + 4294967296 * d)) / 2 ^ r % 4294967296 = (x + 4294967296 * y) / 2 ^ r % 4294967296 := by
      have : x + 4294967296 * (y + 4294967296 * d) = (x + 4294967296 * y) + 2 ^ r * (4294967296 * (2 ^ (32 - r) * d)) := by
        rw [Nat.mul_add, ← Nat.mul_assoc (2 ^ r), Nat.mul_comm (2 ^ r) 4294967296, Nat.mul_assoc 4294967296 (2 ^ r), ← Nat.mul_assoc (2 ^ r) _ d, hb]
        omega
      rw [this, Nat.add_mul_div_left _ _ hp0, Nat.add_mul_mod_self_left]
    have := Nat.div_add_mod ((x + 4294967296 * (y + 4294967296 * d)) / 2 ^ r) 4294967296
    rw [e1, e2] at this
    omega
  · right; exact hx

theorem shr_step (x S : List Nat) (q r i v : Nat) (hr : r < 32) (ho : ok x) (hqi : q + i < x.length) (hi : i < S.length) (hv : v = (x.getD (q + i) 0 + 4294967296 * x.getD (q + i + 1) 0) / 2 ^ r % 4294967296)
    (E : val (S.take i) + 4294967296 ^ i * (val (x.drop (q + i)) / 2 ^ r) = val (x.drop q) / 2 ^ r) :
    val ((S.set i v).take (i + 1)) + 4294967296 ^ (i + 1) * (val (x.drop (q + (i + 1))) / 2 ^ r) = val (x.drop q) / 2 ^ r := by
  have h1 : val (x.drop (q + i + 1)) = x.getD (q + i + 1) 0 + 4294967296 * val (x.drop (q + i + 2)) := by
    rcases Nat.lt_or_ge (q + i + 1) x.length with h | h
    · exact val_drop x _ h
    · rw [getD_ge h, List.drop_of_length_le h, List.drop_of_length_le (by omega)]; rfl
  have h2 := val_drop x (q + i) hqi
  rw [h1] at h2
  have h3 := shr_word (x.getD (q + i) 0) (x.getD (q + i + 1) 0) (val (x.drop (q + i + 2))) r hr
  have h4 := ok_getD ho (q + i)
  rcases h3 with h3 | h3
  · rw [← h2, ← hv, ← h1] at h3
    rw [val_take_set _ _ _ hi, ← E, h3, Nat.pow_succ, Nat.mul_add, ← Nat.add_assoc q, ← Nat.mul_assoc]
    omega
  · omega

theorem shr_read (x y r : Nat) (hx : x < 4294967296) (hy : y < 4294967296) : ∃ W V : Nat, bits .or .u64 (x : Int) ((y : Int) * 4294967296) = (W : Int) ∧ (W : Int) / 2 ^ r = (V : Int) ∧ V % 4294967296 = (x + 4294967296 * y) / 2 ^ r % 4294967296 ∧ W < 18446744073709551616 ∧ W = x + 4294967296 * y := by
  refine ⟨x + 4294967296 * y, (x + 4294967296 * y) / 2 ^ r, or_join x y hx hy, ?_, rfl, by omega, rfl⟩
  rw [Int.natCast_ediv, Int.natCast_pow]
  rfl

set_option maxRecDepth 100000 in
set_option maxHeartbeats 1000000 in
theorem shiftRight_any (w : World) (base g n cap s : Nat) (x : List Nat) (h : w.ownsRow base 59 1 (.slice (some ⟨g, 0, none⟩) n cap) n (ws x)) (ho : ok x) (hs : n ≤ 1000000) (hsh : s ≤ 32000000) :
    Calls Tryz.prog 83 #[.slice (some ⟨g, 0, none⟩) n cap, .int .i64 (s : Int)] w fun e w' => ∃ v, e = .returned v ∧
      w'.ownsRow base 59 1 v (digs (val x / 2 ^ s)).length (ws (digs (val x / 2 ^ s))) ∧ w.grownBy w' (some g) ∧ (v = .slice none 0 0 ∨ ∃ k, v = .slice (some ⟨g, 0, none⟩) k cap) := by
  have hlx := own_len h
  obtain ⟨q, hq⟩ : ∃ q : Nat, (s : Int) / 32 = (q : Int) := ⟨s / 32, by omega⟩
  obtain ⟨r, hr⟩ : ∃ r : Nat, (s : Int) % 32 = (r : Int) := ⟨s % 32, by omega⟩
  have hr32 : r < 32 := by omega
  have hsqr : s = 32 * q + r := by omega
  have hpow : 2 ^ s = 4294967296 ^ q * 2 ^ r := by rw [hsqr, Nat.pow_add, Nat.pow_mul]
  have hdiv : val x / 2 ^ s = val x / 4294967296 ^ q / 2 ^ r := by rw [hpow, Nat.div_div_eq_div_mul]
  have Hd := Lib.hid (And.intro hdiv hsqr)
  have hqb : q ≤ 1000000 := by omega
  clear hpow hdiv hsqr
  by_cases hqn : n ≤ q
  · have hz : val x / 2 ^ s = 0 := by
      rw [Hd.out.1, Nat.div_eq_of_lt (Nat.lt_of_lt_of_le (val_lt ho) (Nat.pow_le_pow_right (by decide) (by omega))), Nat.zero_div]
    have i1 : (n : Int) ≤ (q : Int) := by omega
    have Hz := Lib.hid hz
    clear hz
    go_enter Tryz.func83, Tryz.ntmps83
    go_wp2
    go_ret
    rw [Hz.out]
    exact ⟨_, rfl, World.ownsRow_nil _ _ _ _, World.grownBy.refl _ _, .inl rfl⟩
  · obtain ⟨m, hm⟩ : ∃ m, n = q + m := ⟨n - q, by omega⟩
    have hnc : n ≤ cap := by
      rcases h.2 with ⟨hv, _⟩ | ⟨_, _, _, hv, _, _, hn, _⟩
      · cases hv
      · injection hv with _ _ e3; omega
    have i1 : (q : Int) < (n : Int) := by omega
    have i2 : (q : Int) ≤ (n : Int) := by omega
    have i3 : (n : Int) - (q : Int) ≤ (cap : Int) := by omega
    have i4 : n - q = m := by omega
    have Hm := Lib.hid hm
    have hm1 : n ≤ q + m := by omega
    have hm2 : q + m ≤ n := by omega
    have hm3 : 0 < m := by omega
    clear hm
    go_enter Tryz.func83, Tryz.ntmps83
    go_wp2
    go_loopw [25] (fun i wr => ∃ (k : Nat) (S : List Nat), k ≤ m ∧ i = .int .i64 k ∧ ok S ∧ val (S.take k) + 4294967296 ^ k * (val (x.drop (q + k)) / 2 ^ r) = val (x.drop q) / 2 ^ r ∧ S.drop k = x.drop k ∧
        wr.ownsRow base 59 1 (.slice (some ⟨g, 0, none⟩) n cap) n (ws S) ∧ w.grownBy wr (some g))
      (fun i _ => m - (intOf i).toNat)
    case atStart => exact ⟨0, x, Nat.zero_le _, rfl, ho, by simp [val], rfl, h, World.grownBy.refl _ _⟩
    case round =>
      obtain ⟨k, S, hk, rfl, hok, hE, hdr, hown, hgr⟩ := hrel
      have hl := own_len hown
      by_cases hkm : k < m
      · have hsame : ∀ t, k ≤ t → S.getD t 0 = x.getD t 0 := fun t ht => by
          have e1 : (S.drop k)[t - k]? = (x.drop k)[t - k]? := by rw [hdr]
          rw [List.getElem?_drop, List.getElem?_drop, show k + (t - k) = t by omega] at e1
          rw [List.getD_eq_getElem?_getD, List.getD_eq_getElem?_getD, e1]
        have c1 := own_cell hown (k + q) (by omega)
        rw [hsame (k + q) (by omega)] at c1
        have c2 := own_cell hown k (by omega)
        have c3 := hown.frozenAt k
        have b1 := ok_getD ho (k + q)
        have b2 := ok_getD ho (k + q + 1)
        obtain ⟨W, V, e1, e2, e3, hW, hWe⟩ := shr_read (x.getD (k + q) 0) (x.getD (k + q + 1) 0) r b1 b2
        have hv : V % 4294967296 = (x.getD (q + k) 0 + 4294967296 * x.getD (q + k + 1) 0) / 2 ^ r % 4294967296 := by rw [e3, Nat.add_comm k q]
        have hst := shr_step x S q r k (V % 4294967296) hr32 ho (by omega) (by omega) hv hE
        have hdr2 : (S.set k (V % 4294967296)).drop (k + 1) = x.drop (k + 1) := by
          rw [List.drop_set_of_lt (by omega), ← List.drop_drop, hdr, List.drop_drop]
        have own2 := own_set hown k (V % 4294967296) ((V : Int) % 4294967296) (by omega)
        have gr2 : w.grownBy (wr.setCell ⟨g, k, none⟩ (.int .u32 ((V : Int) % 4294967296))) (some g) := hgr.trans (hown.stored k _).2
        have O := Lib.hid (And.intro own2 (And.intro gr2 (And.intro hst (And.intro hdr2 (ok_set hok k (Nat.mod_lt V (show 4294967296 > 0 by decide)))))))
        have c4 : k + q + 1 < n → wr.cell? ⟨g, k + q + 1, none⟩ = some (.int .u32 ((x.getD (k + q + 1) 0 : Nat) : Int)) := fun hlt => by
          have := own_cell hown (k + q + 1) hlt
          rwa [hsame (k + q + 1) (by omega)] at this
        have c5 : ¬ k + q + 1 < n → x.getD (k + q + 1) 0 = 0 := fun hlt => getD_ge (by omega)
        clear own2 gr2 hst hdr2 hown hgr hE hdr hok hl hv e3 hsame
        by_cases hlast : k + q + 1 < n
        · have c6 := c4 hlast
          clear c4 c5 hWe
          generalize x.getD (k + q) 0 = xk at *
          generalize x.getD (k + q + 1) 0 = xk1 at *
          generalize S.getD k 0 = sk at *
          go_wp2
          go_roundw
          case rel => exact ⟨k + 1, _, by omega, by go_num, O.out.2.2.2.2, O.out.2.2.1, O.out.2.2.2.1, O.out.1, O.out.2.1⟩
          case measure => simp [intOf]; omega
        · have hz := c5 hlast
          have hWe2 : W = x.getD (k + q) 0 := by rw [hWe, hz]; omega
          clear c4 c5 hz hWe e1 b2
          subst hWe2
          generalize x.getD (k + q) 0 = xk at *
          generalize S.getD k 0 = sk at *
          have i6 : ¬ ((k : Int) + (q : Int) + 1 < (n : Int)) := by omega
          go_wp2
          go_roundw
          case rel => exact ⟨k + 1, _, by omega, by go_num, O.out.2.2.2.2, O.out.2.2.1, O.out.2.2.2.1, O.out.1, O.out.2.1⟩
          case measure => simp [intOf]; omega
      · obtain rfl : k = m := by omega
        have hv : val (S.take k) = val x / 2 ^ s := by
          have h0 : val (x.drop (q + k)) = 0 := by rw [List.drop_of_length_le (by omega)]; rfl
          rw [h0, Nat.zero_div, Nat.mul_zero, Nat.add_zero] at hE
          have h1 := val_split x q (by omega)
          have h2 := val_lt (ok_take ho q)
          rw [List.length_take, Nat.min_eq_left (by omega)] at h2
          rw [hE, Hd.out.1]
          congr 1
          rw [h1, Nat.add_mul_div_left _ _ (pow_pos' q), Nat.div_eq_of_lt h2, Nat.zero_add]
        have hown2 := own_trim hown k (by omega)
        have hok2 := ok_take hok k
        have H := Lib.hid (And.intro hgr hv)
        clear hgr hv hE hdr hl hown hok
        go_wp2_with fail
        refine (trim_own _ base _ _ _ _ _ hown2 hok2 (by omega) H.out.2).mono ?_
        rintro e w2 ⟨rfl, ho3, rfl⟩
        have O3 := Lib.hid ho3
        clear ho3 hown2
        go_wp2
        go_ret
        exact ⟨_, rfl, O3.out, H.out.1, .inr ⟨_, rfl⟩⟩

end Go.Proofs.YtbeidpeoichakaaGreatDoor.fi
