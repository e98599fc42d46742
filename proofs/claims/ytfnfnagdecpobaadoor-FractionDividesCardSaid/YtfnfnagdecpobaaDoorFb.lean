/- fraction: words64, short, isOne, sign, cmpWords. -/
import Derived.Test.YtfnfnagdecpobaaDoorFa
namespace Go.Proofs.YtfnfnagdecpobaaDoor.fb
open Go.RowKit Go.Proofs.YtfnfnagdecpobaaDoor.fm Go.Proofs.YtfnfnagdecpobaaDoor.mem Go.Proofs.YtfnfnagdecpobaaDoor.fa

set_option maxRecDepth 100000 in
set_option maxHeartbeats 400000 in
theorem words64_any (hi lo : Nat) (w : World) (h1 : hi < 18446744073709551616) (h2 : lo < 18446744073709551616) :
    Calls Tryd.prog 61 #[.int .u64 (hi : Int), .int .u64 (lo : Int)] w fun e w' => ∃ v, e = .returned v ∧ Owns w.heap.size w' v (digs (hi * 18446744073709551616 + lo)) ∧ Below w.heap.size w w' := by
  go_enter Tryd.func61, Tryd.ntmps61
  go_wp2_with fail
  have e : #[Value.int IntKind.u32 ((lo : Int) % 4294967296), .int .u32 ((lo : Int) / 4294967296), .int .u32 ((hi : Int) % 4294967296), .int .u32 ((hi : Int) / 4294967296)]
      = (ws [lo % 4294967296, lo / 4294967296, hi % 4294967296, hi / 4294967296]).toArray := by simp [ws]
  have ho : ok [lo % 4294967296, lo / 4294967296, hi % 4294967296, hi / 4294967296] := by
    intro x hx; simp at hx; omega
  have hv : val [lo % 4294967296, lo / 4294967296, hi % 4294967296, hi / 4294967296] = hi * 18446744073709551616 + lo := by
    simp only [val]; omega
  have hown := own_words (own_new w _ _ e (by simp [maxLen])) (digs (hi * 18446744073709551616 + lo)).length (by rw [← hv]; exact val_eq_digs_len ho)
  have hd := digs_take ho
  rw [hv] at hd
  rw [← hd] at hown
  have Hown := Lib.hid hown
  have Hv := Lib.hid hv
  have R := rd_new w _ _ e 66 ho
  clear hown hv hd e ho
  refine (trim_any _ _ _ 4 [lo % 4294967296, lo / 4294967296, hi % 4294967296, hi / 4294967296] R (by simp)).mono ?_
  rintro e w' ⟨rfl, rfl⟩
  rw [Hv.out]
  go_wp2
  go_ret
  exact ⟨_, rfl, Hown.out, (Below.refl _ _).alloc (Nat.le_refl _) _⟩

set_option maxRecDepth 100000 in
set_option maxHeartbeats 400000 in
theorem isOne_any (w : World) (B : Nat) (A : Option Addr) (c : Nat) (l : List Nat) (h : Rd w B A c l) (hs : l.length ≤ 100000000) :
    Calls Tryd.prog 81 #[.slice A l.length c] w fun e w' => e = .returned (.bool (decide (l = [1]))) ∧ w = w' := by
  by_cases h1 : l.length = 1
  · obtain ⟨x, rfl⟩ := List.length_eq_one_iff.1 h1
    obtain ⟨b, off, rfl, hb, hc⟩ := h.cells (by simp)
    have hc0 := hc 0 (by simp)
    clear hc h1
    simp only [List.getD_cons_zero, Nat.add_zero] at hc0
    go_enter Tryd.func81, Tryd.ntmps81
    go_wp2
    go_ret
    refine ⟨?_, rfl⟩
    simp
    rw [Bool.eq_iff_iff]; simp; omega
  · have h2 : ¬ l = [1] := fun e => h1 (by rw [e]; rfl)
    have h3 : ((l.length : Int) == 1) = false := beq_eq_false_iff_ne.2 (by omega)
    go_enter Tryd.func81, Tryd.ntmps81
    go_wp2
    go_ret
    exact ⟨by simp [h2], rfl⟩

set_option maxRecDepth 100000 in
set_option maxHeartbeats 400000 in
theorem short_any (w : World) (B : Nat) (A : Option Addr) (c : Nat) (l : List Nat) (h : Rd w B A c l) (hs : l.length ≤ 2) :
    Calls Tryd.prog 59 #[.slice A l.length c] w fun e w' => e = .returned (.int .u64 ((val l : Nat) : Int)) ∧ w = w' := by
  go_enter Tryd.func59, Tryd.ntmps59
  go_wp2
  go_loop [3, 7] (fun n i => ∃ k : Nat, k ≤ l.length ∧ i = .int .i64 k ∧ n = .int .u64 ((val (l.take k) : Nat) : Int)) (fun _ i => l.length - (intOf i).toNat)
  case atStart => exact ⟨0, Nat.zero_le _, rfl, rfl⟩
  case round =>
    obtain ⟨k, hk, rfl, rfl⟩ := hrel
    by_cases hlt : k < l.length
    · obtain ⟨b, off, rfl, hb, hc⟩ := h.cells (by omega)
      have hx := ok_getD h.ok k
      have hck := hc k hlt
      clear hc
      rcases (show k = 0 ∨ k = 1 by omega) with rfl | rfl
      · simp only [Nat.add_zero] at hck
        generalize hx0 : l.getD 0 0 = x at *
        have e0 : bits .or .u64 ((val [] : Nat) : Int) (x : Int) = (x : Int) := by
          have := or_join' x 0 hx (by decide)
          simpa [val] using this
        have e1 : val (l.take (0 + 1)) = x := by rw [val_take_next, hx0]; simp [val]
        have E1 := Lib.hid e1
        have E0 := Lib.hid e0
        clear e1 e0 hx0
        go_wp2
        go_round
        case rel => exact ⟨1, by omega, rfl, congrArg (Value.int .u64) (by rw [E0.out, ← E1.out])⟩
        case measure => simp [intOf]; omega
      · have hx1 : l.getD 0 0 < 4294967296 := ok_getD h.ok 0
        have e1 : val (l.take 1) = l.getD 0 0 := by rw [val_take_next]; simp [val]
        have e2 : val (l.take (1 + 1)) = l.getD 0 0 + 4294967296 * l.getD 1 0 := by rw [val_take_next, e1]
        have e3 : bits .or .u64 ((val (l.take 1) : Nat) : Int) ((l.getD 1 0 : Nat) * 4294967296) = ((val (l.take (1 + 1)) : Nat) : Int) := by
          rw [e2, e1, or_join _ _ hx1 hx]
        generalize l.getD 1 0 = x at *
        have E3 := Lib.hid e3
        clear e1 e2 e3
        go_wp2
        go_round
        case rel => exact ⟨2, by omega, rfl, congrArg (Value.int .u64) E3.out⟩
        case measure => simp [intOf]; omega
    · go_wp2
      go_ret
      exact ⟨ret_int (by rw [List.take_of_length_le (by omega)]), rfl⟩

/-- the sign of a number -/
def sgn (n : Int) : Int := if n < 0 then -1 else if 0 < n then 1 else 0

theorem sign_any (n : Int) (w : World) : Calls Tryd.prog 101 #[.int .i64 n] w fun e w' => e = .returned (.int .i64 (sgn n)) ∧ w = w' := by
  rcases (show n < 0 ∨ n = 0 ∨ 0 < n by omega) with h | h | h
  · have e : sgn n = -1 := by unfold sgn; rw [if_pos h]
    go_enter Tryd.func101, Tryd.ntmps101
    go_wp2
    go_ret
    first | exact ⟨rfl, rfl⟩ | exact ⟨ret_int e.symm, rfl⟩
  · subst h
    go_enter Tryd.func101, Tryd.ntmps101
    go_wp2
    go_ret
    first | exact ⟨rfl, rfl⟩ | exact ⟨ret_int e.symm, rfl⟩
  · have h2 : ¬ n < 0 := by omega
    have e : sgn n = 1 := by unfold sgn; rw [if_neg h2, if_pos h]
    go_enter Tryd.func101, Tryd.ntmps101
    go_wp2
    go_ret
    first | exact ⟨rfl, rfl⟩ | exact ⟨ret_int e.symm, rfl⟩

/-- the order of two numbers -/
def cmp (a b : Nat) : Int := if a < b then -1 else if b < a then 1 else 0

theorem cmp_len {m n : Nat} (h : (digs m).length ≠ (digs n).length) : cmp m n = sgn (((digs m).length : Int) - (digs n).length) := by
  unfold cmp sgn
  rcases Nat.lt_or_ge (digs m).length (digs n).length with hl | hl
  · have : m < n := Nat.lt_of_not_le fun hle => by have := len_mono hle; omega
    rw [if_pos this, if_pos (by omega)]
  · have : n < m := Nat.lt_of_not_le fun hle => by have := len_mono hle; omega
    rw [if_neg (by omega), if_pos this, if_neg (by omega), if_pos (by omega)]

/-- the first difference from the top decides -/
theorem cmp_at {a b : List Nat} (ha : ok a) {k : Nat} (hka : k < a.length) (hkb : k < b.length) (he : val (a.drop (k + 1)) = val (b.drop (k + 1))) (hl : a.length = b.length) :
    (a.getD k 0 < b.getD k 0 → val a < val b) := by
  intro hlt
  have h1 := val_split a k (by omega)
  have h2 := val_split b k (by omega)
  rw [val_drop a k hka] at h1
  rw [val_drop b k hkb, ← he] at h2
  have h3 := val_lt (ok_take ha k)
  have h4 : (a.take k).length = k := by simp; omega
  rw [h4] at h3
  have h5 : 4294967296 ^ k * (a.getD k 0 + 1 + 4294967296 * val (a.drop (k + 1))) ≤ 4294967296 ^ k * (b.getD k 0 + 4294967296 * val (a.drop (k + 1))) := Nat.mul_le_mul_left _ (by omega)
  rw [Nat.mul_add, Nat.mul_add, Nat.mul_add] at h5
  rw [Nat.mul_add] at h1 h2
  omega

set_option maxRecDepth 100000 in
set_option maxHeartbeats 400000 in
theorem cmpWords_any (w : World) (B : Nat) (A A' : Option Addr) (c c' : Nat) (m n : Nat) (h : Rd w B A c (digs m)) (h' : Rd w B A' c' (digs n)) (hs : (digs m).length ≤ 100000000) (hs' : (digs n).length ≤ 100000000) :
    Calls Tryd.prog 78 #[.slice A (digs m).length c, .slice A' (digs n).length c'] w fun e w' => e = .returned (.int .i64 (cmp m n)) ∧ ∃ k, w' = w.drewN k := by
  by_cases hl : (digs m).length = (digs n).length
  · have hl2 : (((digs m).length : Int) != (digs n).length) = false := by rw [hl]; simp
    go_enter Tryd.func78, Tryd.ntmps78
    go_wp2
    go_loopw [5] (fun i wr => ∃ (k : Nat) (z : Int), k ≤ (digs n).length ∧ z = (k : Int) - 1 ∧ i = .int .i64 z ∧ val ((digs m).drop k) = val ((digs n).drop k) ∧ ∃ q, wr = w.drewN q)
      (fun i _ => (intOf i + 1).toNat)
    case atStart => exact ⟨(digs n).length, _, Nat.le_refl _, rfl, rfl, by rw [List.drop_of_length_le (by omega), List.drop_of_length_le (by omega)], 0, rfl⟩
    case round =>
      obtain ⟨k, z, hk, hz, rfl, hv, q, rfl⟩ := hrel
      rcases Nat.eq_zero_or_pos k with h0 | h0
      · subst h0
        obtain rfl : z = -1 := by omega
        simp only [List.drop_zero, val_digs] at hv
        subst hv
        have He := Lib.hid (show cmp m m = 0 by simp [cmp])
        clear hz hl hk
        go_wp2
        go_ret
        exact ⟨ret_int He.out.symm, q, rfl⟩
      · obtain ⟨j, rfl⟩ : ∃ j, k = j + 1 := ⟨k - 1, by omega⟩
        obtain rfl : z = (j : Int) := by omega
        obtain ⟨b, off, rfl, hb, hc⟩ := h.cells (by omega)
        obtain ⟨b', off', rfl, hb', hc'⟩ := h'.cells (by omega)
        have c1 := hc j (by omega)
        have c2 := hc' j (by omega)
        have L1 : (digs m).getD j 0 < (digs n).getD j 0 → cmp m n = -1 := fun hlt => by
          have := cmp_at (ok_digs m) (by omega) (by omega) hv hl hlt
          rw [val_digs, val_digs] at this
          unfold cmp; rw [if_pos this]
        have L2 : (digs n).getD j 0 < (digs m).getD j 0 → cmp m n = 1 := fun hlt => by
          have := cmp_at (ok_digs n) (by omega) (by omega) hv.symm hl.symm hlt
          rw [val_digs, val_digs] at this
          unfold cmp; rw [if_neg (by omega), if_pos this]
        have L3 : (digs m).getD j 0 = (digs n).getD j 0 → val ((digs m).drop j) = val ((digs n).drop j) := fun he => by
          rw [val_drop _ j (by omega), val_drop _ j (by omega), he, hv]
        have i1 : (j : Int) < ((digs n).length : Int) := by omega
        have i2 : (0 : Int) ≤ (j : Int) := by omega
        have i3 : j < (digs n).length := by omega
        clear hc hc' hz hv hk
        generalize (digs m).getD j 0 = x at *
        generalize (digs n).getD j 0 = y at *
        rcases (show x < y ∨ y < x ∨ x = y by omega) with hlt | hlt | he
        · have e := L1 hlt
          have d1 : decide ((x : Int) < (y : Int)) = true := by simp; omega
          have He := Lib.hid e
          clear L1 L2 L3 e
          go_wp2
          go_quiet (fail)
          go_wp2
          go_ret
          exact ⟨ret_int He.out.symm, _, World.drewN_drewN _ _ _⟩
        · have e := L2 hlt
          have d1 : decide ((x : Int) < (y : Int)) = false := by simp; omega
          have d2 : decide ((y : Int) < (x : Int)) = true := by simp; omega
          have He := Lib.hid e
          clear L1 L2 L3 e
          go_wp2
          go_quiet (fail)
          go_wp2
          go_quiet (fail)
          go_wp2
          go_ret
          exact ⟨ret_int He.out.symm, _, (World.drewN_drewN _ _ _).trans (World.drewN_drewN _ _ _)⟩
        · have e := L3 he
          subst he
          clear L1 L2 L3
          have Hv := Lib.hid e
          clear e
          go_wp2
          go_quiet (fail)
          go_wp2
          go_quiet (fail)
          go_wp2
          go_roundw
          case rel => exact ⟨j, (j : Int) - 1, by omega, rfl, rfl, Hv.out, _, rfl⟩
          case measure => simp [intOf]
  · have hl2 : (((digs m).length : Int) != (digs n).length) = true := by rw [bne_iff_ne]; omega
    have e := cmp_len hl
    have He := Lib.hid e
    clear e
    generalize (digs m).length = x at *
    generalize (digs n).length = y at *
    go_enter Tryd.func78, Tryd.ntmps78
    go_wp2_with fail
    refine (sign_any _ _).mono ?_
    rintro e w' ⟨rfl, rfl⟩
    go_wp2
    go_ret
    exact ⟨ret_int He.out.symm, 0, rfl⟩

end Go.Proofs.YtfnfnagdecpobaaDoor.fb
