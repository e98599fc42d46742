/- fraction: words64, short, isOne, sign, cmpWords. -/
import Derived.Test.YtbeidpeoichakaaGreatDoorMem
namespace Go.Proofs.YtbeidpeoichakaaGreatDoor.fb
open Go.RowKit Go.Proofs.YtbeidpeoichakaaGreatDoor.fm Go.Proofs.YtbeidpeoichakaaGreatDoor.mem Go.Proofs.YtbeidpeoichakaaGreatDoor.fa

set_option maxRecDepth 100000 in
set_option maxHeartbeats 400000 in
theorem words64_any (hi lo : Nat) (w : World) (h1 : hi < 18446744073709551616) (h2 : lo < 18446744073709551616) :
    Calls Tryz.prog 60 #[.int .u64 (hi : Int), .int .u64 (lo : Int)] w fun e w' => ∃ v, e = .returned v ∧ Owns w.heap.size w' v (digs (hi * 18446744073709551616 + lo)) ∧ Below w.heap.size w w' := by
  go_enter Tryz.func60, Tryz.ntmps60
  go_wp2_with fail
  have e : #[Value.int IntKind.u32 ((lo : Int) % 4294967296), .int .u32 ((lo : Int) / 4294967296), .int .u32 ((hi : Int) % 4294967296), .int .u32 ((hi : Int) / 4294967296)]
      = (ws [lo % 4294967296, lo / 4294967296, hi % 4294967296, hi / 4294967296]).toArray := by simp [ws]
  have ho : ok [lo % 4294967296, lo / 4294967296, hi % 4294967296, hi / 4294967296] := by
    intro x hx; simp at hx; omega
  have hv : val [lo % 4294967296, lo / 4294967296, hi % 4294967296, hi / 4294967296] = hi * 18446744073709551616 + lo := by
    simp only [val]; omega
  have hown := own_words (own_new w _ _ e (by simp [maxLen])) (digs (hi * 18446744073709551616 + lo)).length (by rw [← hv]; exact val_eq_digs_len ho)
  have hd := digs_take ho
  rw [hv] at hd
  rw [← hd] at hown
  have Hown := Lib.hid hown
  have Hv := Lib.hid hv
  have R := rd_new w _ _ e 59 ho
  clear hown hv hd e ho
  refine (trim_any _ _ _ 4 [lo % 4294967296, lo / 4294967296, hi % 4294967296, hi / 4294967296] R (by simp)).mono ?_
  rintro e w' ⟨rfl, rfl⟩
  rw [Hv.out]
  go_wp2
  go_ret
  exact ⟨_, rfl, Hown.out, (Below.refl _ _).alloc (Nat.le_refl _) _⟩

set_option maxRecDepth 100000 in
set_option maxHeartbeats 400000 in
theorem isOne_any (w : World) (B : Nat) (A : Option Addr) (c : Nat) (l : List Nat) (h : Rd w B A c l) (hs : l.length ≤ 100000000) :
    Calls Tryz.prog 55 #[.slice A l.length c] w fun e w' => e = .returned (.bool (decide (l = [1]))) ∧ w = w' := by
  by_cases h1 : l.length = 1
  · obtain ⟨x, rfl⟩ := List.length_eq_one_iff.1 h1
    obtain ⟨b, off, rfl, hb, hc⟩ := h.cells (by simp)
    have hc0 := hc 0 (by simp)
    clear hc h1
    simp only [List.getD_cons_zero, Nat.add_zero] at hc0
    go_enter Tryz.func55, Tryz.ntmps55
    go_wp2
    go_ret
    refine ⟨?_, rfl⟩
    simp
    rw [Bool.eq_iff_iff]; simp; omega
  · have h2 : ¬ l = [1] := fun e => h1 (by rw [e]; rfl)
    have h3 : ((l.length : Int) == 1) = false := beq_eq_false_iff_ne.2 (by omega)
    go_enter Tryz.func55, Tryz.ntmps55
    go_wp2
    go_ret
    exact ⟨by simp [h2], rfl⟩

set_option maxRecDepth 100000 in
set_option maxHeartbeats 400000 in
theorem short_any (w : World) (B : Nat) (A : Option Addr) (c : Nat) (l : List Nat) (h : Rd w B A c l) (hs : l.length ≤ 2) :
    Calls Tryz.prog 89 #[.slice A l.length c] w fun e w' => e = .returned (.int .u64 ((val l : Nat) : Int)) ∧ w = w' := by
  go_enter Tryz.func89, Tryz.ntmps89
  go_wp2
  go_loop [3, 7] (fun n i => ∃ k : Nat, k ≤ l.length ∧ i = .int .i64 k ∧ n = .int .u64 ((val (l.take k) : Nat) : Int)) (fun _ i => l.length - (intOf i).toNat)
  case atStart => exact ⟨0, Nat.zero_le _, rfl, rfl⟩
  case round =>
    obtain ⟨k, hk, rfl, rfl⟩ := hrel
    by_cases hlt : k < l.length
    · obtain ⟨b, off, rfl, hb, hc⟩ := h.cells (by omega)
      have hx := ok_getD h.ok k
      have hck := hc k hlt
      clear hc
      rcases (show k = 0 ∨ k = 1 by omega) with rfl | rfl
      · simp only [Nat.add_zero] at hck
        generalize hx0 : l.getD 0 0 = x at *
        have e0 : bits .or .u64 ((val [] : Nat) : Int) (x : Int) = (x : Int) := by
          have := or_join' x 0 hx (by decide)
          simpa [val] using this
        have e1 : val (l.take (0 + 1)) = x := by rw [val_take_next, hx0]; simp [val]
        have E1 := Lib.hid e1
        have E0 := Lib.hid e0
        clear e1 e0 hx0
        go_wp2
        go_round
        case rel => exact ⟨1, by omega, rfl, congrArg (Value.int .u64) (by rw [E0.out, ← E1.out])⟩
        case measure => simp [intOf]; omega
      · have hx1 : l.getD 0 0 < 4294967296 := ok_getD h.ok 0
        have e1 : val (l.take 1) = l.getD 0 0 := by rw [val_take_next]; simp [val]
        have e2 : val (l.take (1 + 1)) = l.getD 0 0 + 4294967296 * l.getD 1 0 := by rw [val_take_next, e1]
        have e3 : bits .or .u64 ((val (l.take 1) : Nat) : Int) ((l.getD 1 0 : Nat) * 4294967296) = ((val (l.take (1 + 1)) : Nat) : Int) := by
          rw [e2, e1, or_join _ _ hx1 hx]
        generalize l.getD 1 0 = x at *
        have E3 := Lib.hid e3
        clear e1 e2 e3
        go_wp2
        go_round
        case rel => exact ⟨2, by omega, rfl, congrArg (Value.int .u64) E3.out⟩
        case measure => simp [intOf]; omega
    · go_wp2
      go_ret
      exact ⟨ret_int (by rw [List.take_of_length_le (by omega)]), rfl⟩

/-- the sign of a number -/
def sgn (n : Int) : Int := if n < 0 then -1 else if 0 < n then 1 else 0

theorem sign_any (n : Int) (w : World) : Calls Tryz.prog 69 #[.int .i64 n] w fun e w' => e = .returned (.int .i64 (sgn n)) ∧ w = w' := by
  rcases (show n < 0 ∨ n = 0 ∨ 0 < n by omega) with h | h | h
  · have e : sgn n = -1 := by unfold sgn; rw [if_pos h]
    go_enter Tryz.func69, Tryz.ntmps69
    go_wp2
    go_ret
    first | exact ⟨rfl, rfl⟩ | exact ⟨ret_int e.symm, rfl⟩
  · subst h
    go_enter Tryz.func69, Tryz.ntmps69
    go_wp2
    go_ret
    first | exact ⟨rfl, rfl⟩ | exact ⟨ret_int e.symm, rfl⟩
  · have h2 : ¬ n < 0 := by omega
    have e : sgn n = 1 := by unfold sgn; rw [if_neg h2, if_pos h]
    go_enter Tryz.func69, Tryz.ntmps69
    go_wp2
    go_ret
    first | exact ⟨rfl, rfl⟩ | exact ⟨ret_int e.symm, rfl⟩

/-- the order of two numbers -/
def cmp (a b : Nat) : Int := if a < b then -1 else if b < a then 1 else 0

theorem cmp_len {m n : Nat} (h : (digs m).length ≠ (digs n).length) : cmp m n = sgn (((digs m).length : Int) - (digs n).length) := by
  unfold cmp sgn
  rcases Nat.lt_or_ge (digs m).length (digs n).length with hl | hl
  · have : m < n := Nat.lt_of_not_le fun hle => by have := len_mono hle; omega
    rw [if_pos this, if_pos (by omega)]
  · have : n < m := Nat.lt_of_not_le fun hle => by have := len_mono hle; omega
    rw [if_neg (by omega), if_pos this, if_neg (by omega), if_pos (by omega)]

/-- the first difference from the top decides -/
theorem cmp_at {a b : List Nat} (ha : ok a) {k : Nat} (hka : k < a.length) (hkb : k < b.length) (he : val (a.drop (k + 1)) = val (b.drop (k + 1))) (hl : a.length = b.length) :
    (a.getD k 0 < b.getD k 0 → val a < val b) := by
  intro hlt
  have h1 := val_split a k (by omega)
  have h2 := val_split b k (by omega)
  rw [val_drop a k hka] at h1
  rw [val_drop b k hkb, ← he] at h2
  have h3 := val_lt (ok_take ha k)
  have h4 : (a.take k).length = k := by simp; omega
  rw [h4] at h3
  have h5 : 4294967296 ^ k * (a.getD k 0 + 1 + 4294967296 * val (a.drop (k + 1))) ≤ 4294967296 ^ k * (b.getD k 0 + 4294967296 * val (a.drop (k + 1))) := Nat.mul_le_mul_left _ (by omega)
  rw [Nat.mul_add, Nat.mul_add, Nat.mul_add] at h5
  rw [Nat.mul_add] at h1 h2
  omega

set_option maxRecDepth 100000 in
set_option maxHeartbeats 400000 in
theorem cmpWords_any (w : World) (B : Nat) (A A' : Option Addr) (c c' : Nat) (m n : Nat) (h : Rd w B A c (digs m)) (h' : Rd w B A' c' (digs n)) (hs : (digs m).length ≤ 100000000) (hs' : (digs n).length ≤ 100000000) :
    Calls Tryz.prog 39 #[.slice A (digs m).length c, .slice A' (digs n).length c'] w fun e w' => e = .returned (.int .i64 (cmp m n)) ∧ ∃ k, w' = w.drewN k := by
  by_cases hl : (digs m).length = (digs n).length
  · have hl2 : (((digs m).length : Int) != (digs n).length) = false := by rw [hl]; simp
    go_enter Tryz.func39, Tryz.ntmps39
    go_wp2
    go_loopw [5] (fun i wr => ∃ (k : Nat) (z : Int), k ≤ (digs n).length ∧ z = (k : Int) - 1 ∧ i = .int .i64 z ∧ val ((digs m).drop k) = val ((digs n).drop k) ∧ ∃ q, wr = w.drewN q)
      (fun i _ => (intOf i + 1).toNat)
    case atStart => exact ⟨(digs n).length, _, Nat.le_refl _, rfl, rfl, by rw [List.drop_of_length_le (by omega), List.drop_of_length_le (by omega)], 0, rfl⟩
    case round =>
      obtain ⟨k, z, hk, hz, rfl, hv, q, rfl⟩ := hrel
      rcases Nat.eq_zero_or_pos k with h0 | h0
      · subst h0
        obtain rfl : z = -1 := by omega
        simp only [List.drop_zero, val_digs] at hv
        subst hv
        have He := Lib.hid (show cmp m m = 0 by simp [cmp])
        clear hz hl hk
        go_wp2
        go_ret
        exact ⟨ret_int He.out.symm, q, rfl⟩
      · obtain ⟨j, rfl⟩ : ∃ j, k = j + 1 := ⟨k - 1, by omega⟩
        obtain rfl : z = (j : Int) := by omega
        obtain ⟨b, off, rfl, hb, hc⟩ := h.cells (by omega)
        obtain ⟨b', off', rfl, hb', hc'⟩ := h'.cells (by omega)
        have c1 := hc j (by omega)
        have c2 := hc' j (by omega)
        have L1 : (digs m).getD j 0 < (digs n).getD j 0 → cmp m n = -1 := fun hlt => by
          have := cmp_at (ok_digs m) (by omega) (by omega) hv hl hlt
          rw [val_digs, val_digs] at this
          unfold cmp; rw [if_pos this]
        have L2 : (digs n).getD j 0 < (digs m).getD j 0 → cmp m n = 1 := fun hlt => by
          have := cmp_at (ok_digs n) (by omega) (by omega) hv.symm hl.symm hlt
          rw [val_digs, val_digs] at this
          unfold cmp; rw [if_neg (by omega), if_pos this]
        have L3 : (digs m).getD j 0 = (digs n).getD j 0 → val ((digs m).drop j) = val ((digs n).drop j) := fun he => by
          rw [val_drop _ j (by omega), val_drop _ j (by omega), he, hv]
        have i1 : (j : Int) < ((digs n).length : Int) := by omega
        have i2 : (0 : Int) ≤ (j : Int) := by omega
        have i3 : j < (digs n).length := by omega
        clear hc hc' hz hv hk
        generalize (digs m).getD j 0 = x at *
        generalize (digs n).getD j 0 = y at *
        rcases (show x < y ∨ y < x ∨ x = y by omega) with hlt | hlt | he
        · have e := L1 hlt
          have d1 : decide ((x : Int) < (y : Int)) = true := by simp; omega
          have He := Lib.hid e
          clear L1 L2 L3 e
          go_wp2
          go_quiet (fail)
          go_wp2
          go_ret
          exact ⟨ret_int He.out.symm, _, World.drewN_drewN _ _ _⟩
        · have e := L2 hlt
          have d1 : decide ((x : Int) < (y : Int)) = false := by simp; omega
          have d2 : decide ((y : Int) < (x : Int)) = true := by simp; omega
          have He := Lib.hid e
          clear L1 L2 L3 e
          go_wp2
          go_quiet (fail)
          go_wp2
          go_quiet (fail)
          go_wp2
          go_ret
          exact ⟨ret_int He.out.symm, _, (World.drewN_drewN _ _ _).trans (World.drewN_drewN _ _ _)⟩
        · have e := L3 he
          subst he
          clear L1 L2 L3
          have Hv := Lib.hid e
          clear e
          go_wp2
          go_quiet (fail)
          go_wp2
          go_quiet (fail)
          go_wp2
          go_roundw
          case rel => exact ⟨j, (j : Int) - 1, by omega, rfl, rfl, Hv.out, _, rfl⟩
          case measure => simp [intOf]
  · have hl2 : (((digs m).length : Int) != (digs n).length) = true := by rw [bne_iff_ne]; omega
    have e := cmp_len hl
    have He := Lib.hid e
    clear e
    generalize (digs m).length = x at *
    generalize (digs n).length = y at *
    go_enter Tryz.func39, Tryz.ntmps39
    go_wp2_with fail
    refine (sign_any _ _).mono ?_
    rintro e w' ⟨rfl, rfl⟩
    go_wp2
    go_ret
    exact ⟨ret_int He.out.symm, 0, rfl⟩

end Go.Proofs.YtbeidpeoichakaaGreatDoor.fb

/- fraction: addWords. -/
namespace Go.Proofs.YtbeidpeoichakaaGreatDoor.fc
open Go.RowKit Go.Proofs.YtbeidpeoichakaaGreatDoor.fm Go.Proofs.YtbeidpeoichakaaGreatDoor.mem Go.Proofs.YtbeidpeoichakaaGreatDoor.fa Go.Proofs.YtbeidpeoichakaaGreatDoor.fb

set_option maxRecDepth 100000 in
set_option maxHeartbeats 1000000 in
theorem addWords_any (w : World) (A A' : Option Addr) (c c' : Nat) (x y : List Nat) (h : Rd w w.heap.size A c x) (h' : Rd w w.heap.size A' c' y) (hs : x.length ≤ 1000000) (hs' : y.length ≤ 1000000) :
    Calls Tryz.prog 70 #[.slice A x.length c, .slice A' y.length c'] w fun e w' => ∃ v, e = .returned v ∧ Owns w.heap.size w' v (digs (val x + val y)) ∧ Below w.heap.size w w' := by
  obtain ⟨i0, hi, hz0, hz1, hz2⟩ := info_parts info_u32
  rcases Nat.lt_or_ge x.length y.length with hlt | hlt
  case' inl =>
    obtain ⟨X, rfl⟩ : ∃ X, X = y := ⟨_, rfl⟩
    obtain ⟨Y, rfl⟩ : ∃ Y, Y = x := ⟨_, rfl⟩
    have hX := h'
    have hY := h
    have hsX := hs'
    have hsY := hs
    have hle : Y.length ≤ X.length := by omega
    have hsum : val X + val Y = val Y + val X := Nat.add_comm _ _
    have Hsum := Lib.hid hsum
    clear h h' hs hs' hsum
    go_enter Tryz.func70, Tryz.ntmps70
    go_wp2_with (refine wpList_make_full _ rfl _ _ 26 rfl w.heap.size 59 i0 _ 1 Tryz.underlying26 hi hz0 hz1 .i64 .i64 _ _ (X.length + 1) rfl rfl (by omega) (by omega) (by rw [hz2]; omega) (by unfold maxLen; omega) (Nat.le_refl _) ?_; intro w1 hown hgrow)
  case' inr =>
    obtain ⟨X, rfl⟩ : ∃ X, X = x := ⟨_, rfl⟩
    obtain ⟨Y, rfl⟩ : ∃ Y, Y = y := ⟨_, rfl⟩
    have hX := h
    have hY := h'
    have hsX := hs
    have hsY := hs'
    have hle : Y.length ≤ X.length := by omega
    have Hsum : Hid (val X + val Y = val X + val Y) := rfl
    clear h h' hs hs'
    go_enter Tryz.func70, Tryz.ntmps70
    go_wp2_with (refine wpList_make_full _ rfl _ _ 26 rfl w.heap.size 59 i0 _ 1 Tryz.underlying26 hi hz0 hz1 .i64 .i64 _ _ (X.length + 1) rfl rfl (by omega) (by omega) (by rw [hz2]; omega) (by unfold maxLen; omega) (Nat.le_refl _) ?_; intro w1 hown hgrow)
  all_goals
    rw [zeros_made] at hown
    have hbel : Below w.heap.size w w1 := (Below.refl _ _).grown hgrow (Nat.le_refl _) (by simp)
    clear hgrow hlt
    go_loopw [6, 21] (fun cv i wr => ∃ (k cc : Nat) (S : List Nat), k ≤ X.length ∧ i = .int .i64 k ∧ cv = .int .u64 cc ∧ cc ≤ 1 ∧ ok S ∧ val (S.take k) + 4294967296 ^ k * cc = val (X.take k) + val (Y.take k) ∧
        wr.ownsRow w.heap.size 59 1 (.slice (some ⟨w.heap.size, 0, none⟩) (X.length + 1) (X.length + 1)) (X.length + 1) (ws S) ∧ Below w.heap.size w wr)
      (fun _ i _ => X.length - (intOf i).toNat)
    case atStart => exact ⟨0, 0, _, Nat.zero_le _, rfl, rfl, by omega, ok_replicate _, by simp [val], hown, hbel⟩
    case round =>
      clear hown hbel
      obtain ⟨k, cc, S, hk, rfl, rfl, hcc, hok, hE, hown, hbel⟩ := hrel
      have hl := own_len hown
      by_cases hkx : k < X.length
      · obtain ⟨b, off, rfl, hb, hc⟩ := hX.cells (by omega)
        have c1 := (hbel.cell (p := ⟨b, off + k, none⟩) hb).trans (hc k hkx)
        have c2 := own_cell hown k (by omega)
        have c3 := hown.frozenAt k
        have hE2 := add_step X Y S k cc (by omega) hE
        have b1 := ok_getD hX.ok k
        have b2 := ok_getD hY.ok k
        have ho2 := ok_set hok k (Nat.mod_lt (cc + X.getD k 0 + Y.getD k 0) (show 4294967296 > 0 by decide))
        have H := Lib.hid (And.intro hE2 ho2)
        clear hE2 ho2 hE hc
        by_cases hky : k < Y.length
        · obtain ⟨b', off', rfl, hb', hc'⟩ := hY.cells (by omega)
          have c4 := (hbel.cell (p := ⟨b', off' + k, none⟩) hb').trans (hc' k hky)
          clear hc'
          have own2 := own_set hown k ((cc + X.getD k 0 + Y.getD k 0) % 4294967296) (((cc : Int) + (X.getD k 0 : Nat) + (Y.getD k 0 : Nat)) % 4294967296) (by omega)
          have bel2 := hbel.setCell (p := ⟨w.heap.size, k, none⟩) (Nat.le_refl _) (.int .u32 (((cc : Int) + (X.getD k 0 : Nat) + (Y.getD k 0 : Nat)) % 4294967296))
          have O := Lib.hid (And.intro own2 bel2)
          clear own2 bel2 hown hbel
          generalize X.getD k 0 = xk at *
          generalize Y.getD k 0 = yk at *
          go_wp2
          go_roundw
          case rel => exact ⟨k + 1, (cc + xk + yk) / 4294967296, _, by omega, by go_num, by go_num, by omega, H.out.2, H.out.1, O.out.1, O.out.2⟩
          case measure => simp [intOf]; omega
        · have hy0 : Y.getD k 0 = 0 := getD_ge (by omega)
          have own2 := own_set hown k ((cc + X.getD k 0 + Y.getD k 0) % 4294967296) (((cc : Int) + (X.getD k 0 : Nat)) % 4294967296) (by omega)
          have bel2 := hbel.setCell (p := ⟨w.heap.size, k, none⟩) (Nat.le_refl _) (.int .u32 (((cc : Int) + (X.getD k 0 : Nat)) % 4294967296))
          have O := Lib.hid (And.intro own2 bel2)
          rw [hy0] at O H
          clear own2 bel2 hown hbel hy0 b2
          generalize X.getD k 0 = xk at *
          go_wp2
          go_roundw
          case rel => exact ⟨k + 1, (cc + xk + 0) / 4294967296, _, by omega, by go_num, by go_num, by omega, H.out.2, H.out.1, O.out.1, O.out.2⟩
          case measure => simp [intOf]; omega
      · obtain rfl : k = X.length := by omega
        have c2 := own_cell hown X.length (by omega)
        have c3 := hown.frozenAt X.length
        have own2 := own_set hown X.length cc (cc : Int) rfl
        have bel2 := hbel.setCell (p := ⟨w.heap.size, X.length, none⟩) (Nat.le_refl _) (.int .u32 (cc : Int))
        have hv : val (S.set X.length cc) = val X + val Y := by
          have e1 := val_take_set S X.length cc (by omega)
          rw [List.take_of_length_le (by simp; omega)] at e1
          rw [List.take_length, List.take_of_length_le hle] at hE
          omega
        have ho2 : ok (S.set X.length cc) := ok_set hok _ (by omega)
        have O := Lib.hid (And.intro own2 (And.intro ho2 (And.intro hv bel2)))
        clear own2 bel2 hv ho2 hE
        go_wp2_with fail
        refine (trim_own _ w.heap.size _ _ _ _ _ O.out.1 O.out.2.1 (by omega) O.out.2.2.1).mono ?_
        rintro e w2 ⟨rfl, ho3, rfl⟩
        have O3 := Lib.hid ho3
        clear ho3
        go_wp2
        go_ret
        refine ⟨_, rfl, ?_, O.out.2.2.2⟩
        first | exact O3.out | (rw [← Hsum.out]; exact O3.out)

end Go.Proofs.YtbeidpeoichakaaGreatDoor.fc
