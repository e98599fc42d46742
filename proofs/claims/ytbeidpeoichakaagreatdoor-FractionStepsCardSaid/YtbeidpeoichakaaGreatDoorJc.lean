/- The reference: the mathematics of bits, halves and doubles. -/
import Derived.Test.YtbeidpeoichakaaGreatDoorFm
import Derived.Test.YtbeidpeoichakaaGreatDoorJa
namespace Go.Proofs.YtbeidpeoichakaaGreatDoor.jc
open Go.Proofs.YtbeidpeoichakaaGreatDoor.fm

theorem getD_val : ∀ {l : List Nat} (j : Nat), ok l → l.getD j 0 = val l / 4294967296 ^ j % 4294967296
  | [], j, _ => by simp [val]
  | x :: l, 0, h => by
    have hx : x < 4294967296 := h x (by simp)
    simp only [List.getD_cons_zero, val, Nat.pow_zero, Nat.div_one]
    omega
  | x :: l, j + 1, h => by
    have hx : x < 4294967296 := h x (by simp)
    rw [List.getD_cons_succ, getD_val j (fun y hy => h y (by simp [hy]))]
    simp only [val]
    rw [Nat.pow_succ, Nat.mul_comm (4294967296 ^ j), ← Nat.div_div_eq_div_mul]
    congr 2
    omega

theorem pow_split (i : Nat) : (2 : Nat) ^ i = 4294967296 ^ (i / 32) * 2 ^ (i % 32) := by
  conv => lhs; rw [← Nat.div_add_mod i 32]
  rw [Nat.pow_add, Nat.pow_mul]

/-- a binary digit of a word -/
theorem bit_val {l : List Nat} (h : ok l) (i : Nat) : l.getD (i / 32) 0 / 2 ^ (i % 32) % 2 = val l / 2 ^ i % 2 := by
  rw [getD_val _ h, pow_split i, ← Nat.div_div_eq_div_mul]
  generalize val l / 4294967296 ^ (i / 32) = v
  have ht : i % 32 < 32 := Nat.mod_lt _ (by decide)
  generalize i % 32 = t at *
  obtain ⟨u, hu⟩ : ∃ u, 32 = t + (u + 1) := ⟨31 - t, by omega⟩
  have e : (4294967296 : Nat) = 2 ^ t * (2 ^ u * 2) := by
    rw [← Nat.pow_succ, ← Nat.pow_add, ← hu]
  rw [e, Nat.mod_mul_right_div_self, Nat.mod_mul_left_mod]

/-- one binary digit more of a quotient -/
theorem quo_bit (m n i Q r : Nat) (h : m / 2 ^ (i + 1) = Q * n + r) (hr : r < n) (b : Nat) (hb : b = m / 2 ^ i % 2) :
    m / 2 ^ i = 2 * Q * n + (2 * r + b) ∧ (2 * r + b < n ∨ (n ≤ 2 * r + b ∧ 2 * r + b - n < n ∧ m / 2 ^ i = (2 * Q + 1) * n + (2 * r + b - n))) := by
  have h1 : m / 2 ^ (i + 1) = m / 2 ^ i / 2 := by rw [Nat.pow_succ, Nat.div_div_eq_div_mul]
  rw [h1] at h
  have h2 : m / 2 ^ i = 2 * (Q * n + r) + b := by omega
  have h3 : m / 2 ^ i = 2 * Q * n + (2 * r + b) := by rw [h2, Nat.mul_add, Nat.mul_assoc]; omega
  refine ⟨h3, ?_⟩
  rcases Nat.lt_or_ge (2 * r + b) n with hlt | hge
  · exact Or.inl hlt
  · refine Or.inr ⟨hge, by omega, ?_⟩
    rw [h3, Nat.add_mul, Nat.one_mul]
    omega

/-- the word of a multiple of a power of two has no low bits -/
theorem low_bits {l : List Nat} (h : ok l) (i Q : Nat) (hv : val l = 2 ^ (i + 1) * Q) : l.getD (i / 32) 0 % 2 ^ (i % 32 + 1) = 0 := by
  rw [getD_val _ h, hv, Nat.pow_succ, pow_split i]
  have ht : i % 32 < 32 := Nat.mod_lt _ (by decide)
  generalize i % 32 = t at *
  generalize i / 32 = j
  obtain ⟨u, hu⟩ : ∃ u, 32 = (t + 1) + u := ⟨31 - t, by omega⟩
  have e : (4294967296 : Nat) = 2 ^ (t + 1) * 2 ^ u := by rw [← Nat.pow_add, ← hu]
  have e1 : 4294967296 ^ j * 2 ^ t * 2 * Q / 4294967296 ^ j = 2 ^ (t + 1) * Q := by
    rw [Nat.mul_assoc, Nat.mul_assoc, Nat.mul_div_cancel_left _ (Nat.pow_pos (by decide)), Nat.pow_succ, Nat.mul_assoc]
  rw [e1, e, Nat.mod_mul_right_mod, Nat.mul_mod_right]

theorem twice_step (a S : List Nat) (k d d0 d' : Nat) (hk : S.length = k) (y : Nat) (hd : y + 4294967296 * d' = 2 * a.getD k 0 + d) (E : val S + 4294967296 ^ k * d = 2 * val (a.take k) + d0) :
    val (S ++ [y]) + 4294967296 ^ (k + 1) * d' = 2 * val (a.take (k + 1)) + d0 := by
  rw [val_snoc, hk, val_take_next a, Nat.pow_succ]
  generalize 4294967296 ^ k = p at *
  have h2 : p * (y + 4294967296 * d') = p * (2 * a.getD k 0 + d) := by rw [hd]
  rw [Nat.mul_add, Nat.mul_add, ← Nat.mul_assoc, ← Nat.mul_assoc] at h2
  have h3 : p * 2 * a.getD k 0 = 2 * (p * a.getD k 0) := by rw [Nat.mul_comm p 2, Nat.mul_assoc]
  rw [h3] at h2
  omega

theorem half_step (a S : List Nat) (k y : Nat) (hk : k < S.length) (hd : 2 * y + a.getD k 0 % 2 = a.getD k 0 + 4294967296 * (a.getD (k + 1) 0 % 2)) (m0 : Nat) (E : 2 * val (S.take k) + m0 = val (a.take k) + 4294967296 ^ k * (a.getD k 0 % 2)) :
    2 * val ((S.set k y).take (k + 1)) + m0 = val (a.take (k + 1)) + 4294967296 ^ (k + 1) * (a.getD (k + 1) 0 % 2) := by
  rw [val_take_set S k y hk, val_take_next a, Nat.pow_succ]
  generalize 4294967296 ^ k = p at *
  have h2 : p * (2 * y + a.getD k 0 % 2) = p * (a.getD k 0 + 4294967296 * (a.getD (k + 1) 0 % 2)) := by rw [hd]
  rw [Nat.mul_add, Nat.mul_add, ← Nat.mul_assoc, ← Nat.mul_assoc] at h2
  have h3 : p * 2 * y = 2 * (p * y) := by rw [Nat.mul_comm p 2, Nat.mul_assoc]
  rw [h3] at h2
  omega

theorem gcd_half_left {x y : Nat} (hx : x % 2 = 0) (h : ¬ (x % 2 = 0 ∧ y % 2 = 0)) : Nat.gcd (x / 2) y = Nat.gcd x y := by
  have hy : Nat.Coprime 2 y := by
    have : y % 2 = 1 := by omega
    rw [Nat.coprime_iff_gcd_eq_one, Nat.gcd_rec, this]
    decide
  conv => rhs; rw [show x = 2 * (x / 2) by omega]
  exact (hy.gcd_mul_left_cancel (x / 2)).symm

end Go.Proofs.YtbeidpeoichakaaGreatDoor.jc

/- The reference: twice, bit. -/
set_option linter.unusedSimpArgs false
namespace Go.Proofs.YtbeidpeoichakaaGreatDoor.jd
open Go.RowKit Go.Proofs.YtbeidpeoichakaaGreatDoor.fm Go.Proofs.YtbeidpeoichakaaGreatDoor.mem Go.Proofs.YtbeidpeoichakaaGreatDoor.fa Go.Proofs.YtbeidpeoichakaaGreatDoor.fb Go.Proofs.YtbeidpeoichakaaGreatDoor.fu Go.Proofs.YtbeidpeoichakaaGreatDoor.fv Go.Proofs.YtbeidpeoichakaaGreatDoor.fy Go.Proofs.YtbeidpeoichakaaGreatDoor.fz Go.Proofs.YtbeidpeoichakaaGreatDoor.hh Go.Proofs.YtbeidpeoichakaaGreatDoor.ja Go.Proofs.YtbeidpeoichakaaGreatDoor.jb Go.Proofs.YtbeidpeoichakaaGreatDoor.jc

theorem and_one (x t : Nat) (hx : x < 4294967296) : bits .and .u32 ((x : Int) / 2 ^ t) 1 = ((x / 2 ^ t % 2 : Nat) : Int) := by
  have e : (x : Int) / 2 ^ t = ((x / 2 ^ t : Nat) : Int) := by
    rw [Int.natCast_ediv, Int.natCast_pow]
    rfl
  have hl : x / 2 ^ t < 4294967296 := Nat.lt_of_le_of_lt (Nat.div_le_self _ _) hx
  rw [e]
  generalize x / 2 ^ t = v at *
  have h := u32_and_nat v 1 hl (by decide)
  rw [Nat.and_one_is_mod] at h
  exact h

theorem or_bit (x d : Nat) (hd : d ≤ 1) : bits .or .u32 ((x : Int) * 2 % 4294967296) (d : Int) = ((2 * (x % 2147483648) + d : Nat) : Int) := by
  have e : (x : Int) * 2 % 4294967296 = ((2 ^ 1 * (x % 2147483648) : Nat) : Int) := by omega
  rw [e, u32_or_nat _ _ (by omega) (by omega), ← Nat.two_pow_add_eq_or_of_lt (by omega)]

set_option maxRecDepth 100000 in
set_option maxHeartbeats 2000000 in
theorem rbit_any (w : World) (B : Nat) (A : Option Addr) (c : Nat) (l : List Nat) (i : Nat) (h : Rd w B A c l) (hi : i < 32 * l.length) (hl : l.length ≤ 1000000) :
    Calls Tryz.prog 90 #[.slice A l.length c, .int .i64 (i : Int)] w fun e w' => e = .returned (.int .u32 ((val l / 2 ^ i % 2 : Nat) : Int)) ∧ w = w' := by
  obtain ⟨b, off, rfl, hb, hc⟩ := h.cells (by omega)
  have c1 := hc (i / 32) (by omega)
  obtain ⟨x, hx⟩ : ∃ x, x = l.getD (i / 32) 0 := ⟨_, rfl⟩
  rw [← hx] at c1
  obtain ⟨q, hq⟩ : ∃ q, q = i / 32 := ⟨_, rfl⟩
  obtain ⟨t, ht⟩ : ∃ t, t = i % 32 := ⟨_, rfl⟩
  rw [← hq] at c1
  have hxb : x < 4294967296 := by rw [hx]; exact ok_getD h.ok _
  have e3 : (i : Int).tdiv 32 = (q : Int) := by rw [Int.tdiv_eq_ediv_of_nonneg (by omega)]; omega
  have e5 : (i : Int).tmod 32 = (t : Int) := by rw [Int.tmod_eq_emod_of_nonneg (by omega)]; omega
  have hql : (q : Int) < (l.length : Int) := by omega
  have hq0 : (0 : Int) ≤ (q : Int) := by omega
  have ht32 : t < 32 := by omega
  have hbit := bit_val h.ok i
  rw [← hx, ← ht] at hbit
  have HB := Lib.hid hbit
  clear hc hx hq ht hi h hbit
  go_enter Tryz.func90, Tryz.ntmps90
  go_wp2_with fail
  go_ret
  refine ⟨ret_int ?_, rfl⟩
  rw [and_one _ _ hxb, HB.out]

set_option maxRecDepth 100000 in
set_option maxHeartbeats 2000000 in
theorem rtwice_any (w : World) (A : Option Addr) (c m d0 : Nat) (h : Rd w w.heap.size A c (digs m)) (hd0 : d0 ≤ 1) (hs : (digs m).length ≤ 1000000) :
    Calls Tryz.prog 76 #[.slice A (digs m).length c, .int .u32 (d0 : Int)] w (Gives w (2 * m + d0)) := by
  obtain ⟨i0, hi, hz0, hz1, hz2⟩ := info_parts info_u32
  go_enter Tryz.func76, Tryz.ntmps76
  obtain ⟨a, ha⟩ : ∃ a, a = digs m := ⟨_, rfl⟩
  rw [← ha] at h hs ⊢
  have HA := Lib.hid ha
  clear ha
  go_wp2_with fail
  go_loopw [1, 5, 6] (fun s1 s5 s6 wr => ∃ (k d : Nat) (S : List Nat), k ≤ a.length ∧ s6 = .int .i64 (k : Int) ∧ s1 = .int .u32 (d : Int) ∧ d ≤ 1 ∧ Hid (S.length = k ∧ ok S ∧ val S + 4294967296 ^ k * d = 2 * val (a.take k) + d0) ∧
      Owns w.heap.size wr s5 S ∧ Below w.heap.size w wr) (fun _ _ s6 _ => a.length - (intOf s6).toNat)
  case atStart => exact ⟨0, d0, [], Nat.zero_le _, rfl, rfl, hd0, Lib.hid ⟨rfl, ok_nil, by simp [val]⟩, own_nil _ _, Below.refl _ _⟩
  case round =>
    obtain ⟨k, d, S, hk, rfl, rfl, hd, hE, hown, hbel⟩ := hrel
    by_cases hka : k < a.length
    · obtain ⟨ab, aoff, rfl, hab, hac⟩ := h.cells (by omega)
      have c1 := (hbel.cell (p := ⟨ab, aoff + k, none⟩) hab).trans (hac k hka)
      have b1 := ok_getD h.ok k
      have hkz : (k : Int) < (a.length : Int) := by omega
      have HO := Lib.hid (And.intro hown hbel)
      clear hac hown hbel
      obtain ⟨xk, hxk⟩ : ∃ xk, xk = a.getD k 0 := ⟨_, rfl⟩
      rw [← hxk] at c1 b1
      have HX := Lib.hid hxk
      clear hxk
      obtain ⟨y, hy⟩ : ∃ y, y = 2 * (xk % 2147483648) + d := ⟨_, rfl⟩
      obtain ⟨d', hd'⟩ : ∃ d', d' = xk / 2147483648 := ⟨_, rfl⟩
      have e1 : bits .or .u32 ((xk : Int) * 2 % 4294967296) (d : Int) = (y : Int) := by rw [hy]; exact or_bit xk d hd
      have e2 : (xk : Int) / 2147483648 = (d' : Int) := by omega
      have HY := Lib.hid (show y + 4294967296 * d' = 2 * xk + d ∧ y < 4294967296 ∧ d' ≤ 1 by omega)
      clear hy hd'
      go_wp2_with (first | (at_builtin; refine wpList_append_lies _ rfl _ _ 26 rfl w.heap.size 59 i0 (.int .u32 0) 1 4 Tryz.underlying26 hi hz0 hz1 hz2 rfl (by decide) _ S.length (ws S) rfl (own_alloc HO.out.1 _) ⟨wr.heap.size, 0, none⟩ 1 1 [.int .u32 (y : Int)] rfl rfl (cell_one_new _ _ _) (fun u hu => by simp at hu; subst hu; rfl) (by decide) (by have := hE.out.1; unfold maxLen; omega) (by have := hE.out.1; omega) (by have := HO.out.2.size; simp; omega) _ rfl ?_; intro gg cap w6 hown6 hgrow hat hlt6; have hp6 := pushed HO.out.1 HO.out.2.size hown6 hgrow; have c6 := (hp6.2.cell (p := ⟨ab, aoff + k, none⟩) hab).trans c1; have H6 := Lib.hid (And.intro hp6.1 (HO.out.2.trans hp6.2)); clear hown6 hgrow hat hlt6 hp6 c1))
      exact ⟨⟨k + 1, d', S ++ [y], by omega, by go_num, rfl, HY.out.2.2, Lib.hid ⟨by rw [List.length_append, hE.out.1]; rfl, ok_append.2 ⟨hE.out.2.1, by intro u hu; simp at hu; rw [hu]; exact HY.out.2.1⟩,
          twice_step a S k d d0 d' hE.out.1 y (by rw [← HX.out]; exact HY.out.1) hE.out.2.2⟩, H6.out.1, H6.out.2⟩, by simp [intOf]; omega⟩
    · obtain rfl : k = a.length := by omega
      have HO := Lib.hid (And.intro hown hbel)
      clear hown hbel
      have hE2 := hE.out.2.2
      rw [List.take_length, show val a = m by rw [HA.out, val_digs]] at hE2
      have hSl := hE.out.1
      have hSb : S.length + 1 ≤ 100000000 := by omega
      have hv : val (S ++ [d]) = 2 * m + d0 := by rw [val_snoc, hSl]; exact hE2
      have hok : ok (S ++ [d]) := ok_append.2 ⟨hE.out.2.1, by intro u hu; simp at hu; omega⟩
      have HV := Lib.hid (And.intro hv hok)
      clear hv hok hE2 hSl
      go_wp2_with (first | (at_builtin; refine wpList_append_lies _ rfl _ _ 26 rfl w.heap.size 59 i0 (.int .u32 0) 1 4 Tryz.underlying26 hi hz0 hz1 hz2 rfl (by decide) _ S.length (ws S) rfl (own_alloc HO.out.1 _) ⟨wr.heap.size, 0, none⟩ 1 1 [.int .u32 (d : Int)] rfl rfl (cell_one_new _ _ _) (fun u hu => by simp at hu; subst hu; rfl) (by decide) (by have := hE.out.1; unfold maxLen; omega) (by have := hE.out.1; omega) (by have := HO.out.2.size; simp; omega) _ rfl ?_; intro gg cap w6 hown6 hgrow hat hlt6))
      obtain ⟨o6, b6⟩ := pushed HO.out.1 HO.out.2.size hown6 hgrow
      obtain ⟨A5, c5, e5, R5⟩ := own_rd o6 HV.out.2
      have hb6 := HO.out.2.trans b6
      rw [List.length_append] at e5
      have e6 : Value.slice (some ⟨gg, 0, none⟩) (S.length + 1) cap = .slice A5 (S.length + 1) c5 := e5
      injection e6 with e7 e8 e9
      subst e7 e9
      have HR := Lib.hid (And.intro R5 (And.intro hb6 (own_fresh o6)))
      clear hown6 hgrow hat hlt6 o6 b6 e5 e8 hb6 R5
      go_wp2_with fail
      have hlen : (S ++ [d]).length = S.length + 1 := by simp
      have ht := rtrim_any w6 _ (some ⟨gg, 0, none⟩) cap (S ++ [d]) HR.out.1 (by rw [hlen]; exact hSb)
      rw [hlen] at ht
      refine ht.mono ?_
      rintro _ _ ⟨rfl, rfl⟩
      rw [HV.out.1]
      go_wp2_with fail
      go_ret
      refine ⟨_, cap, rfl, ?_, HR.out.2⟩
      have := rd_trim HR.out.1
      rw [HV.out.1] at this
      exact this

end Go.Proofs.YtbeidpeoichakaaGreatDoor.jd

/- The reference: half. -/
set_option linter.unusedSimpArgs false
namespace Go.Proofs.YtbeidpeoichakaaGreatDoor.je
open Go.RowKit Go.Proofs.YtbeidpeoichakaaGreatDoor.fm Go.Proofs.YtbeidpeoichakaaGreatDoor.mem Go.Proofs.YtbeidpeoichakaaGreatDoor.fa Go.Proofs.YtbeidpeoichakaaGreatDoor.fb Go.Proofs.YtbeidpeoichakaaGreatDoor.fu Go.Proofs.YtbeidpeoichakaaGreatDoor.fv Go.Proofs.YtbeidpeoichakaaGreatDoor.fy Go.Proofs.YtbeidpeoichakaaGreatDoor.fz Go.Proofs.YtbeidpeoichakaaGreatDoor.hh Go.Proofs.YtbeidpeoichakaaGreatDoor.ja Go.Proofs.YtbeidpeoichakaaGreatDoor.jb Go.Proofs.YtbeidpeoichakaaGreatDoor.jc Go.Proofs.YtbeidpeoichakaaGreatDoor.jd Go.Proofs.YtbeidpeoichakaaGreatDoor.mill

theorem own_drawn {w : World} {base n size : Nat} {e : TypeId} {v : Value} {xs : List Value} (h : w.ownsRow base e size v n xs) (k : Nat) : (w.drewN k).ownsRow base e size v n xs := h

theorem or_top (x y : Nat) (hx : x < 2147483648) : bits .or .u32 (x : Int) ((y : Int) * 2147483648 % 4294967296) = ((x + 2147483648 * (y % 2) : Nat) : Int) := by
  have e : (y : Int) * 2147483648 % 4294967296 = ((2 ^ 31 * (y % 2) : Nat) : Int) := by omega
  rw [e, u32_or_nat _ _ (by omega) (by omega), Nat.or_comm, ← Nat.two_pow_add_eq_or_of_lt (by omega)]
  congr 1
  omega

theorem rd_news {W : World} {B ab aoff c : Nat} {a : List Nat} (R : Rd W B (some ⟨ab, aoff, none⟩) c a) : ∀ j u, (ws a)[j]? = some u → W.cell? ((⟨ab, aoff, none⟩ : Addr).add j) = some u := by
  intro j u hu
  have hj : j < a.length := by
    have := (List.getElem?_eq_some_iff.1 hu).1
    rwa [ws_length] at this
  obtain ⟨b, off, e, _, hc⟩ := R.cells (by omega)
  injection e with e
  injection e with e1 e2 e3
  subst e1 e2
  rw [Lib.add_plain, hc j hj]
  rw [ws_get a j hj] at hu
  exact hu

set_option maxRecDepth 100000 in
set_option maxHeartbeats 2000000 in
theorem rhalf_any (w : World) (A : Option Addr) (c m : Nat) (h : Rd w w.heap.size A c (digs m)) (hm : m ≠ 0) (hs : (digs m).length ≤ 1000000) :
    Calls Tryz.prog 75 #[.slice A (digs m).length c] w (Gives w (m / 2)) := by
  obtain ⟨i0, hi, hz0, hz1, hz2⟩ := info_parts info_u32
  go_enter Tryz.func75, Tryz.ntmps75
  have hl0 : 0 < (digs m).length := by have : (digs m).length ≠ 0 := fun e => hm (digs_len_zero.1 e); omega
  obtain ⟨a, ha⟩ : ∃ a, a = digs m := ⟨_, rfl⟩
  rw [← ha] at h hs hl0 ⊢
  have HA := Lib.hid ha
  clear ha
  obtain ⟨ab, aoff, rfl, hab, hac⟩ := h.cells hl0
  have HC := Lib.hid hac
  clear hac
  have hb0 := (Below.refl w.heap.size w).alloc (Nat.le_refl _) (.cells #[] 59)
  have HN := Lib.hid (rd_news (h.below hb0))
  have HO0 := Lib.hid (own_new w [] #[] rfl (by decide))
  have HB0 := Lib.hid hb0
  clear hb0
  go_wp2_with (first
    | (at_builtin; refine wpList_append_lies _ rfl _ _ 26 rfl w.heap.size 59 i0 (.int .u32 0) 1 4 Tryz.underlying26 hi hz0 hz1 hz2 rfl (by decide) _ 0 [] rfl HO0.out ⟨ab, aoff, none⟩ a.length c (ws a) rfl (by rw [ws_length, Nat.mul_one]) HN.out (ws_oneCell a) hl0 (by unfold maxLen; omega) (by omega) HB0.out.size _ rfl ?_; intro gg cap w1 hown1 hgrow hat hlt1; have hown2 : Owns w.heap.size w1 (.slice (some ⟨gg, 0, none⟩) (0 + a.length) cap) a := (by have h1 := hown1; rw [Nat.zero_add] at h1; rw [Nat.zero_add]; exact h1); have hb1 : Below w.heap.size w w1 := HB0.out.grown hgrow HB0.out.size (fun j hj => (HO0.out.lt j hj).1); have H1 := Lib.hid (And.intro hown2 hb1); clear hown1 hgrow hat hlt1 hown2 hb1))
  have hgg : w.heap.size ≤ gg := (H1.out.1.lt gg rfl).1
  have hne : ¬ gg = ab := by omega
  have hne' : ¬ ab = gg := by omega
  have hown0 : w1.ownsRow w.heap.size 59 1 (.slice (some ⟨gg, 0, none⟩) a.length cap) a.length (ws a) := by have := H1.out.1; rw [Nat.zero_add] at this; exact this
  have HW := Lib.hid (And.intro hown0 H1.out.2)
  clear hown0 H1 HN HO0 HB0
  go_loopw [10] (fun s10 wr => ∃ (k : Nat) (S : List Nat), k ≤ a.length ∧ s10 = .int .i64 (k : Int) ∧ Hid (ok S ∧ (∀ j, k ≤ j → S.getD j 0 = a.getD j 0) ∧ 2 * val (S.take k) + a.getD 0 0 % 2 = val (a.take k) + 4294967296 ^ k * (a.getD k 0 % 2)) ∧
      wr.ownsRow w.heap.size 59 1 (.slice (some ⟨gg, 0, none⟩) a.length cap) a.length (ws S) ∧ Below w.heap.size w wr) (fun s10 _ => a.length - (intOf s10).toNat)
  case atStart => exact ⟨0, a, Nat.zero_le _, rfl, Lib.hid ⟨h.ok, fun _ _ => rfl, by simp [val]⟩, HW.out.1, HW.out.2⟩
  case round =>
    clear HW
    obtain ⟨k, S, hk, rfl, hE, hown, hbel⟩ := hrel
    have hSl := own_len hown
    by_cases hka : k < a.length
    · have hkz : (k : Int) < (a.length : Int) := by omega
      have c1 := (hbel.cell (p := ⟨ab, aoff + k, none⟩) hab).trans (HC.out k hka)
      have c2 := own_cell hown k hka
      have f2 := hown.frozenAt k
      have hSk := hE.out.2.1 k (Nat.le_refl _)
      rw [hSk] at c2
      have hokx := ok_getD h.ok k
      obtain ⟨x, hx⟩ : ∃ x, x = a.getD k 0 := ⟨_, rfl⟩
      rw [← hx] at c1 c2 hokx
      obtain ⟨x2, hx2⟩ : ∃ x2, x2 = x / 2 := ⟨_, rfl⟩
      have e1 : (x : Int) / 2 = (x2 : Int) := by omega
      have hx2l : x2 < 2147483648 := by omega
      have hoky := ok_getD h.ok (k + 1)
      obtain ⟨y, hy⟩ : ∃ y, y = a.getD (k + 1) 0 := ⟨_, rfl⟩
      rw [← hy] at hoky
      have HX := Lib.hid (And.intro hx (And.intro hx2 (And.intro hy hSl)))
      by_cases hkb : k + 1 < a.length
      · have hkz2 : (k : Int) + 1 < (a.length : Int) := by omega
        have c3 := (hbel.cell (p := ⟨ab, aoff + (k + 1), none⟩) hab).trans (HC.out (k + 1) hkb)
        rw [← hy] at c3
        have HO := Lib.hid (And.intro hown hbel)
        clear hown hbel hSl hSk hx hx2 hy
        obtain ⟨z, hz⟩ : ∃ z, z = x2 + 2147483648 * (y % 2) := ⟨_, rfl⟩
        have e2 : bits .or .u32 (x2 : Int) ((y : Int) * 2147483648 % 4294967296) = (z : Int) := by rw [hz]; exact or_top x2 y hx2l
        have HZ := Lib.hid hz
        clear hz
        go_upto_region 7 with fail
        have d1 : (wr.setCell ⟨gg, k, none⟩ (.int .u32 (x2 : Int))).cell? ⟨gg, k, none⟩ = some (.int .u32 (x2 : Int)) := World.cell?_setCell_same _ _ _ c2
        have d2 : (wr.setCell ⟨gg, k, none⟩ (.int .u32 (x2 : Int))).cell? ⟨ab, aoff + (k + 1), none⟩ = some (.int .u32 (y : Int)) := (World.cell?_setCell_other _ _ _ _ (by intro h; injection h with h; exact hne h)).trans c3
        have f1 : (wr.setCell ⟨gg, k, none⟩ (.int .u32 (x2 : Int))).frozen? ⟨gg, k, none⟩ = false := by simp [go_sem, f2]
        obtain ⟨W1, hW1⟩ : ∃ W1, W1 = wr.setCell ⟨gg, k, none⟩ (.int .u32 (x2 : Int)) := ⟨_, rfl⟩
        rw [← hW1] at d1 d2 f1 ⊢
        have HW1 := Lib.hid hW1
        clear hW1 c1 c2 c3 f2 e1
        have o2 := own_set (own_set HO.out.1 k x2 (x2 : Int) rfl) k z (z : Int) rfl
        rw [List.set_set] at o2
        have b2 := (HO.out.2.setCell (p := ⟨gg, k, none⟩) hgg (.int .u32 (x2 : Int))).setCell (p := ⟨gg, k, none⟩) hgg (.int .u32 (z : Int))
        rw [← HW1.out] at o2 b2
        have hst := half_step a S k z (by rw [HX.out.2.2.2]; exact hka) (by rw [← HX.out.1, ← HX.out.2.2.1]; have := HZ.out; have := HX.out.2.1; omega) _ hE.out.2.2
        have HR := Lib.hid (And.intro hst (And.intro (own_drawn o2 1) (below_drewN b2 1)))
        clear hst o2 b2
        go_region
        go_wp2_with fail
        exact ⟨⟨k + 1, S.set k z, by omega, by go_num, Lib.hid ⟨ok_set hE.out.1 k (by have := HZ.out; omega), fun j hj => by rw [fm.getD_set_ne S k j z (by omega)]; exact hE.out.2.1 j (by omega), HR.out.1⟩, HR.out.2.1, HR.out.2.2⟩, by simp [intOf]; omega⟩
      · have hy0 : y = 0 := by rw [hy]; exact getD_ge (by omega)
        have hkz2 : ¬ (k : Int) + 1 < (a.length : Int) := by omega
        have HO := Lib.hid (And.intro hown hbel)
        have HY := Lib.hid hy0
        clear hown hbel hSl hSk hx hx2 hy hy0
        have o2 := own_set HO.out.1 k x2 (x2 : Int) rfl
        have b2 := HO.out.2.setCell (p := ⟨gg, k, none⟩) hgg (.int .u32 (x2 : Int))
        have hst := half_step a S k x2 (by rw [HX.out.2.2.2]; exact hka) (by rw [← HX.out.1, ← HX.out.2.2.1, HY.out]; have := HX.out.2.1; omega) _ hE.out.2.2
        have HR := Lib.hid (And.intro hst (And.intro o2 b2))
        clear hst o2 b2
        go_wp2_with fail
        exact ⟨⟨k + 1, S.set k x2, by omega, by go_num, Lib.hid ⟨ok_set hE.out.1 k (by omega), fun j hj => by rw [fm.getD_set_ne S k j x2 (by omega)]; exact hE.out.2.1 j (by omega), HR.out.1⟩, HR.out.2.1, HR.out.2.2⟩, by simp [intOf]; omega⟩
    · obtain rfl : k = a.length := by omega
      have hva : val a = m := by rw [HA.out, val_digs]
      have hE2 := hE.out.2.2
      rw [List.take_length, List.take_of_length_le (by omega), getD_ge (Nat.le_refl a.length), hva] at hE2
      have h0 : a.getD 0 0 % 2 = m % 2 := by rw [getD_val 0 h.ok, hva, Nat.pow_zero, Nat.div_one]; omega
      have hv : val S = m / 2 := by rw [h0] at hE2; omega
      have hR : Rd wr wr.heap.size (some ⟨gg, 0, none⟩) cap S := by
        have h1 : Owns w.heap.size wr (.slice (some ⟨gg, 0, none⟩) a.length cap) S := by
          show wr.ownsRow _ _ 1 _ S.length (ws S)
          rw [hSl]; exact hown
        obtain ⟨A5, c5, e5, R5⟩ := own_rd h1 hE.out.1
        injection e5 with e7 e8 e9
        rw [e7, e9]; exact R5
      have ht := rtrim_any wr _ _ cap S hR (by omega)
      rw [hSl, hv] at ht
      have hR2 := rd_trim hR
      rw [hv] at hR2
      have HV := Lib.hid (And.intro hR2 (And.intro hbel ht))
      clear hva hE2 h0 hv hR ht hR2 hown hbel hSl hE
      go_wp2_with fail
      refine HV.out.2.2.mono ?_
      rintro _ _ ⟨rfl, rfl⟩
      go_wp2_with fail
      go_ret
      exact ⟨_, cap, rfl, HV.out.1, HV.out.2.1, fun b off e => by injection e with e; injection e with e; omega⟩

end Go.Proofs.YtbeidpeoichakaaGreatDoor.je
