/- The reference: div. -/
import Derived.Test.YtbeidpeoichakaaGreatDoorJc
import Derived.Test.YtbeidpeoichakaaGreatDoorFr
import Derived.Deep.DeepCutAuto
set_option linter.unusedSimpArgs false
namespace Go.Proofs.YtbeidpeoichakaaGreatDoor.jf
open Go.RowKit Go.Proofs.YtbeidpeoichakaaGreatDoor.fm Go.Proofs.YtbeidpeoichakaaGreatDoor.mem Go.Proofs.YtbeidpeoichakaaGreatDoor.fa Go.Proofs.YtbeidpeoichakaaGreatDoor.fb Go.Proofs.YtbeidpeoichakaaGreatDoor.fr Go.Proofs.YtbeidpeoichakaaGreatDoor.fu Go.Proofs.YtbeidpeoichakaaGreatDoor.fv Go.Proofs.YtbeidpeoichakaaGreatDoor.fy Go.Proofs.YtbeidpeoichakaaGreatDoor.fz Go.Proofs.YtbeidpeoichakaaGreatDoor.hh Go.Proofs.YtbeidpeoichakaaGreatDoor.ja Go.Proofs.YtbeidpeoichakaaGreatDoor.jb Go.Proofs.YtbeidpeoichakaaGreatDoor.jc Go.Proofs.YtbeidpeoichakaaGreatDoor.jd Go.Proofs.YtbeidpeoichakaaGreatDoor.je Go.Proofs.YtbeidpeoichakaaGreatDoor.mill

/-- What holds while the reference divides: k binary digits are left. -/
structure DState (w W : World) (a : List Nat) (m n k r : Nat) (S : List Nat) : Prop where
  row : W.ownsRow w.heap.size 59 1 (.slice (some ⟨w.heap.size, 0, none⟩) a.length a.length) a.length (ws S)
  lt : w.heap.size < W.heap.size
  bel : Below w.heap.size w W
  okS : ok S
  q : ∃ Q, val S = 2 ^ k * Q ∧ m / 2 ^ k = Q * n + r
  r : r < n

theorem DState.after {w W W' : World} {a : List Nat} {m n k r : Nat} {S : List Nat} (D : DState w W a m n k r S) (h : Below W.heap.size W W') : DState w W' a m n k r S :=
  ⟨own_below D.row h D.lt, Nat.lt_of_lt_of_le D.lt h.size, D.bel.trans (h.mono (Nat.le_of_lt D.lt)), D.okS, D.q, D.r⟩

theorem or_low (x t : Nat) (ht : t < 32) (hx : x < 4294967296) (hl : x % 2 ^ (t + 1) = 0) : bits .or .u32 (x : Int) (2 ^ t % 4294967296) = ((x + 2 ^ t : Nat) : Int) := by
  have hp : 2 ^ t < 4294967296 := Nat.pow_lt_pow_right (by decide) ht
  have e : (2 : Int) ^ t % 4294967296 = ((2 ^ t : Nat) : Int) := by
    have h1 : (2 : Int) ^ t = ((2 ^ t : Nat) : Int) := by rw [Int.natCast_pow]; rfl
    rw [h1]
    omega
  have h2 : x = 2 ^ (t + 1) * (x / 2 ^ (t + 1)) := by have := Nat.div_add_mod x (2 ^ (t + 1)); omega
  rw [e, u32_or_nat _ _ hx hp]
  conv => lhs; rw [h2]
  conv => rhs; rw [h2]
  rw [Nat.two_pow_add_eq_or_of_lt (Nat.pow_lt_pow_right (by decide) (by omega))]

theorem low_room (x t : Nat) (ht : t < 32) (hx : x < 4294967296) (hl : x % 2 ^ (t + 1) = 0) : x + 2 ^ t < 4294967296 := by
  obtain ⟨u, hu⟩ : ∃ u, 32 = (t + 1) + u := ⟨31 - t, by omega⟩
  have e : (4294967296 : Nat) = 2 ^ (t + 1) * 2 ^ u := by rw [← Nat.pow_add, ← hu]
  have h2 : x = 2 ^ (t + 1) * (x / 2 ^ (t + 1)) := by have := Nat.div_add_mod x (2 ^ (t + 1)); omega
  have h3 : x / 2 ^ (t + 1) < 2 ^ u := Nat.div_lt_of_lt_mul (by rw [← e]; exact hx)
  have h4 : 2 ^ (t + 1) * (x / 2 ^ (t + 1) + 1) ≤ 2 ^ (t + 1) * 2 ^ u := Nat.mul_le_mul_left _ h3
  rw [← e, Nat.mul_add, ← h2, Nat.mul_one] at h4
  have h5 : 2 ^ t < 2 ^ (t + 1) := Nat.pow_lt_pow_right (by decide) (by omega)
  omega

theorem len_twice {n k : Nat} (h : (digs n).length ≤ k) : (digs (2 * n)).length ≤ k + 1 := by
  have h1 := (lt_len_iff _ k).1 h
  refine (lt_len_iff _ (k + 1)).2 ?_
  rw [Nat.pow_succ]
  generalize (4294967296 : Nat) ^ k = p at *
  omega

set_option maxRecDepth 100000 in
set_option maxHeartbeats 2000000 in
theorem rdiv_any (w : World) (A A' : Option Addr) (c c' m n : Nat) (h : Rd w w.heap.size A c (digs m)) (h' : Rd w w.heap.size A' c' (digs n)) (hn : n ≠ 0) (hs : (digs m).length ≤ 100000) (hs' : (digs n).length ≤ 100000) :
    Calls Tryz.prog 77 #[.slice A (digs m).length c, .slice A' (digs n).length c'] w fun e w' => ∃ A1 c1 A2 c2, e = .returned (.tuple #[.slice A1 (digs (m / n)).length c1, .slice A2 (digs (m % n)).length c2]) ∧
      Rd w' w'.heap.size A1 c1 (digs (m / n)) ∧ Rd w' w'.heap.size A2 c2 (digs (m % n)) ∧ Below w.heap.size w w' := by
  obtain ⟨i0, hi, hz0, hz1, hz2⟩ := info_parts info_u32
  go_enter Tryz.func77, Tryz.ntmps77
  obtain ⟨a, ha⟩ : ∃ a, a = digs m := ⟨_, rfl⟩
  rw [← ha] at h hs ⊢
  have HA := Lib.hid ha
  clear ha
  go_wp2_with (refine wpList_make_full _ rfl _ _ 26 rfl w.heap.size 59 i0 _ 1 Tryz.underlying26 hi hz0 hz1 .i64 .i64 _ _ a.length rfl rfl (by omega) (by omega) (by rw [hz2]; omega) (by unfold maxLen; omega) (Nat.le_refl _) ?_; intro w1 hown hgrow)
  rw [zeros_made] at hown
  have hbel : Below w.heap.size w w1 := (Below.refl _ _).grown hgrow (Nat.le_refl _) (by simp)
  have hva : val a = m := by rw [HA.out, val_digs]
  have D0 : DState w w1 a m n (32 * a.length) 0 (List.replicate a.length 0) := by
    refine ⟨hown, (hown.lt w.heap.size rfl).2, hbel, ok_replicate _, ⟨0, by rw [val_replicate, Nat.mul_zero], ?_⟩, by omega⟩
    rw [Nat.zero_mul, Nat.div_eq_of_lt]
    rw [Nat.pow_mul, ← hva]
    exact val_lt h.ok
  have HD0 := Lib.hid D0
  have HVa := Lib.hid hva
  clear hgrow hown hbel D0 hva
  go_loopw [5, 6] (fun s5 s6 wr => ∃ (k r : Nat) (z : Int) (S : List Nat) (A5 : Option Addr) (c5 : Nat), k ≤ 32 * a.length ∧ z = (k : Int) - 1 ∧ s6 = .int .i64 z ∧ s5 = .slice A5 (digs r).length c5 ∧ Rd wr wr.heap.size A5 c5 (digs r) ∧ Hid (DState w wr a m n k r S) ∧ Fresh (w.heap.size + 1) A5) (fun _ s6 _ => (intOf s6 + 1).toNat)
  case atStart => exact ⟨32 * a.length, 0, _, _, none, 0, Nat.le_refl _, rfl, by simp, rfl, Rd.nil _ _ _ _, HD0, fun b off e => by cases e⟩
  case round =>
    clear HD0
    obtain ⟨k, r, z, S, A5, c5, hk, hz, rfl, rfl, R5, HD, hf5⟩ := hrel
    rcases Nat.eq_zero_or_pos k with h0 | h0
    · subst h0
      obtain rfl : z = -1 := by omega
      clear hz hk
      obtain ⟨Q, hQ1, hQ2⟩ := HD.out.q
      rw [Nat.pow_zero, Nat.one_mul] at hQ1
      rw [Nat.pow_zero, Nat.div_one] at hQ2
      have hr := HD.out.r
      have hn0 : 0 < n := by omega
      have hQm : Q = m / n := by
        rw [hQ2, Nat.mul_comm, Nat.mul_add_div hn0, Nat.div_eq_of_lt hr, Nat.add_zero]
      have hrm : r = m % n := by
        rw [hQ2, Nat.mul_comm, Nat.mul_add_mod, Nat.mod_eq_of_lt hr]
      have hSl := own_len HD.out.row
      have hR : Rd wr wr.heap.size (some ⟨w.heap.size, 0, none⟩) a.length S := by
        have h1 : Owns w.heap.size wr (.slice (some ⟨w.heap.size, 0, none⟩) a.length a.length) S := by
          show wr.ownsRow _ _ 1 _ S.length (ws S)
          rw [hSl]; exact HD.out.row
        obtain ⟨A8, c8, e8, R8⟩ := own_rd h1 HD.out.okS
        injection e8 with e7 e8 e9
        rw [e7, e9]; exact R8
      have ht := rtrim_any wr _ _ a.length S hR (by omega)
      rw [hSl, hQ1, hQm] at ht
      have hR2 := rd_trim hR
      rw [hQ1, hQm] at hR2
      rw [hrm] at R5
      have HV := Lib.hid (And.intro hR2 (And.intro R5 (And.intro ht hrm)))
      clear hQ1 hQ2 hr hn0 hQm hrm hSl hR ht hR2 R5
      go_wp2_with fail
      refine HV.out.2.2.1.mono ?_
      rintro _ _ ⟨rfl, rfl⟩
      rw [HV.out.2.2.2]
      go_wp2_with fail
      go_ret2
      exact ⟨_, _, _, _, rfl, HV.out.1, HV.out.2.1, HD.out.bel⟩
    · obtain ⟨j, rfl⟩ : ∃ j, k = j + 1 := ⟨k - 1, by omega⟩
      obtain rfl : z = (j : Int) := by omega
      have hj0 : (0 : Int) ≤ (j : Int) := by omega
      have hjk : j < 32 * a.length := by omega
      clear hz h0
      go_wp2_with fail
      refine (rbit_any wr _ A c a j (h.below HD.out.bel) hjk (by omega)).mono ?_
      rintro _ _ ⟨rfl, rfl⟩
      rw [HVa.out]
      obtain ⟨b, hb⟩ : ∃ b, b = m / 2 ^ j % 2 := ⟨_, rfl⟩
      rw [← hb]
      obtain ⟨Q, hQ1, hQ2⟩ := HD.out.q
      obtain ⟨hq1, hq2⟩ := quo_bit m n j Q r hQ2 HD.out.r b hb
      have hb1 : b ≤ 1 := by rw [hb]; omega
      have hrn : (digs r).length ≤ 100000 := Nat.le_trans (len_mono (Nat.le_of_lt HD.out.r)) hs'
      have HQ := Lib.hid (And.intro hQ1 (And.intro hq1 hq2))
      clear hQ1 hQ2 hq1 hq2 hb
      go_wp2_with fail
      refine (rtwice_any wr A5 c5 r b R5 hb1 (by omega)).mono ?_
      rintro _ W2 ⟨A6, c6, rfl, R6, hb6, hf6⟩
      have HD6 := Lib.hid (HD.out.after hb6)
      have hr2l : (digs (2 * r + b)).length ≤ 100001 := Nat.le_trans (len_mono (show 2 * r + b ≤ 2 * n by have := HD.out.r; omega)) (len_twice hs')
      obtain ⟨r2, hr2⟩ : ∃ r2, r2 = 2 * r + b := ⟨_, rfl⟩
      rw [← hr2] at R6 hr2l ⊢
      have HR := Lib.hid hr2
      clear hr2 hb6 R5
      go_wp2_with fail
      have R'2 := (h'.below HD6.out.bel).more HD6.out.bel.size
      refine (rcmp_any W2 _ A6 A' c6 c' r2 n R6 R'2 (by omega) (by omega)).mono ?_
      rintro _ _ ⟨rfl, kd, rfl⟩
      by_cases hlt : r2 < n
      · have hc : ¬ (0 : Int) ≤ fb.cmp r2 n := by unfold fb.cmp; rw [if_pos hlt]; decide
        have HL := Lib.hid hlt
        clear hlt
        generalize fb.cmp r2 n = cv at *
        obtain ⟨Q, hQ1, hQ2, _⟩ : ∃ Q, val S = 2 ^ (j + 1) * Q ∧ m / 2 ^ j = 2 * Q * n + (2 * r + b) ∧ True := ⟨Q, HQ.out.1, HQ.out.2.1, trivial⟩
        have hD : DState w (W2.drewN kd) a m n j r2 S :=
          ⟨HD6.out.row, HD6.out.lt, below_drewN HD6.out.bel kd, HD6.out.okS, ⟨2 * Q, by rw [hQ1, Nat.pow_succ, Nat.mul_assoc], by rw [HR.out]; exact hQ2⟩, HL.out⟩
        have HDD := Lib.hid hD
        clear hD hQ1 hQ2
        go_wp2_with fail
        exact ⟨⟨j, r2, (j : Int) - 1, S, A6, c6, by omega, rfl, rfl, rfl, R6.drewN kd, HDD, fun b off e => by have := hf6 b off e; have := HD.out.lt; omega⟩, by simp [intOf]⟩
      · have hc : (0 : Int) ≤ fb.cmp r2 n := by unfold fb.cmp; rw [if_neg hlt]; split <;> decide
        have HL := Lib.hid hlt
        clear hlt
        generalize fb.cmp r2 n = cv at *
        go_wp2_with fail
        refine (rsub_any (W2.drewN kd) A6 A' c6 c' r2 n (R6.drewN kd) (R'2.drewN kd) (Nat.le_of_not_lt HL.out) (by omega)).mono ?_
        rintro _ W3 ⟨A7, c7, rfl, R7, hb7, hf7⟩
        have HD7 := Lib.hid (HD6.out.after ((show Below W2.heap.size W2 (W2.drewN kd) from below_drewN (Below.refl _ _) kd).trans hb7))
        obtain ⟨q, hq⟩ : ∃ q, q = j / 32 := ⟨_, rfl⟩
        obtain ⟨t, ht⟩ : ∃ t, t = j % 32 := ⟨_, rfl⟩
        have e3 : (j : Int).tdiv 32 = (q : Int) := by rw [Int.tdiv_eq_ediv_of_nonneg (by omega)]; omega
        have e5 : (j : Int).tmod 32 = (t : Int) := by rw [Int.tmod_eq_emod_of_nonneg (by omega)]; omega
        have hql : (q : Int) < (a.length : Int) := by omega
        have hqn : q < a.length := by omega
        have hq0 : (0 : Int) ≤ (q : Int) := by omega
        have ht32 : t < 32 := by omega
        have c2 := own_cell HD7.out.row q hqn
        have f2 := HD7.out.row.frozenAt q
        obtain ⟨x, hx⟩ : ∃ x, x = S.getD q 0 := ⟨_, rfl⟩
        rw [← hx] at c2
        have hlow : x % 2 ^ (t + 1) = 0 := by rw [hx, hq, ht]; exact low_bits HD.out.okS j Q HQ.out.1
        have hle := HL.out
        obtain ⟨y, hy⟩ : ∃ y, y = x + 2 ^ t := ⟨_, rfl⟩
        have e6 : bits .or .u32 (x : Int) (2 ^ t % 4294967296) = (y : Int) := by rw [hy]; exact or_low x t ht32 (by rw [hx]; exact ok_getD HD7.out.okS _) hlow
        have hyl : y < 4294967296 := by rw [hy]; exact low_room x t ht32 (by rw [hx]; exact ok_getD HD7.out.okS _) hlow
        have hD : DState w (W3.setCell ⟨w.heap.size, q, none⟩ (.int .u32 (y : Int))) a m n j (r2 - n) (S.set q y) := by
          have hSl := own_len HD7.out.row
          have hset := val_set S q y (by rw [hSl]; exact hqn)
          rw [← hx, hy, Nat.mul_add] at hset
          have hp2 : 4294967296 ^ q * 2 ^ t = 2 ^ j := by rw [hq, ht]; exact (pow_split j).symm
          rw [hp2] at hset
          refine ⟨own_set HD7.out.row q y (y : Int) rfl, by simpa using HD7.out.lt, HD7.out.bel.setCell (p := ⟨w.heap.size, q, none⟩) (Nat.le_refl _) _, ok_set HD7.out.okS q hyl, ⟨2 * Q + 1, ?_, ?_⟩, ?_⟩
          · have h1 := HQ.out.1
            rw [Nat.pow_succ, Nat.mul_assoc] at h1
            rw [Nat.mul_add, Nat.mul_one, ← h1, hy]
            omega
          · rcases HQ.out.2.2 with h2 | ⟨_, _, h2⟩
            · have := HR.out; omega
            · rw [HR.out]; exact h2
          · rcases HQ.out.2.2 with h2 | ⟨_, h2, _⟩
            · have := HR.out; omega
            · rw [HR.out]; exact h2
        have hR : Rd (W3.setCell ⟨w.heap.size, q, none⟩ (.int .u32 (y : Int))) (W3.setCell ⟨w.heap.size, q, none⟩ (.int .u32 (y : Int))).heap.size A7 c7 (digs (r2 - n)) := by
          have hl7 := HD6.out.lt
          refine ⟨R7.ok, R7.fit, fun hn => ?_⟩
          obtain ⟨b7, off7, e7, hb, hc7⟩ := R7.cells hn
          have h7 : w.heap.size + 1 ≤ b7 := by have := hf7 b7 off7 e7; have h8 : (W2.drewN kd).heap.size = W2.heap.size := rfl; omega
          exact ⟨b7, off7, e7, by simpa using hb, fun i hi => (World.cell?_setCell_other _ _ _ _ (by intro h; injection h with h; omega)).trans (hc7 i hi)⟩
        have HXX := Lib.hid (And.intro hD hR)
        have hf8 : Fresh (w.heap.size + 1) A7 := fun b off e => by have := hf7 b off e; have h8 : (W2.drewN kd).heap.size = W2.heap.size := rfl; have := HD6.out.lt; omega
        clear hb7 R6 R'2 hq ht hx hlow hD hR hy hyl R7
        go_wp2_with fail
        exact ⟨⟨j, r2 - n, (j : Int) - 1, S.set q y, A7, c7, by omega, rfl, rfl, rfl, HXX.out.2, Lib.hid HXX.out.1, hf8⟩, by simp [intOf]⟩

end Go.Proofs.YtbeidpeoichakaaGreatDoor.jf

/- The reference: gcd. -/
set_option linter.unusedSimpArgs false
namespace Go.Proofs.YtbeidpeoichakaaGreatDoor.jg
open Go.RowKit Go.Proofs.YtbeidpeoichakaaGreatDoor.fm Go.Proofs.YtbeidpeoichakaaGreatDoor.mem Go.Proofs.YtbeidpeoichakaaGreatDoor.fa Go.Proofs.YtbeidpeoichakaaGreatDoor.fb Go.Proofs.YtbeidpeoichakaaGreatDoor.fr Go.Proofs.YtbeidpeoichakaaGreatDoor.fu Go.Proofs.YtbeidpeoichakaaGreatDoor.fv Go.Proofs.YtbeidpeoichakaaGreatDoor.fy Go.Proofs.YtbeidpeoichakaaGreatDoor.fz Go.Proofs.YtbeidpeoichakaaGreatDoor.hh Go.Proofs.YtbeidpeoichakaaGreatDoor.ja Go.Proofs.YtbeidpeoichakaaGreatDoor.jb Go.Proofs.YtbeidpeoichakaaGreatDoor.jc Go.Proofs.YtbeidpeoichakaaGreatDoor.jd Go.Proofs.YtbeidpeoichakaaGreatDoor.je Go.Proofs.YtbeidpeoichakaaGreatDoor.jf

theorem and1 (x : Nat) (hx : x < 4294967296) : bits .and .u32 (x : Int) 1 = ((x % 2 : Nat) : Int) := by
  have h := u32_and_nat x 1 hx (by decide)
  rw [Nat.and_one_is_mod] at h
  exact h

/-- the lowest word -/
theorem rd_low {w : World} {B : Nat} {A : Option Addr} {c m : Nat} (R : Rd w B A c (digs m)) (hm : m ≠ 0) : ∃ b off x, A = some ⟨b, off, none⟩ ∧ w.cell? ⟨b, off, none⟩ = some (.int .u32 ((x : Nat) : Int)) ∧ x < 4294967296 ∧ x % 2 = m % 2 ∧ 0 < (digs m).length := by
  have hl : 0 < (digs m).length := by have : (digs m).length ≠ 0 := fun e => hm (digs_len_zero.1 e); omega
  obtain ⟨b, off, e, _, hc⟩ := R.cells hl
  refine ⟨b, off, (digs m).getD 0 0, e, hc 0 hl, ok_getD R.ok 0, ?_, hl⟩
  rw [getD_val 0 R.ok, val_digs, Nat.pow_zero, Nat.div_one]
  omega

/-- Two numbers, read. -/
structure Two2 (w W : World) (A : Option Addr) (c : Nat) (A' : Option Addr) (c' X Y L : Nat) : Prop where
  R : Rd W W.heap.size A c (digs X)
  R' : Rd W W.heap.size A' c' (digs Y)
  bel : Below w.heap.size w W
  x : X ≤ L
  y : Y ≤ L

theorem Two2.lx {w W : World} {A A' : Option Addr} {c c' X Y L : Nat} (T : Two2 w W A c A' c' X Y L) (h : (digs L).length ≤ 100000) : (digs X).length ≤ 100000 := Nat.le_trans (len_mono T.x) h
theorem Two2.ly {w W : World} {A A' : Option Addr} {c c' X Y L : Nat} (T : Two2 w W A c A' c' X Y L) (h : (digs L).length ≤ 100000) : (digs Y).length ≤ 100000 := Nat.le_trans (len_mono T.y) h

theorem k_small {k g L j : Nat} (h : 2 ^ k * g ≤ L) (hg : 2 ^ k * g ≠ 0) (hl : (digs L).length ≤ j) : k < 32 * j := by
  have h1 := (lt_len_iff _ j).1 hl
  have h2 : 2 ^ k ≤ 2 ^ k * g := Nat.le_mul_of_pos_right _ (Nat.pos_of_ne_zero fun e => hg (by rw [e, Nat.mul_zero]))
  have h3 : (4294967296 : Nat) ^ j = 2 ^ (32 * j) := by rw [Nat.pow_mul]
  rw [h3] at h1
  exact (Nat.pow_lt_pow_iff_right (by decide)).1 (Nat.lt_of_le_of_lt (Nat.le_trans h2 h) h1)

theorem Two2.left {w W W' : World} {A A' A2 : Option Addr} {c c' c2 X Y X2 L : Nat} (T : Two2 w W A c A' c' X Y L) (h : Below W.heap.size W W') (R : Rd W' W'.heap.size A2 c2 (digs X2)) (hx : X2 ≤ L) : Two2 w W' A2 c2 A' c' X2 Y L :=
  ⟨R, (T.R'.below h).more h.size, T.bel.trans (h.mono T.bel.size), hx, T.y⟩
theorem Two2.right {w W W' : World} {A A' A2 : Option Addr} {c c' c2 X Y Y2 L : Nat} (T : Two2 w W A c A' c' X Y L) (h : Below W.heap.size W W') (R : Rd W' W'.heap.size A2 c2 (digs Y2)) (hy : Y2 ≤ L) : Two2 w W' A c A2 c2 X Y2 L :=
  ⟨(T.R.below h).more h.size, R, T.bel.trans (h.mono T.bel.size), T.x, hy⟩
theorem Two2.drawn {w W : World} {A A' : Option Addr} {c c' X Y L : Nat} (T : Two2 w W A c A' c' X Y L) (k : Nat) : Two2 w (W.drewN k) A c A' c' X Y L :=
  ⟨T.R.drewN k, T.R'.drewN k, below_drewN T.bel k, T.x, T.y⟩
theorem Two2.swap {w W : World} {A A' : Option Addr} {c c' X Y L : Nat} (T : Two2 w W A c A' c' X Y L) : Two2 w W A' c' A c Y X L := ⟨T.R', T.R, T.bel, T.y, T.x⟩

theorem gcd_both {X Y : Nat} (hX : X % 2 = 0) (hY : Y % 2 = 0) : Nat.gcd X Y = 2 * Nat.gcd (X / 2) (Y / 2) := by
  conv => lhs; rw [show X = 2 * (X / 2) by omega, show Y = 2 * (Y / 2) by omega]
  exact Nat.gcd_mul_left 2 (X / 2) (Y / 2)

set_option maxRecDepth 100000 in
set_option maxHeartbeats 4000000 in
theorem rgcd_any (w : World) (A A' : Option Addr) (c c' x y : Nat) (h : Rd w w.heap.size A c (digs x)) (h' : Rd w w.heap.size A' c' (digs y)) (hx : x ≠ 0) (hy : y ≠ 0) (hs : (digs x).length ≤ 100000) (hs' : (digs y).length ≤ 100000) :
    Calls Tryz.prog 54 #[.slice A (digs x).length c, .slice A' (digs y).length c'] w fun e w' => ∃ A1 c1, e = .returned (.slice A1 (digs (Nat.gcd x y)).length c1) ∧ Rd w' w'.heap.size A1 c1 (digs (Nat.gcd x y)) ∧ Below w.heap.size w w' := by
  obtain ⟨L, hL⟩ : ∃ L, L = max x y := ⟨_, rfl⟩
  have hLl : (digs L).length ≤ 100000 := by rw [hL]; rcases Nat.le_total x y with e | e <;> simp [Nat.max_eq_left, Nat.max_eq_right, e, hs, hs']
  have T0 : Two2 w w A c A' c' x y L := ⟨h, h', Below.refl _ _, by omega, by omega⟩
  have HGL := Lib.hid (show Nat.gcd x y ≤ L ∧ Nat.gcd x y ≠ 0 from ⟨Nat.le_trans (Nat.gcd_le_left y (by omega)) T0.x, fun e => hx (Nat.gcd_eq_zero_iff.1 e).1⟩)
  have HT0 := Lib.hid (And.intro T0 (And.intro hx hy))
  clear hL h h' hs hs' T0 hx hy
  go_enter Tryz.func54, Tryz.ntmps54
  go_wp2_with fail
  go_loopg [0, 1, 5] (x + y) (fun g s0 s1 s5 wr => ∃ X Y k A c A' c', X + Y = g ∧ s0 = .slice A (digs X).length c ∧ s1 = .slice A' (digs Y).length c' ∧ s5 = .int .i64 ((k : Nat) : Int) ∧ Hid (X ≠ 0 ∧ Y ≠ 0 ∧ Nat.gcd x y = 2 ^ k * Nat.gcd X Y) ∧ Hid (Two2 w wr A c A' c' X Y L))
  case atStart => exact ⟨x, y, 0, A, c, A', c', rfl, rfl, rfl, rfl, Lib.hid ⟨HT0.out.2.1, HT0.out.2.2, by simp⟩, Lib.hid HT0.out.1⟩
  case round =>
    clear HT0
    obtain ⟨X, Y, k, A, c, A', c', rfl, rfl, rfl, rfl, HG, HT⟩ := hrel
    obtain ⟨b, off, x0, rfl, c1, hx0, hx0m, hXl⟩ := rd_low HT.out.R HG.out.1
    obtain ⟨b', off', y0, rfl, c2, hy0, hy0m, hYl⟩ := rd_low HT.out.R' HG.out.2.1
    have e1 := and1 x0 hx0
    have e2 := and1 y0 hy0
    rw [hx0m] at e1
    rw [hy0m] at e2
    have hXz : (0 : Int) < ((digs X).length : Int) := by omega
    have hYz : (0 : Int) < ((digs Y).length : Int) := by omega
    obtain ⟨B, hB⟩ : ∃ B : Bool, B = (decide (X % 2 = 0) && decide (Y % 2 = 0)) := ⟨_, rfl⟩
    have HB := Lib.hid hB
    clear hB hx0m hy0m hx0 hy0
    go_upto_region 2 with fail
    go_cut [17] (fun s17 wx => s17 = .bool B ∧ wr = wx)
    case first =>
      rcases Nat.mod_two_eq_zero_or_one X with hX | hX
      · rw [hX] at e1
        rcases Nat.mod_two_eq_zero_or_one Y with hY | hY
        · rw [hY] at e2
          have HBB := Lib.hid (show B = true by rw [HB.out, hX, hY]; rfl)
          clear hX hY
          go_wp2_with fail
          go_meet
          exact ⟨by rw [HBB.out], rfl⟩
        · rw [hY] at e2
          have HBB := Lib.hid (show B = false by rw [HB.out, hX, hY]; rfl)
          clear hX hY
          go_wp2_with fail
          go_meet
          exact ⟨by rw [HBB.out], rfl⟩
      · rw [hX] at e1
        have HBB := Lib.hid (show B = false by rw [HB.out, hX]; rfl)
        clear hX
        go_wp2_with fail
        go_meet
        exact ⟨by rw [HBB.out], rfl⟩
    case rest =>
    obtain ⟨rfl, rfl⟩ := hcut
    clear e1 e2 c1 c2
    cases B with
    | true =>
      have hXY : X % 2 = 0 ∧ Y % 2 = 0 := by have := HB.out; simpa using this
      have hk := k_small (by rw [← HG.out.2.2]; exact HGL.out.1) (by rw [← HG.out.2.2]; exact HGL.out.2) hLl
      have HXY := Lib.hid hXY
      clear hXY hXl hYl hXz hYz
      go_wp2_with fail
      refine (rhalf_any wr (some ⟨b, off, none⟩) c X HT.out.R HG.out.1 (by have := HT.out.lx hLl; omega)).mono ?_
      rintro _ W2 ⟨A2, c2, rfl, R2, hb2, _⟩
      have HT2 := Lib.hid (HT.out.left hb2 R2 (Nat.le_trans (Nat.div_le_self _ _) HT.out.x))
      clear R2 hb2
      go_wp2_with fail
      refine (rhalf_any W2 (some ⟨b', off', none⟩) c' Y HT2.out.R' HG.out.2.1 (by have := HT2.out.ly hLl; omega)).mono ?_
      rintro _ W3 ⟨A3, c3, rfl, R3, hb3, _⟩
      have HT3 := Lib.hid (HT2.out.right hb3 R3 (Nat.le_trans (Nat.div_le_self _ _) HT2.out.y))
      have HG3 := Lib.hid (show X / 2 ≠ 0 ∧ Y / 2 ≠ 0 ∧ Nat.gcd x y = 2 ^ (k + 1) * Nat.gcd (X / 2) (Y / 2) from ⟨by have := HG.out.1; have := HXY.out.1; omega, by have := HG.out.2.1; have := HXY.out.2; omega, by rw [HG.out.2.2, gcd_both HXY.out.1 HXY.out.2, Nat.pow_succ, Nat.mul_assoc]⟩)
      clear R3 hb3 HT2
      go_wp2_with fail
      go_roundg (X / 2 + Y / 2)
      case measure => have := HG.out.1; omega
      case rel => exact ⟨X / 2, Y / 2, k + 1, A2, c2, A3, c3, rfl, rfl, rfl, by go_num, HG3, HT3⟩
    | false =>
      have hXY : ¬ (X % 2 = 0 ∧ Y % 2 = 0) := by have := HB.out; simpa using this
      have hk := k_small (by rw [← HG.out.2.2]; exact HGL.out.1) (by rw [← HG.out.2.2]; exact HGL.out.2) hLl
      have HXY := Lib.hid (And.intro hXY HG.out)
      clear hXY hXl hYl hXz hYz HB HG
      go_wp2_with fail
      go_loopg [0, 1] (X + Y) (fun g s0 s1 wr => ∃ X2 Y2 A c A' c', X2 + Y2 = g ∧ s0 = .slice A (digs X2).length c ∧ s1 = .slice A' (digs Y2).length c' ∧ Hid (X2 ≠ 0 ∧ ¬ (X2 % 2 = 0 ∧ Y2 % 2 = 0) ∧ Nat.gcd X2 Y2 = Nat.gcd X Y) ∧ Hid (Two2 w wr A c A' c' X2 Y2 L))
      case atStart => exact ⟨X, Y, _, c, _, c', rfl, rfl, rfl, Lib.hid ⟨HXY.out.2.1, HXY.out.1, rfl⟩, HT⟩
      case round =>
        clear HT
        obtain ⟨X2, Y2, A2, c2, A3, c3, rfl, rfl, rfl, HG2, HT2⟩ := hrel
        by_cases hY0 : Y2 = 0
        · subst hY0
          have hres : Nat.gcd x y = 2 ^ k * X2 := by rw [HXY.out.2.2.2, ← HG2.out.2.2, Nat.gcd_zero_right]
          have HR := Lib.hid (show Nat.gcd x y = 2 ^ k * X2 ∧ Two2 w wr A2 c2 A3 c3 X2 0 L from ⟨hres, HT2.out⟩)
          clear hres HG2 HT2
          go_wp2_with fail
          go_loopg [0, 5] k (fun g s0 s5 wr => ∃ (j Z : Nat) (A : Option Addr) (c : Nat), j = g ∧ s5 = .int .i64 (j : Int) ∧ s0 = .slice A (digs Z).length c ∧ j ≤ k ∧ Hid (Nat.gcd x y = 2 ^ j * Z) ∧ Hid (Rd wr wr.heap.size A c (digs Z) ∧ Below w.heap.size w wr))
          case atStart => exact ⟨k, X2, A2, c2, rfl, rfl, rfl, Nat.le_refl _, Lib.hid HR.out.1, Lib.hid ⟨HR.out.2.R, HR.out.2.bel⟩⟩
          case round =>
            clear HR
            obtain ⟨j, Z, A4, c4, rfl, rfl, rfl, hjk, HZ, HRd⟩ := hrel
            rcases Nat.eq_zero_or_pos j with hj0 | hj0
            · subst hj0
              go_wp2_with fail
              go_ret
              have hz : Nat.gcd x y = Z := by rw [HZ.out, Nat.pow_zero, Nat.one_mul]
              rw [hz]
              exact ⟨A4, c4, rfl, HRd.out.1, HRd.out.2⟩
            · obtain ⟨i, rfl⟩ : ∃ i, j = i + 1 := ⟨j - 1, by omega⟩
              have hZl : (digs Z).length ≤ 100000 := by
                refine Nat.le_trans (len_mono (Nat.le_trans ?_ HGL.out.1)) hLl
                rw [HZ.out]
                exact Nat.le_mul_of_pos_left _ (Nat.pow_pos (by decide))
              have hi0 : (0 : Int) < ((i + 1 : Nat) : Int) := by omega
              have hi1 : ((i + 1 : Nat) : Int) - 1 = (i : Int) := by omega
              clear hj0
              go_wp2_with fail
              refine (rtwice_any wr A4 c4 Z 0 HRd.out.1 (by decide) (by omega)).mono ?_
              rintro _ W5 ⟨A5, c5, rfl, R5, hb5, _⟩
              have HR5 := Lib.hid (show Rd W5 W5.heap.size A5 c5 (digs (2 * Z + 0)) ∧ Below w.heap.size w W5 from ⟨R5, HRd.out.2.trans (hb5.mono HRd.out.2.size)⟩)
              have HZ5 := Lib.hid (show Nat.gcd x y = 2 ^ i * (2 * Z + 0) by rw [HZ.out, Nat.pow_succ, Nat.mul_assoc, Nat.add_zero])
              clear R5 hb5
              go_wp2_with fail
              go_roundg i
              case measure => omega
              case rel => exact ⟨i, 2 * Z + 0, A5, c5, rfl, rfl, rfl, by omega, HZ5, HR5⟩
        · have hYl : 0 < (digs Y2).length := by have : (digs Y2).length ≠ 0 := fun e => hY0 (digs_len_zero.1 e); omega
          have hYz : (0 : Int) < ((digs Y2).length : Int) := by omega
          have HY0 := Lib.hid (And.intro hY0 HG2.out)
          clear hY0 HG2
          go_wp2_with fail
          clear hYl hYz
          go_loopg [0] X2 (fun g s0 wr => ∃ X3 A c, X3 = g ∧ s0 = .slice A (digs X3).length c ∧ Hid (X3 ≠ 0 ∧ X3 ≤ X2 ∧ ¬ (X3 % 2 = 0 ∧ Y2 % 2 = 0) ∧ Nat.gcd X3 Y2 = Nat.gcd X2 Y2) ∧ Hid (Two2 w wr A c A3 c3 X3 Y2 L))
          case atStart => exact ⟨X2, A2, c2, rfl, rfl, Lib.hid ⟨HY0.out.2.1, Nat.le_refl _, HY0.out.2.2.1, rfl⟩, HT2⟩
          case round =>
            clear HT2
            obtain ⟨X3, A4, c4, rfl, rfl, HG3, HT3⟩ := hrel
            obtain ⟨b4, off4, x0, rfl, c1, hx0, hx0m, hXl⟩ := rd_low HT3.out.R HG3.out.1
            have e1 := and1 x0 hx0
            rw [hx0m] at e1
            have hXz : (0 : Int) < ((digs X3).length : Int) := by omega
            clear hx0m hx0
            rcases Nat.mod_two_eq_zero_or_one X3 with hX | hX
            · rw [hX] at e1
              have HX := Lib.hid hX
              clear hX hXl
              go_wp2_with fail
              refine (rhalf_any wr (some ⟨b4, off4, none⟩) c4 X3 HT3.out.R HG3.out.1 (by have := HT3.out.lx hLl; omega)).mono ?_
              rintro _ W5 ⟨A5, c5, rfl, R5, hb5, _⟩
              have HT5 := Lib.hid (HT3.out.left hb5 R5 (Nat.le_trans (Nat.div_le_self _ _) HT3.out.x))
              have HG5 := Lib.hid (show X3 / 2 ≠ 0 ∧ X3 / 2 ≤ X2 ∧ ¬ (X3 / 2 % 2 = 0 ∧ Y2 % 2 = 0) ∧ Nat.gcd (X3 / 2) Y2 = Nat.gcd X2 Y2 from
                ⟨by have := HG3.out.1; have := HX.out; omega, Nat.le_trans (Nat.div_le_self _ _) HG3.out.2.1, fun hh => HG3.out.2.2.1 ⟨HX.out, hh.2⟩, by rw [gcd_half_left HX.out HG3.out.2.2.1]; exact HG3.out.2.2.2⟩)
              clear R5 hb5 e1 c1
              go_wp2_with fail
              go_roundg (X3 / 2)
              case measure => have := HG3.out.1; omega
              case rel => exact ⟨X3 / 2, A5, c5, rfl, rfl, HG5, HT5⟩
            · rw [hX] at e1
              have HX := Lib.hid (And.intro hX HG3.out)
              clear hX HG3
              go_wp2_with fail
              clear e1 c1 hXl hXz
              go_loopg [1] Y2 (fun g s1 wr => ∃ Y3 A c, Y3 = g ∧ s1 = .slice A (digs Y3).length c ∧ Hid (Y3 ≠ 0 ∧ Y3 ≤ Y2 ∧ Nat.gcd X3 Y3 = Nat.gcd X2 Y2) ∧ Hid (Two2 w wr (some ⟨b4, off4, none⟩) c4 A c X3 Y3 L))
              case atStart => exact ⟨Y2, A3, c3, rfl, rfl, Lib.hid ⟨HY0.out.1, Nat.le_refl _, HX.out.2.2.2.2⟩, HT3⟩
              case round =>
                clear HT3
                obtain ⟨Y3, A6, c6, rfl, rfl, HG6, HT6⟩ := hrel
                obtain ⟨b6, off6, y0, rfl, c2, hy0, hy0m, hYl⟩ := rd_low HT6.out.R' HG6.out.1
                have e2 := and1 y0 hy0
                rw [hy0m] at e2
                have hYz : (0 : Int) < ((digs Y3).length : Int) := by omega
                clear hy0m hy0
                rcases Nat.mod_two_eq_zero_or_one Y3 with hY | hY
                · rw [hY] at e2
                  have HY := Lib.hid hY
                  clear hY hYl
                  go_wp2_with fail
                  refine (rhalf_any wr (some ⟨b6, off6, none⟩) c6 Y3 HT6.out.R' HG6.out.1 (by have := HT6.out.ly hLl; omega)).mono ?_
                  rintro _ W7 ⟨A7, c7, rfl, R7, hb7, _⟩
                  have HT7 := Lib.hid (HT6.out.right hb7 R7 (Nat.le_trans (Nat.div_le_self _ _) HT6.out.y))
                  have HG7 := Lib.hid (show Y3 / 2 ≠ 0 ∧ Y3 / 2 ≤ Y2 ∧ Nat.gcd X3 (Y3 / 2) = Nat.gcd X2 Y2 from
                    ⟨by have := HG6.out.1; have := HY.out; omega, Nat.le_trans (Nat.div_le_self _ _) HG6.out.2.1, by rw [Nat.gcd_comm, gcd_half_left HY.out (by have := HX.out.1; omega), Nat.gcd_comm]; exact HG6.out.2.2⟩)
                  clear R7 hb7 e2 c2
                  go_wp2_with fail
                  go_roundg (Y3 / 2)
                  case measure => have := HG6.out.1; omega
                  case rel => exact ⟨Y3 / 2, A7, c7, rfl, rfl, HG7, HT7⟩
                · rw [hY] at e2
                  have HY := Lib.hid hY
                  clear hY
                  go_wp2_with fail
                  clear e2 c2 hYl hYz
                  refine (rcmp_any wr _ (some ⟨b4, off4, none⟩) (some ⟨b6, off6, none⟩) c4 c6 X3 Y3 HT6.out.R HT6.out.R' (by have := HT6.out.lx hLl; omega) (by have := HT6.out.ly hLl; omega)).mono ?_
                  rintro _ _ ⟨rfl, kd, rfl⟩
                  have HT8 := Lib.hid (HT6.out.drawn kd)
                  by_cases hgt : Y3 < X3
                  · have hc : (0 : Int) < fb.cmp X3 Y3 := by unfold fb.cmp; rw [if_neg (by omega), if_pos hgt]; decide
                    have HL := Lib.hid hgt
                    clear hgt HT6
                    generalize fb.cmp X3 Y3 = cv at *
                    go_wp2_with fail
                    refine (rsub_any (wr.drewN kd) (some ⟨b4, off4, none⟩) (some ⟨b6, off6, none⟩) c4 c6 X3 Y3 HT8.out.R HT8.out.R' (Nat.le_of_lt HL.out) (by have := HT8.out.lx hLl; omega)).mono ?_
                    rintro _ W9 ⟨A9, c9, rfl, R9, hb9, _⟩
                    have HT9 := Lib.hid (HT8.out.swap.right hb9 R9 (Nat.le_trans (Nat.sub_le _ _) HT8.out.x))
                    have HG9 := Lib.hid (show Y3 ≠ 0 ∧ ¬ (Y3 % 2 = 0 ∧ (X3 - Y3) % 2 = 0) ∧ Nat.gcd Y3 (X3 - Y3) = Nat.gcd X Y ∧ Y3 + (X3 - Y3) < X2 + Y2 from
                      ⟨HG6.out.1, by have := HY.out; omega, by rw [Nat.gcd_sub_self_right (Nat.le_of_lt HL.out), Nat.gcd_comm, HG6.out.2.2]; exact HY0.out.2.2.2, by have := HL.out; have := HX.out.2.2.1; have := HG6.out.1; have := HG6.out.2.1; omega⟩)
                    clear R9 hb9
                    go_wp2_with fail
                    go_roundg (Y3 + (X3 - Y3))
                    case measure => exact HG9.out.2.2.2
                    case rel => exact ⟨Y3, X3 - Y3, _, _, _, _, rfl, rfl, rfl, Lib.hid ⟨HG9.out.1, HG9.out.2.1, HG9.out.2.2.1⟩, HT9⟩
                  · have hc : ¬ (0 : Int) < fb.cmp X3 Y3 := by unfold fb.cmp; split <;> (try split) <;> omega
                    have HL := Lib.hid hgt
                    clear hgt HT6
                    generalize fb.cmp X3 Y3 = cv at *
                    go_wp2_with fail
                    refine (rsub_any (wr.drewN kd) (some ⟨b6, off6, none⟩) (some ⟨b4, off4, none⟩) c6 c4 Y3 X3 HT8.out.R' HT8.out.R (Nat.le_of_not_lt HL.out) (by have := HT8.out.ly hLl; omega)).mono ?_
                    rintro _ W9 ⟨A9, c9, rfl, R9, hb9, _⟩
                    have HT9 := Lib.hid (HT8.out.right hb9 R9 (Nat.le_trans (Nat.sub_le _ _) HT8.out.y))
                    have HG9 := Lib.hid (show X3 ≠ 0 ∧ ¬ (X3 % 2 = 0 ∧ (Y3 - X3) % 2 = 0) ∧ Nat.gcd X3 (Y3 - X3) = Nat.gcd X Y ∧ X3 + (Y3 - X3) < X2 + Y2 from
                      ⟨HX.out.2.1, by have := HX.out.1; omega, by rw [Nat.gcd_sub_self_right (Nat.le_of_not_lt HL.out), HG6.out.2.2]; exact HY0.out.2.2.2, by have := HL.out; have := HX.out.2.1; have := HX.out.2.2.1; have := HG6.out.2.1; have := HY0.out.2.1; omega⟩)
                    clear R9 hb9
                    go_wp2_with fail
                    go_roundg (X3 + (Y3 - X3))
                    case measure => exact HG9.out.2.2.2
                    case rel => exact ⟨X3, Y3 - X3, _, _, _, _, rfl, rfl, rfl, Lib.hid ⟨HG9.out.1, HG9.out.2.1, HG9.out.2.2.1⟩, HT9⟩

end Go.Proofs.YtbeidpeoichakaaGreatDoor.jg
