/- fraction: the arithmetic of fractions in lowest terms, as rational numbers; Valid. -/
import Derived.Test.YtbeidpeoichakaaDoorNa
import Derived.Test.YtbeidpeoichakaaDoorKa
set_option linter.unusedSimpArgs false
namespace Go.Proofs.YtbeidpeoichakaaDoor.nb
open Go.RowKit Go.Proofs.YtbeidpeoichakaaDoor.fm Go.Proofs.YtbeidpeoichakaaDoor.mem Go.Proofs.YtbeidpeoichakaaDoor.fj Go.Proofs.YtbeidpeoichakaaDoor.fu Go.Proofs.YtbeidpeoichakaaDoor.fv Go.Proofs.YtbeidpeoichakaaDoor.fw Go.Proofs.YtbeidpeoichakaaDoor.fx Go.Proofs.YtbeidpeoichakaaDoor.fy Go.Proofs.YtbeidpeoichakaaDoor.fz Go.Proofs.YtbeidpeoichakaaDoor.gb Go.Proofs.YtbeidpeoichakaaDoor.gc Go.Proofs.YtbeidpeoichakaaDoor.gd Go.Proofs.YtbeidpeoichakaaDoor.gg Go.Proofs.YtbeidpeoichakaaDoor.hb Go.Proofs.YtbeidpeoichakaaDoor.hd Go.Proofs.YtbeidpeoichakaaDoor.hf Go.Proofs.YtbeidpeoichakaaDoor.hg Go.Proofs.YtbeidpeoichakaaDoor.hh Go.Proofs.YtbeidpeoichakaaDoor.ji Go.Proofs.YtbeidpeoichakaaDoor.jj Go.Proofs.YtbeidpeoichakaaDoor.jk Go.Proofs.YtbeidpeoichakaaDoor.ka Go.Proofs.YtbeidpeoichakaaDoor.na

/-- the rational number of a fraction -/
def q (z : Int) (d : Nat) : Rat := (z : Rat) / ((d : Nat) : Rat)

theorem cast_ne {d : Nat} (h : d ≠ 0) : ((d : Nat) : Rat) ≠ 0 := by
  intro e; exact h (by exact_mod_cast e)
theorem q_add (x y : Int) (d d' : Nat) (h : d ≠ 0) (h' : d' ≠ 0) : q (x * d' + y * d) (d * d') = q x d + q y d' := by
  unfold q
  have := cast_ne h; have := cast_ne h'
  push_cast
  grind
theorem q_sub (x y : Int) (d d' : Nat) (h : d ≠ 0) (h' : d' ≠ 0) : q (x * d' + (-y) * d) (d * d') = q x d - q y d' := by
  unfold q
  have := cast_ne h; have := cast_ne h'
  push_cast
  grind
theorem q_mul (x y : Int) (d d' : Nat) (h : d ≠ 0) (h' : d' ≠ 0) : q (x * y) (d * d') = q x d * q y d' := by
  unfold q
  have := cast_ne h; have := cast_ne h'
  push_cast
  grind
theorem q_div (x y : Int) (d d' : Nat) (h : d ≠ 0) (h' : d' ≠ 0) (hy : y ≠ 0) : q (x * d' * y.sign) (d * y.natAbs) = q x d / q y d' := by
  unfold q
  have h1 := cast_ne h; have h2 := cast_ne h'
  have h3 : ((y : Int) : Rat) ≠ 0 := by intro e; exact hy (by exact_mod_cast e)
  have hs : (y.sign : Rat) * (y : Rat) = ((y.natAbs : Nat) : Rat) := by
    have : y.sign * y = (y.natAbs : Int) := by rw [Int.mul_comm]; exact Int.mul_sign_self y
    exact_mod_cast this
  have hn : ((y.natAbs : Nat) : Rat) ≠ 0 := cast_ne (by omega)
  push_cast
  grind
theorem q_eq {z z' : Int} {d d' : Nat} (h : d ≠ 0) (h' : d' ≠ 0) (e : q z d = q z' d') : z * d' = z' * d := by
  unfold q at e
  have := cast_ne h; have := cast_ne h'
  have : (z : Rat) * d' = z' * d := by grind
  exact_mod_cast this
theorem q_ne {z : Int} {d : Nat} (h : d ≠ 0) (hz : z ≠ 0) : q z d ≠ 0 := by
  intro e
  have h1 : q z d = q 0 1 := by rw [e]; unfold q; grind
  have := q_eq h (by decide) h1
  simp at this
  exact hz this
theorem q_scale (z : Int) (d g : Nat) (hg : g ≠ 0) (hd : d ≠ 0) (h1 : (g : Int) ∣ z) (h2 : g ∣ d) : q (z.tdiv g) (d / g) = q z d := by
  obtain ⟨k, rfl⟩ := h1
  obtain ⟨m, rfl⟩ := h2
  rw [Int.mul_comm, Int.mul_tdiv_cancel _ (by omega), Nat.mul_div_cancel_left _ (by omega)]
  unfold q
  have := cast_ne hg
  have := cast_ne (show m ≠ 0 by rintro rfl; simp at hd)
  push_cast
  grind

/-- A fraction in lowest terms of at most n words. -/
structure Good (n : Nat) (z : Int) (d : Nat) : Prop where
  hz : (digs z.natAbs).length ≤ n
  hd : (digs d).length ≤ n
  d0 : d ≠ 0
  low : Nat.gcd z.natAbs d = 1

theorem Good.fine {n : Nat} {z : Int} {d : Nat} (G : Good n z d) (h : n ≤ 256) : Fine z d := ⟨Nat.le_trans G.hz h, Nat.le_trans G.hd h, G.d0, G.low⟩
theorem good_small {z : Int} {d : Nat} (S : Small z d) : Good 4 z d := ⟨S.hz, S.hd, S.d0, S.low⟩

/-- fractions in lowest terms are those of their numbers -/
theorem q_inj {m n : Nat} {z z' : Int} {d d' : Nat} (F : Good m z d) (F' : Good n z' d') (e : q z d = q z' d') : z = z' ∧ d = d' := by
  have h := q_eq F.d0 F'.d0 e
  have h1 : z.natAbs * d' = z'.natAbs * d := by
    have := congrArg Int.natAbs h
    rwa [Int.natAbs_mul, Int.natAbs_mul, Int.natAbs_natCast, Int.natAbs_natCast] at this
  have hd : d ∣ d' := by
    have : d ∣ z.natAbs * d' := ⟨z'.natAbs, by rw [h1, Nat.mul_comm]⟩
    exact (Nat.Coprime.symm F.low).dvd_of_dvd_mul_left this
  have hd' : d' ∣ d := by
    have : d' ∣ z'.natAbs * d := ⟨z.natAbs, by rw [← h1, Nat.mul_comm]⟩
    exact (Nat.Coprime.symm F'.low).dvd_of_dvd_mul_left this
  have e := Nat.dvd_antisymm hd hd'
  refine ⟨?_, e⟩
  rw [← e] at h
  exact Int.eq_of_mul_eq_mul_right (by have := F.d0; omega) h

theorem good_low {n : Nat} {z : Int} {d : Nat} (hz : (digs z.natAbs).length ≤ n) (hd : (digs d).length ≤ n) (d0 : d ≠ 0) : Good n (z.tdiv (Nat.gcd z.natAbs d : Nat)) (d / Nat.gcd z.natAbs d) := by
  have hg : 0 < Nat.gcd z.natAbs d := Nat.gcd_pos_of_pos_right _ (by omega)
  have hdiv := Nat.gcd_dvd_right z.natAbs d
  refine ⟨?_, Nat.le_trans (len_mono (Nat.div_le_self _ _)) hd, ?_, ?_⟩
  · rw [Int.natAbs_tdiv, Int.natAbs_natCast]; exact Nat.le_trans (len_mono (Nat.div_le_self _ _)) hz
  · have := Nat.div_pos (Nat.le_of_dvd (by omega) hdiv) hg; omega
  · rw [Int.natAbs_tdiv, Int.natAbs_natCast]
    exact (Nat.gcd_div (Nat.gcd_dvd_left _ _) hdiv).trans (Nat.div_self hg)

theorem q_low {z : Int} {d : Nat} (d0 : d ≠ 0) : q (z.tdiv (Nat.gcd z.natAbs d : Nat)) (d / Nat.gcd z.natAbs d) = q z d := by
  have hg : 0 < Nat.gcd z.natAbs d := Nat.gcd_pos_of_pos_right _ (by omega)
  exact q_scale z d _ (by omega) d0 (Int.ofNat_dvd_left.2 (Nat.gcd_dvd_left _ _)) (Nat.gcd_dvd_right _ _)

/-- A call gave the fraction of a number, and no error. -/
def Out (w : World) (n : Nat) (r : Rat) (e : Ending) (w' : World) : Prop :=
  ∃ (A : Option Addr) (c : Nat) (B : Option Addr) (k : Nat) (Z : Int) (D : Nat), e = .returned (.tuple #[.agg #[.bool (decide (Z < 0)), .slice A (digs Z.natAbs).length c, .bool false, .slice B (digs D).length k], .int .i64 0]) ∧
    Rd w' w'.heap.size A c (digs Z.natAbs) ∧ Rd w' w'.heap.size B k (digs D) ∧ Below w.heap.size w w' ∧ Hid (Good n Z D ∧ q Z D = r)

theorem out_low {w : World} {N : Int} {D n : Nat} {e : Ending} {w' : World} (h : Low w N D e w') (hN : (digs N.natAbs).length ≤ n) (hD : (digs D).length ≤ n) (h0 : D ≠ 0) (hn : n ≤ 256) : Out w n (q N D) e w' := by
  have G := good_low hN hD h0
  have hfit : fits (N.tdiv (Nat.gcd N.natAbs D : Nat)) (D / Nat.gcd N.natAbs D) = true := by
    unfold fits
    rw [decide_eq_true, decide_eq_true]
    · rfl
    · exact Nat.le_trans G.hd hn
    · exact Nat.le_trans G.hz hn
  obtain ⟨A4, c4, B4, e4, M, E, rfl, R4, S4, hb, HM⟩ := low_open h rfl rfl hfit
  refine ⟨A4, c4, B4, e4, M, E, rfl, R4, S4, hb, Lib.hid ⟨?_, ?_⟩⟩
  · rw [HM.out.1, HM.out.2]; exact G
  · rw [HM.out.1, HM.out.2]; exact q_low h0

theorem len_mulN (j k : Nat) {a b : Nat} (ha : (digs a).length ≤ j) (hb : (digs b).length ≤ k) : (digs (a * b)).length ≤ j + k := by
  have := len_mul j k (x := (a : Int)) (y := (b : Int)) (by simpa using ha) (by simpa using hb)
  rwa [← Int.natCast_mul, Int.natAbs_natCast] at this

theorem add_good (j k : Nat) (w : World) (a b : Value) {x y : Int} {d d' : Nat} (ha : IsFrac w a x d) (hb : IsFrac w b y d') (G : Good j x d) (G' : Good k y d') (h : j + k + 1 ≤ 256) (hT : Tabs w) :
    Calls Tryd.prog 64 #[a, b] w (Out w (j + k + 1) (q x d + q y d')) := by
  refine (addFrac_any w a b x y d d' ha hb (G.fine (by omega)) (G'.fine (by omega)) hT).mono fun e w' hL => ?_
  rw [← q_add x y d d' G.d0 G'.d0]
  refine out_low hL (len_add (j + k) (len_mul j k G.hz (by simpa using G'.hd)) ?_) (Nat.le_trans (len_mulN j k G.hd G'.hd) (by omega)) (Nat.mul_ne_zero G.d0 G'.d0) h
  rw [Int.mul_comm]
  exact len_mul j k (by simpa using G.hd) G'.hz

theorem sub_good (j k : Nat) (w : World) (a b : Value) {x y : Int} {d d' : Nat} (ha : IsFrac w a x d) (hb : IsFrac w b y d') (G : Good j x d) (G' : Good k y d') (h : j + k + 1 ≤ 256) (hT : Tabs w) :
    Calls Tryd.prog 76 #[a, b] w (Out w (j + k + 1) (q x d - q y d')) := by
  refine (subFrac_any w a b x y d d' ha hb (G.fine (by omega)) (G'.fine (by omega)) hT).mono fun e w' hL => ?_
  rw [← q_sub x y d d' G.d0 G'.d0]
  refine out_low hL (len_add (j + k) (len_mul j k G.hz (by simpa using G'.hd)) ?_) (Nat.le_trans (len_mulN j k G.hd G'.hd) (by omega)) (Nat.mul_ne_zero G.d0 G'.d0) h
  rw [Int.mul_comm]
  exact len_mul j k (by simpa using G.hd) (by rw [Int.natAbs_neg]; exact G'.hz)

theorem mul_good (j k : Nat) (w : World) (a b : Value) {x y : Int} {d d' : Nat} (ha : IsFrac w a x d) (hb : IsFrac w b y d') (G : Good j x d) (G' : Good k y d') (h : j + k ≤ 256) (hT : Tabs w) :
    Calls Tryd.prog 61 #[a, b] w (Out w (j + k) (q x d * q y d')) := by
  refine (mulFrac_any w a b x y d d' ha hb (G.fine (by omega)) (G'.fine (by omega)) hT).mono fun e w' hL => ?_
  rw [← q_mul x y d d' G.d0 G'.d0]
  exact out_low hL (len_mul j k G.hz G'.hz) (len_mulN j k G.hd G'.hd) (Nat.mul_ne_zero G.d0 G'.d0) h

theorem div_good (j k : Nat) (w : World) (a b : Value) {x y : Int} {d d' : Nat} (ha : IsFrac w a x d) (hb : IsFrac w b y d') (G : Good j x d) (G' : Good k y d') (h : j + k ≤ 256) (hy : y ≠ 0) (hT : Tabs w) :
    Calls Tryd.prog 60 #[a, b] w (Out w (j + k) (q x d / q y d')) := by
  refine (divFrac_any w a b x y d d' ha hb (G.fine (by omega)) (G'.fine (by omega)) hy hT).mono fun e w' hL => ?_
  rw [← q_div x y d d' G.d0 G'.d0 hy]
  refine out_low hL ?_ (len_mulN j k G.hd G'.hz) (Nat.mul_ne_zero G.d0 (by omega)) h
  have e1 : (x * d' * y.sign).natAbs = (x * d').natAbs := by
    rw [Int.natAbs_mul, Int.natAbs_sign_of_ne_zero hy, Nat.mul_one]
  rw [e1]
  exact len_mul j k G.hz (by simpa using G'.hd)

theorem text_zero (z : Int) (d n : Nat) (G : Good n z d) : (hc.ba (textOf z d)).toList = [48] ↔ z = 0 := by
  have e0 : hc.ba (textOf 0 1) = hc.ba [48] := by
    have : textOf 0 1 = [48] := by
      unfold textOf
      rw [if_pos rfl]
      unfold Lib.itoa
      rw [if_neg (by omega), Lib.decDigits]
      rfl
    rw [this]
  have e1 : (hc.ba [48]).toList = [48] := by
    have h := loop_data (hc.ba [48]) 1 0 [] rfl
    rw [ByteArray.toList, h]
    rfl
  constructor
  · intro h
    have h2 : (hc.ba (textOf z d)).toList = (hc.ba (textOf 0 1)).toList := by rw [h, e0, e1]
    exact (textOf_inj (ba_inj (toList_inj h2))).1
  · intro h
    subst h
    have hd : d = 1 := by
      have := G.low
      simpa using this
    rw [hd, e0, e1]

/-- Fractions in boxes of their own. -/
def All (W : World) : List (Nat × Int × Nat × Option Addr × Nat × Option Addr × Nat) → Prop
  | [] => True
  | (g, z, d, A, c, B, k) :: l => FAt W g z d A c B k ∧ All W l

theorem All.head {W : World} {g : Nat} {z : Int} {d : Nat} {A : Option Addr} {c : Nat} {B : Option Addr} {k : Nat} {l : List (Nat × Int × Nat × Option Addr × Nat × Option Addr × Nat)} (h : All W ((g, z, d, A, c, B, k) :: l)) : FAt W g z d A c B k := h.1
theorem All.tail {W : World} {t : Nat × Int × Nat × Option Addr × Nat × Option Addr × Nat} {l : List (Nat × Int × Nat × Option Addr × Nat × Option Addr × Nat)} (h : All W (t :: l)) : All W l := h.2
theorem All.after {W W' : World} : ∀ {l : List (Nat × Int × Nat × Option Addr × Nat × Option Addr × Nat)}, All W l → Below W.heap.size W W' → All W' l
  | [], _, _ => trivial
  | (_, _, _, _, _, _, _) :: _, h, hb => ⟨h.1.after hb, All.after h.2 hb⟩

/-- What lies in the boxes, and what was before is kept. -/
structure St (w W : World) (l : List (Nat × Int × Nat × Option Addr × Nat × Option Addr × Nat)) : Prop where
  bel : Below w.heap.size w W
  all : All W l

theorem St.after {w W W' : World} {l : List (Nat × Int × Nat × Option Addr × Nat × Option Addr × Nat)} (S : St w W l) (h : Below W.heap.size W W') : St w W' l :=
  ⟨S.bel.trans (h.mono S.bel.size), S.all.after h⟩
theorem St.draw {w W : World} {l : List (Nat × Int × Nat × Option Addr × Nat × Option Addr × Nat)} (S : St w W l) : St w W.drew l := S.after (Below.refl _ _).drew
/-- one more -/
theorem St.more {w W : World} {l : List (Nat × Int × Nat × Option Addr × Nat × Option Addr × Nat)} (S : St w W l) {z : Int} {d : Nat} {A B : Option Addr} {c k : Nat} (R : Rd W W.heap.size A c (digs z.natAbs)) (R' : Rd W W.heap.size B k (digs d)) :
    St w (W.alloc (.cells #[.bool (decide (z < 0)), .slice A (digs z.natAbs).length c, .bool false, .slice B (digs d).length k] 27)) ((W.heap.size, z, d, A, c, B, k) :: l) :=
  have h := (Below.refl W.heap.size W).alloc (Nat.le_refl _) (.cells #[.bool (decide (z < 0)), .slice A (digs z.natAbs).length c, .bool false, .slice B (digs d).length k] 27)
  ⟨(S.after h).bel, fat_new R R', (S.after h).all⟩

end Go.Proofs.YtbeidpeoichakaaDoor.nb
