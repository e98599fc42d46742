/- ContainmentKinds: numbers. -/
import Derived.Test.YtbeidpeoichakaaDoorSd
set_option linter.unusedSimpArgs false
set_option linter.unusedVariables false
namespace Go.Proofs.YtbeidpeoichakaaDoor.sf
open Go.RowKit Go.Proofs.YtbeidpeoichakaaDoor.fm Go.Proofs.YtbeidpeoichakaaDoor.mem Go.Proofs.YtbeidpeoichakaaDoor.fa Go.Proofs.YtbeidpeoichakaaDoor.fb Go.Proofs.YtbeidpeoichakaaDoor.fu Go.Proofs.YtbeidpeoichakaaDoor.fv Go.Proofs.YtbeidpeoichakaaDoor.fw Go.Proofs.YtbeidpeoichakaaDoor.fy Go.Proofs.YtbeidpeoichakaaDoor.ga Go.Proofs.YtbeidpeoichakaaDoor.gb Go.Proofs.YtbeidpeoichakaaDoor.gc Go.Proofs.YtbeidpeoichakaaDoor.fj Go.Proofs.YtbeidpeoichakaaDoor.gg Go.Proofs.YtbeidpeoichakaaDoor.ja Go.Proofs.YtbeidpeoichakaaDoor.jb Go.Proofs.YtbeidpeoichakaaDoor.jg Go.Proofs.YtbeidpeoichakaaDoor.jh Go.Proofs.YtbeidpeoichakaaDoor.pa Go.Proofs.YtbeidpeoichakaaDoor.pb Go.Proofs.YtbeidpeoichakaaDoor.pc Go.Proofs.YtbeidpeoichakaaDoor.nb Go.Proofs.YtbeidpeoichakaaDoor.hc Go.Proofs.YtbeidpeoichakaaDoor.hd Go.Proofs.YtbeidpeoichakaaDoor.re Go.Proofs.YtbeidpeoichakaaDoor.sa Go.Proofs.YtbeidpeoichakaaDoor.sc Go.Proofs.YtbeidpeoichakaaDoor.se

theorem order_mul (k : Int) (hk : 0 < k) (x y : Int) : fw.order (x * k) (y * k) = fw.order x y := by
  unfold fw.order
  have h1 : (x * k < y * k) ↔ x < y := ⟨fun h => Int.lt_of_mul_lt_mul_right h (by omega), fun h => Int.mul_lt_mul_of_pos_right h hk⟩
  have h2 : (y * k < x * k) ↔ y < x := ⟨fun h => Int.lt_of_mul_lt_mul_right h (by omega), fun h => Int.mul_lt_mul_of_pos_right h hk⟩
  simp only [h1, h2]
/-- fractions are ordered as their numbers are -/
theorem order_q {z1 c1 z2 c2 : Int} {d1 m1 d2 m2 : Nat} (h1 : d1 ≠ 0) (h2 : d2 ≠ 0) (h3 : m1 ≠ 0) (h4 : m2 ≠ 0) (e1 : q z1 d1 = q c1 m1) (e2 : q z2 d2 = q c2 m2) : fw.order (z1 * d2) (z2 * d1) = fw.order (c1 * m2) (c2 * m1) := by
  have g1 := q_eq h1 h3 e1
  have g2 := q_eq h2 h4 e2
  have k1 : (0 : Int) < (m1 : Int) * m2 := Int.mul_pos (by omega) (by omega)
  have k2 : (0 : Int) < (d1 : Int) * d2 := Int.mul_pos (by omega) (by omega)
  have hx : z1 * d2 * ((m1 : Int) * m2) = c1 * m2 * ((d1 : Int) * d2) := by
    have : z1 * d2 * ((m1 : Int) * m2) = (z1 * m1) * (d2 * m2) := by ac_rfl
    rw [this, g1]; ac_rfl
  have hy : z2 * d1 * ((m1 : Int) * m2) = c2 * m1 * ((d1 : Int) * d2) := by
    have : z2 * d1 * ((m1 : Int) * m2) = (z2 * m2) * (d1 * m1) := by ac_rfl
    rw [this, g2]; ac_rfl
  rw [← order_mul _ k1, hx, hy, order_mul _ k2]
theorem q_cross {z c : Int} {d m : Nat} (h1 : d ≠ 0) (h2 : m ≠ 0) (h : z * m = c * d) : q z d = q c m := by
  unfold q
  have := cast_ne h1; have := cast_ne h2
  have : (z : Rat) * m = c * d := by exact_mod_cast h
  grind
theorem order_lt {x y : Int} (h : x < y) : fw.order x y = -1 := by unfold fw.order; rw [if_pos h]
theorem order_eq {x y : Int} (h : x = y) : fw.order x y = 0 := by unfold fw.order; rw [if_neg (by omega), if_neg (by omega)]
theorem order_gt {x y : Int} (h : y < x) : fw.order x y = 1 := by unfold fw.order; rw [if_neg (by omega), if_pos h]
theorem order_pos {x y : Int} : (0 < fw.order x y) ↔ y < x := by
  unfold fw.order
  split
  · constructor <;> intro h <;> omega
  · split
    · constructor <;> intro h <;> omega
    · constructor <;> intro h <;> omega
theorem order_zero {x y : Int} : (fw.order x y = 0) ↔ x = y := by
  unfold fw.order
  split
  · constructor <;> intro h <;> omega
  · split
    · constructor <;> intro h <;> omega
    · constructor <;> intro h <;> omega
theorem good_small2 {z : Int} {d : Nat} (h1 : z.natAbs < 4294967296) (h2 : d < 4294967296) (h3 : d ≠ 0) (h : Nat.gcd z.natAbs d = 1) : nb.Good 2 z d :=
  ⟨(lt_len_iff _ 2).2 (by omega), (lt_len_iff _ 2).2 (by omega), h3, h⟩
/-- a score that is known -/
theorem score_is {Z : Int} {D : Nat} {z : Int} {d : Nat} {c m : Nat} (G : nb.Good 2 Z D) (e : q Z D = q (c : Int) m) (hm : m ≠ 0) (G' : nb.Good 2 z d) (h : z * m = (c : Int) * d) : Z = z ∧ D = d :=
  q_inj G G' (e.trans (q_cross G'.d0 hm h).symm)
theorem text_half : textOf 1 2 = [49, 47, 50] := by
  unfold textOf
  rw [if_neg (by decide)]
  unfold Lib.itoa
  rw [if_neg (by decide), Lib.decDigits_one (by decide), Lib.decDigits_one (by decide)]
  rfl
theorem text_quarter : textOf 1 4 = [49, 47, 52] := by
  unfold textOf
  rw [if_neg (by decide)]
  unfold Lib.itoa
  rw [if_neg (by decide), Lib.decDigits_one (by decide), Lib.decDigits_one (by decide)]
  rfl
theorem text_fifth : textOf 1 5 = [49, 47, 53] := by
  unfold textOf
  rw [if_neg (by decide)]
  unfold Lib.itoa
  rw [if_neg (by decide), Lib.decDigits_one (by decide), Lib.decDigits_one (by decide)]
  rfl
theorem text_null : textOf 0 1 = [48] := by
  unfold textOf
  rw [if_pos rfl]
  unfold Lib.itoa
  rw [if_neg (by decide), Lib.decDigits_one (by decide)]
  rfl
theorem rcmp_good (w : World) (a b : Value) (x y : Int) (d e : Nat) (ha : IsFrac w a x d) (hb : IsFrac w b y e) (G : nb.Good 2 x d) (G' : nb.Good 2 y e) :
    Calls Tryd.prog 9 #[a, b] w fun r w' => r = .returned (.int .i64 (fw.order (x * e) (y * d))) ∧ Below w.heap.size w w' :=
  sb.rcmpF_any w a b x y d e ha hb (by have := G.hz; omega) (by have := G.hd; omega) (by have := G'.hz; omega) (by have := G'.hd; omega) G.d0 G'.d0 (lowB_good G) (lowB_good G')
end Go.Proofs.YtbeidpeoichakaaDoor.sf
