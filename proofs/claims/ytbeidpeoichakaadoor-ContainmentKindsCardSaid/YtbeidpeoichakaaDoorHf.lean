/- Numbers in boxes; the examples of the chapter. -/
import Derived.Test.YtbeidpeoichakaaDoorHa
import Derived.Test.YtbeidpeoichakaaDoorHe
import Derived.Test.YtbeidpeoichakaaDoorGf
import Derived.Test.YtbeidpeoichakaaDoorFy
import Derived.Test.YtbeidpeoichakaaDoorGc
set_option linter.unusedSimpArgs false
namespace Go.Proofs.YtbeidpeoichakaaDoor.hf
open Go.RowKit Go.Proofs.YtbeidpeoichakaaDoor.fm Go.Proofs.YtbeidpeoichakaaDoor.mem Go.Proofs.YtbeidpeoichakaaDoor.fa Go.Proofs.YtbeidpeoichakaaDoor.fb Go.Proofs.YtbeidpeoichakaaDoor.fj Go.Proofs.YtbeidpeoichakaaDoor.fu Go.Proofs.YtbeidpeoichakaaDoor.fv Go.Proofs.YtbeidpeoichakaaDoor.fw Go.Proofs.YtbeidpeoichakaaDoor.fx Go.Proofs.YtbeidpeoichakaaDoor.fz Go.Proofs.YtbeidpeoichakaaDoor.gb Go.Proofs.YtbeidpeoichakaaDoor.gc Go.Proofs.YtbeidpeoichakaaDoor.gd Go.Proofs.YtbeidpeoichakaaDoor.ge Go.Proofs.YtbeidpeoichakaaDoor.ha Go.Proofs.YtbeidpeoichakaaDoor.hb Go.Proofs.YtbeidpeoichakaaDoor.hc Go.Proofs.YtbeidpeoichakaaDoor.hd Go.Proofs.YtbeidpeoichakaaDoor.he

/-- A fraction in a box of its own. -/
structure FAt (W : World) (g : Nat) (z : Int) (d : Nat) (A : Option Addr) (c : Nat) (B : Option Addr) (k : Nat) : Prop where
  lt : g < W.heap.size
  c0 : W.cell? ⟨g, 0, none⟩ = some (.bool (decide (z < 0)))
  c1 : W.cell? ⟨g, 1, none⟩ = some (.slice A (digs z.natAbs).length c)
  c2 : W.cell? ⟨g, 2, none⟩ = some (.bool false)
  c3 : W.cell? ⟨g, 3, none⟩ = some (.slice B (digs d).length k)
  R : Rd W W.heap.size A c (digs z.natAbs)
  S : Rd W W.heap.size B k (digs d)

theorem FAt.after {W W' : World} {g : Nat} {z : Int} {d : Nat} {A B : Option Addr} {c k : Nat} (F : FAt W g z d A c B k) (h : Below W.heap.size W W') : FAt W' g z d A c B k :=
  ⟨Nat.lt_of_lt_of_le F.lt h.size, (h.cell F.lt).trans F.c0, (h.cell F.lt).trans F.c1, (h.cell F.lt).trans F.c2, (h.cell F.lt).trans F.c3, (F.R.below h).more h.size, (F.S.below h).more h.size⟩
theorem fat_new {W : World} {z : Int} {d : Nat} {A B : Option Addr} {c k : Nat} (R : Rd W W.heap.size A c (digs z.natAbs)) (S : Rd W W.heap.size B k (digs d)) :
    FAt (W.alloc (.cells #[.bool (decide (z < 0)), .slice A (digs z.natAbs).length c, .bool false, .slice B (digs d).length k] 27)) W.heap.size z d A c B k := by
  have h := (Below.refl W.heap.size W).alloc (Nat.le_refl _) (.cells #[.bool (decide (z < 0)), .slice A (digs z.natAbs).length c, .bool false, .slice B (digs d).length k] 27)
  exact ⟨by simp, by simp [go_sem], by simp [go_sem], by simp [go_sem], by simp [go_sem], (R.below h).more h.size, (S.below h).more h.size⟩
theorem FAt.frac {W : World} {g : Nat} {z : Int} {d : Nat} {A B : Option Addr} {c k : Nat} (F : FAt W g z d A c B k) : IsFrac W (.agg #[.bool (decide (z < 0)), .slice A (digs z.natAbs).length c, .bool false, .slice B (digs d).length k]) z d :=
  ⟨A, c, B, k, rfl, F.R, F.S⟩

/-- A big integer in a box of its own. -/
structure BAt (W : World) (g : Nat) (z : Int) (A : Option Addr) (c : Nat) : Prop where
  lt : g < W.heap.size
  c0 : W.cell? ⟨g, 0, none⟩ = some (.bool (decide (z < 0)))
  c1 : W.cell? ⟨g, 1, none⟩ = some (.slice A (digs z.natAbs).length c)
  R : Rd W W.heap.size A c (digs z.natAbs)

theorem BAt.after {W W' : World} {g : Nat} {z : Int} {A : Option Addr} {c : Nat} (F : BAt W g z A c) (h : Below W.heap.size W W') : BAt W' g z A c :=
  ⟨Nat.lt_of_lt_of_le F.lt h.size, (h.cell F.lt).trans F.c0, (h.cell F.lt).trans F.c1, (F.R.below h).more h.size⟩
theorem bat_new {W : World} {z : Int} {A : Option Addr} {c : Nat} (R : Rd W W.heap.size A c (digs z.natAbs)) :
    BAt (W.alloc (.cells #[.bool (decide (z < 0)), .slice A (digs z.natAbs).length c] 25)) W.heap.size z A c := by
  have h := (Below.refl W.heap.size W).alloc (Nat.le_refl _) (.cells #[.bool (decide (z < 0)), .slice A (digs z.natAbs).length c] 25)
  exact ⟨by simp, by simp [go_sem], by simp [go_sem], (R.below h).more h.size⟩
theorem BAt.big {W : World} {g : Nat} {z : Int} {A : Option Addr} {c : Nat} (F : BAt W g z A c) : IsBig W (.agg #[.bool (decide (z < 0)), .slice A (digs z.natAbs).length c]) z := ⟨A, c, rfl, F.R⟩

theorem text_56 : ba (textOf 5 6) = ⟨#[53, 47, 54]⟩ := by
  unfold textOf
  rw [if_neg (by decide), Lib.decDigits_one (by decide)]
  unfold Lib.itoa
  rw [if_neg (by decide), Lib.decDigits_one (by decide)]
  rfl
theorem text_3 : ba (Lib.itoa (-3)) = ⟨#[45, 51]⟩ := by
  unfold Lib.itoa
  rw [if_pos (by decide), Lib.decDigits_one (by decide)]
  rfl
theorem text_1 : ba (Lib.itoa (-1)) = ⟨#[45, 49]⟩ := by
  unfold Lib.itoa
  rw [if_pos (by decide), Lib.decDigits_one (by decide)]
  rfl
theorem text_252 : ba (textOf (-25) 2) = ⟨#[45, 50, 53, 47, 50]⟩ := by
  unfold textOf
  rw [if_neg (by decide), Lib.decDigits_one (by decide)]
  unfold Lib.itoa
  rw [if_pos (by decide), Lib.decDigits_two (by decide) (by decide)]
  rfl

theorem of_12 : turned 1 2 = 1 ∧ (1 : Int).tdiv (Nat.gcd (1 : Int).natAbs (2 : Int).natAbs : Nat) = 1 ∧ (2 : Int).natAbs / Nat.gcd (1 : Int).natAbs (2 : Int).natAbs = 2 ∧ fits 1 2 = true := by decide
theorem of_13 : turned 1 3 = 1 ∧ (1 : Int).tdiv (Nat.gcd (1 : Int).natAbs (3 : Int).natAbs : Nat) = 1 ∧ (3 : Int).natAbs / Nat.gcd (1 : Int).natAbs (3 : Int).natAbs = 3 ∧ fits 1 3 = true := by decide
theorem sum_56 : (1 : Int) * ((3 : Nat) : Int) + 1 * ((2 : Nat) : Int) = 5 ∧ 2 * 3 = 6 ∧ (5 : Int).tdiv (Nat.gcd (5 : Int).natAbs 6 : Nat) = 5 ∧ 6 / Nat.gcd (5 : Int).natAbs 6 = 6 ∧ fits 5 6 = true := by decide

theorem fine_12 : Fine 1 2 := ⟨by decide, by decide, by decide, by decide⟩
theorem fine_13 : Fine 1 3 := ⟨by decide, by decide, by decide, by decide⟩
theorem fine_56 : Fine 5 6 := ⟨by decide, by decide, by decide, by decide⟩
theorem fine_252 : Fine (-25) 2 := ⟨by decide, by decide, by decide, by decide⟩

theorem dec_example {o : Bool} {z : Int} {d : Nat} (h : DecIs ⟨#[45, 49, 50, 46, 53, 48]⟩ o z d) : o = true ∧ z = -25 ∧ d = 2 := by
  rcases h with ⟨h, _⟩ | ⟨_, f, b, p, hc, ho, h0, h1⟩
  · exact absurd h (by decide)
  · have hb : bodyB ⟨#[45, 49, 50, 46, 53, 48]⟩ = ⟨#[49, 50, 46, 53, 48]⟩ := by decide
    rw [hb] at hc
    rcases hc with ⟨_, _, _, hn⟩ | ⟨hp, k, hk, hk1, hk2, hf, hb⟩
    · exact absurd hn (by decide)
    · have hk' : k < 5 := hk
      have key : ∀ j : Fin 5, ([49, 50, 46, 53, 48] : List UInt8)[j.val]? = some 46 → j.val = 2 := by decide
      have k2 : k = 2 := key ⟨k, hk'⟩ hk1
      subst k2
      have hf' : f = ⟨#[49, 50]⟩ := by rw [hf]; decide
      have hb' : b = ⟨#[53, 48]⟩ := by rw [hb]; decide
      rw [hf', hb'] at ho h1
      rw [hp] at ho
      have ho' : o = true := by rw [ho]; decide
      obtain ⟨hz, hd⟩ := h1 ho'
      have g : Nat.gcd (dval (⟨#[49, 50]⟩ : ByteArray).data.toList * 10 ^ (⟨#[53, 48]⟩ : ByteArray).size + dval (⟨#[53, 48]⟩ : ByteArray).data.toList) (10 ^ (⟨#[53, 48]⟩ : ByteArray).size) = 50 := by decide
      rw [g] at hz hd
      exact ⟨ho', by rw [hz]; decide, by rw [hd]; decide⟩

end Go.Proofs.YtbeidpeoichakaaDoor.hf

/- The examples of the chapter hold: sane. -/
set_option linter.unusedSimpArgs false
namespace Go.Proofs.YtbeidpeoichakaaDoor.hg
open Go.RowKit Go.Proofs.YtbeidpeoichakaaDoor.fm Go.Proofs.YtbeidpeoichakaaDoor.mem Go.Proofs.YtbeidpeoichakaaDoor.fa Go.Proofs.YtbeidpeoichakaaDoor.fb Go.Proofs.YtbeidpeoichakaaDoor.fj Go.Proofs.YtbeidpeoichakaaDoor.fu Go.Proofs.YtbeidpeoichakaaDoor.fv Go.Proofs.YtbeidpeoichakaaDoor.fw Go.Proofs.YtbeidpeoichakaaDoor.fx Go.Proofs.YtbeidpeoichakaaDoor.fy Go.Proofs.YtbeidpeoichakaaDoor.fz Go.Proofs.YtbeidpeoichakaaDoor.gb Go.Proofs.YtbeidpeoichakaaDoor.gc Go.Proofs.YtbeidpeoichakaaDoor.gd Go.Proofs.YtbeidpeoichakaaDoor.ge Go.Proofs.YtbeidpeoichakaaDoor.gg Go.Proofs.YtbeidpeoichakaaDoor.ha Go.Proofs.YtbeidpeoichakaaDoor.hb Go.Proofs.YtbeidpeoichakaaDoor.hc Go.Proofs.YtbeidpeoichakaaDoor.hd Go.Proofs.YtbeidpeoichakaaDoor.he Go.Proofs.YtbeidpeoichakaaDoor.hf

theorem low_open {w : World} {z : Int} {d : Nat} {N : Int} {D : Nat} {e : Ending} {w' : World} (h : Low w z d e w') (h1 : z.tdiv (Nat.gcd z.natAbs d : Nat) = N) (h2 : d / Nat.gcd z.natAbs d = D) (h3 : fits N D = true) :
    ∃ (A : Option Addr) (c : Nat) (A' : Option Addr) (c' : Nat) (Z1 : Int) (D1 : Nat),
      e = .returned (.tuple #[.agg #[.bool (decide (Z1 < 0)), .slice A (digs Z1.natAbs).length c, .bool false, .slice A' (digs D1).length c'], .int .i64 0]) ∧ Rd w' w'.heap.size A c (digs Z1.natAbs) ∧ Rd w' w'.heap.size A' c' (digs D1) ∧ Below w.heap.size w w' ∧ Hid (Z1 = N ∧ D1 = D) := by
  unfold Low at h
  rw [h1, h2] at h
  obtain ⟨A, c, A', c', Z1, D1, k1, he, R, R', hb, hk⟩ := frac_open h
  obtain ⟨g1, g2, g3⟩ := hk.out
  rw [if_pos h3] at g1 g2 g3
  subst g1
  exact ⟨A, c, A', c', Z1, D1, he, R, R', hb, Lib.hid ⟨g2, g3⟩⟩

theorem div_open {w : World} {x y : Int} {e : Ending} {w' : World} (h : DividedBig w x y e w') (hy : y ≠ 0) : ∃ (A : Option Addr) (c : Nat) (A' : Option Addr) (c' : Nat) (Q R : Int),
    e = .returned (.tuple #[.agg #[.bool (decide (Q < 0)), .slice A (digs Q.natAbs).length c], .agg #[.bool (decide (R < 0)), .slice A' (digs R.natAbs).length c'], .int .i64 0]) ∧ Rd w' w'.heap.size A c (digs Q.natAbs) ∧ Rd w' w'.heap.size A' c' (digs R.natAbs) ∧
    Below w.heap.size w w' ∧ Hid (Q = x.tdiv y ∧ R = x.tmod y) := by
  obtain ⟨v3, v4, he, ⟨A, c, e1, R⟩, ⟨A', c', e2, R'⟩, hb⟩ := h
  rw [if_neg hy] at he e2 R'
  subst e1 e2
  exact ⟨A, c, A', c', _, _, he, R, R', hb, Lib.hid ⟨rfl, rfl⟩⟩

theorem dec_open {s : ByteArray} {w : World} {e : Ending} {w' : World} (h : Dec s w e w') : ∃ (A : Option Addr) (c : Nat) (A' : Option Addr) (c' : Nat) (Z : Int) (D : Nat) (o : Bool),
    e = .returned (.tuple #[.agg #[.bool (decide (Z < 0)), .slice A (digs Z.natAbs).length c, .bool false, .slice A' (digs D).length c'], .bool o]) ∧ Rd w' w'.heap.size A c (digs Z.natAbs) ∧ Rd w' w'.heap.size A' c' (digs D) ∧
    Below w.heap.size w w' ∧ Hid (DecIs s o Z D) := by
  obtain ⟨v, o, z, d, he, ⟨A, c, A', c', e1, R, R'⟩, hb, hd⟩ := h
  subst e1
  exact ⟨A, c, A', c', z, d, o, he, R, R', hb, hd⟩

end Go.Proofs.YtbeidpeoichakaaDoor.hg
