/- Numbers in boxes; the examples of the chapter. -/
import Derived.Test.YtfnfnagdecpobaaDoorHd
import Derived.Test.YtfnfnagdecpobaaDoorHe
import Derived.Test.YtfnfnagdecpobaaDoorGg
import Derived.Test.YtfnfnagdecpobaaDoorFz
import Derived.Test.YtfnfnagdecpobaaDoorGc
set_option linter.unusedSimpArgs false
namespace Go.Proofs.YtfnfnagdecpobaaDoor.hf
open Go.RowKit Go.Proofs.YtfnfnagdecpobaaDoor.fm Go.Proofs.YtfnfnagdecpobaaDoor.mem Go.Proofs.YtfnfnagdecpobaaDoor.fa Go.Proofs.YtfnfnagdecpobaaDoor.fb Go.Proofs.YtfnfnagdecpobaaDoor.fj Go.Proofs.YtfnfnagdecpobaaDoor.fu Go.Proofs.YtfnfnagdecpobaaDoor.fv Go.Proofs.YtfnfnagdecpobaaDoor.fw Go.Proofs.YtfnfnagdecpobaaDoor.fx Go.Proofs.YtfnfnagdecpobaaDoor.fz Go.Proofs.YtfnfnagdecpobaaDoor.gb Go.Proofs.YtfnfnagdecpobaaDoor.gc Go.Proofs.YtfnfnagdecpobaaDoor.gd Go.Proofs.YtfnfnagdecpobaaDoor.ge Go.Proofs.YtfnfnagdecpobaaDoor.ha Go.Proofs.YtfnfnagdecpobaaDoor.hb Go.Proofs.YtfnfnagdecpobaaDoor.hc Go.Proofs.YtfnfnagdecpobaaDoor.hd Go.Proofs.YtfnfnagdecpobaaDoor.he

/-- A fraction in a box of its own. -/
structure FAt (W : World) (g : Nat) (z : Int) (d : Nat) (A : Option Addr) (c : Nat) (B : Option Addr) (k : Nat) : Prop where
  lt : g < W.heap.size
  c0 : W.cell? ⟨g, 0, none⟩ = some (.bool (decide (z < 0)))
  c1 : W.cell? ⟨g, 1, none⟩ = some (.slice A (digs z.natAbs).length c)
  c2 : W.cell? ⟨g, 2, none⟩ = some (.bool false)
  c3 : W.cell? ⟨g, 3, none⟩ = some (.slice B (digs d).length k)
  R : Rd W W.heap.size A c (digs z.natAbs)
  S : Rd W W.heap.size B k (digs d)

theorem FAt.after {W W' : World} {g : Nat} {z : Int} {d : Nat} {A B : Option Addr} {c k : Nat} (F : FAt W g z d A c B k) (h : Below W.heap.size W W') : FAt W' g z d A c B k :=
  ⟨Nat.lt_of_lt_of_le F.lt h.size, (h.cell F.lt).trans F.c0, (h.cell F.lt).trans F.c1, (h.cell F.lt).trans F.c2, (h.cell F.lt).trans F.c3, (F.R.below h).more h.size, (F.S.below h).more h.size⟩
theorem fat_new {W : World} {z : Int} {d : Nat} {A B : Option Addr} {c k : Nat} (R : Rd W W.heap.size A c (digs z.natAbs)) (S : Rd W W.heap.size B k (digs d)) :
    FAt (W.alloc (.cells #[.bool (decide (z < 0)), .slice A (digs z.natAbs).length c, .bool false, .slice B (digs d).length k] 50)) W.heap.size z d A c B k := by
  have h := (Below.refl W.heap.size W).alloc (Nat.le_refl _) (.cells #[.bool (decide (z < 0)), .slice A (digs z.natAbs).length c, .bool false, .slice B (digs d).length k] 50)
  exact ⟨by simp, by simp [go_sem], by simp [go_sem], by simp [go_sem], by simp [go_sem], (R.below h).more h.size, (S.below h).more h.size⟩
theorem FAt.frac {W : World} {g : Nat} {z : Int} {d : Nat} {A B : Option Addr} {c k : Nat} (F : FAt W g z d A c B k) : IsFrac W (.agg #[.bool (decide (z < 0)), .slice A (digs z.natAbs).length c, .bool false, .slice B (digs d).length k]) z d :=
  ⟨A, c, B, k, rfl, F.R, F.S⟩

/-- A big integer in a box of its own. -/
structure BAt (W : World) (g : Nat) (z : Int) (A : Option Addr) (c : Nat) : Prop where
  lt : g < W.heap.size
  c0 : W.cell? ⟨g, 0, none⟩ = some (.bool (decide (z < 0)))
  c1 : W.cell? ⟨g, 1, none⟩ = some (.slice A (digs z.natAbs).length c)
  R : Rd W W.heap.size A c (digs z.natAbs)

theorem BAt.after {W W' : World} {g : Nat} {z : Int} {A : Option Addr} {c : Nat} (F : BAt W g z A c) (h : Below W.heap.size W W') : BAt W' g z A c :=
  ⟨Nat.lt_of_lt_of_le F.lt h.size, (h.cell F.lt).trans F.c0, (h.cell F.lt).trans F.c1, (F.R.below h).more h.size⟩
theorem bat_new {W : World} {z : Int} {A : Option Addr} {c : Nat} (R : Rd W W.heap.size A c (digs z.natAbs)) :
    BAt (W.alloc (.cells #[.bool (decide (z < 0)), .slice A (digs z.natAbs).length c] 28)) W.heap.size z A c := by
  have h := (Below.refl W.heap.size W).alloc (Nat.le_refl _) (.cells #[.bool (decide (z < 0)), .slice A (digs z.natAbs).length c] 28)
  exact ⟨by simp, by simp [go_sem], by simp [go_sem], (R.below h).more h.size⟩
theorem BAt.big {W : World} {g : Nat} {z : Int} {A : Option Addr} {c : Nat} (F : BAt W g z A c) : IsBig W (.agg #[.bool (decide (z < 0)), .slice A (digs z.natAbs).length c]) z := ⟨A, c, rfl, F.R⟩

theorem text_56 : ba (textOf 5 6) = ⟨#[53, 47, 54]⟩ := by
  unfold textOf
  rw [if_neg (by decide), Lib.decDigits_one (by decide)]
  unfold Lib.itoa
  rw [if_neg (by decide), Lib.decDigits_one (by decide)]
  rfl
theorem text_3 : ba (Lib.itoa (-3)) = ⟨#[45, 51]⟩ := by
  unfold Lib.itoa
  rw [if_pos (by decide), Lib.decDigits_one (by decide)]
  rfl
theorem text_1 : ba (Lib.itoa (-1)) = ⟨#[45, 49]⟩ := by
  unfold Lib.itoa
  rw [if_pos (by decide), Lib.decDigits_one (by decide)]
  rfl
theorem text_252 : ba (textOf (-25) 2) = ⟨#[45, 50, 53, 47, 50]⟩ := by
  unfold textOf
  rw [if_neg (by decide), Lib.decDigits_one (by decide)]
  unfold Lib.itoa
  rw [if_pos (by decide), Lib.decDigits_two (by decide) (by decide)]
  rfl

theorem of_12 : turned 1 2 = 1 ∧ (1 : Int).tdiv (Nat.gcd (1 : Int).natAbs (2 : Int).natAbs : Nat) = 1 ∧ (2 : Int).natAbs / Nat.gcd (1 : Int).natAbs (2 : Int).natAbs = 2 ∧ fits 1 2 = true := by decide
theorem of_13 : turned 1 3 = 1 ∧ (1 : Int).tdiv (Nat.gcd (1 : Int).natAbs (3 : Int).natAbs : Nat) = 1 ∧ (3 : Int).natAbs / Nat.gcd (1 : Int).natAbs (3 : Int).natAbs = 3 ∧ fits 1 3 = true := by decide
theorem sum_56 : (1 : Int) * ((3 : Nat) : Int) + 1 * ((2 : Nat) : Int) = 5 ∧ 2 * 3 = 6 ∧ (5 : Int).tdiv (Nat.gcd (5 : Int).natAbs 6 : Nat) = 5 ∧ 6 / Nat.gcd (5 : Int).natAbs 6 = 6 ∧ fits 5 6 = true := by decide

theorem fine_12 : Fine 1 2 := ⟨by decide, by decide, by decide, by decide⟩
theorem fine_13 : Fine 1 3 := ⟨by decide, by decide, by decide, by decide⟩
theorem fine_56 : Fine 5 6 := ⟨by decide, by decide, by decide, by decide⟩
theorem fine_252 : Fine (-25) 2 := ⟨by decide, by decide, by decide, by decide⟩

theorem dec_example {o : Bool} {z : Int} {d : Nat} (h : DecIs ⟨#[45, 49, 50, 46, 53, 48]⟩ o z d) : o = true ∧ z = -25 ∧ d = 2 := by
  rcases h with ⟨h, _⟩ | ⟨_, f, b, p, hc, ho, h0, h1⟩
  · exact absurd h (by decide)
  · have hb : bodyB ⟨#[45, 49, 50, 46, 53, 48]⟩ = ⟨#[49, 50, 46, 53, 48]⟩ := by decide
    rw [hb] at hc
    rcases hc with ⟨_, _, _, hn⟩ | ⟨hp, k, hk, hk1, hk2, hf, hb⟩
    · exact absurd hn (by decide)
    · have hk' : k < 5 := hk
      have key : ∀ j : Fin 5, ([49, 50, 46, 53, 48] : List UInt8)[j.val]? = some 46 → j.val = 2 := by decide
      have k2 : k = 2 := key ⟨k, hk'⟩ hk1
      subst k2
      have hf' : f = ⟨#[49, 50]⟩ := by rw [hf]; decide
      have hb' : b = ⟨#[53, 48]⟩ := by rw [hb]; decide
      rw [hf', hb'] at ho h1
      rw [hp] at ho
      have ho' : o = true := by rw [ho]; decide
      obtain ⟨hz, hd⟩ := h1 ho'
      have g : Nat.gcd (dval (⟨#[49, 50]⟩ : ByteArray).data.toList * 10 ^ (⟨#[53, 48]⟩ : ByteArray).size + dval (⟨#[53, 48]⟩ : ByteArray).data.toList) (10 ^ (⟨#[53, 48]⟩ : ByteArray).size) = 50 := by decide
      rw [g] at hz hd
      exact ⟨ho', by rw [hz]; decide, by rw [hd]; decide⟩

end Go.Proofs.YtfnfnagdecpobaaDoor.hf
