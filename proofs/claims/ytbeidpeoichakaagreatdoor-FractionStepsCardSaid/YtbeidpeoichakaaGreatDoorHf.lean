/- Numbers in boxes; the examples of the chapter. -/
import Derived.Test.YtbeidpeoichakaaGreatDoorHa
import Derived.Test.YtbeidpeoichakaaGreatDoorHe
import Derived.Test.YtbeidpeoichakaaGreatDoorGf
import Derived.Test.YtbeidpeoichakaaGreatDoorFy
import Derived.Test.YtbeidpeoichakaaGreatDoorGc
set_option linter.unusedSimpArgs false
namespace Go.Proofs.YtbeidpeoichakaaGreatDoor.hf
open Go.RowKit Go.Proofs.YtbeidpeoichakaaGreatDoor.fm Go.Proofs.YtbeidpeoichakaaGreatDoor.mem Go.Proofs.YtbeidpeoichakaaGreatDoor.fa Go.Proofs.YtbeidpeoichakaaGreatDoor.fb Go.Proofs.YtbeidpeoichakaaGreatDoor.fj Go.Proofs.YtbeidpeoichakaaGreatDoor.fu Go.Proofs.YtbeidpeoichakaaGreatDoor.fv Go.Proofs.YtbeidpeoichakaaGreatDoor.fw Go.Proofs.YtbeidpeoichakaaGreatDoor.fx Go.Proofs.YtbeidpeoichakaaGreatDoor.fz Go.Proofs.YtbeidpeoichakaaGreatDoor.gb Go.Proofs.YtbeidpeoichakaaGreatDoor.gc Go.Proofs.YtbeidpeoichakaaGreatDoor.gd Go.Proofs.YtbeidpeoichakaaGreatDoor.ge Go.Proofs.YtbeidpeoichakaaGreatDoor.ha Go.Proofs.YtbeidpeoichakaaGreatDoor.hb Go.Proofs.YtbeidpeoichakaaGreatDoor.hc Go.Proofs.YtbeidpeoichakaaGreatDoor.hd Go.Proofs.YtbeidpeoichakaaGreatDoor.he

/-- A fraction in a box of its own. -/
structure FAt (W : World) (g : Nat) (z : Int) (d : Nat) (A : Option Addr) (c : Nat) (B : Option Addr) (k : Nat) : Prop where
  lt : g < W.heap.size
  c0 : W.cell? ⟨g, 0, none⟩ = some (.bool (decide (z < 0)))
  c1 : W.cell? ⟨g, 1, none⟩ = some (.slice A (digs z.natAbs).length c)
  c2 : W.cell? ⟨g, 2, none⟩ = some (.bool false)
  c3 : W.cell? ⟨g, 3, none⟩ = some (.slice B (digs d).length k)
  R : Rd W W.heap.size A c (digs z.natAbs)
  S : Rd W W.heap.size B k (digs d)

theorem FAt.after {W W' : World} {g : Nat} {z : Int} {d : Nat} {A B : Option Addr} {c k : Nat} (F : FAt W g z d A c B k) (h : Below W.heap.size W W') : FAt W' g z d A c B k :=
  ⟨Nat.lt_of_lt_of_le F.lt h.size, (h.cell F.lt).trans F.c0, (h.cell F.lt).trans F.c1, (h.cell F.lt).trans F.c2, (h.cell F.lt).trans F.c3, (F.R.below h).more h.size, (F.S.below h).more h.size⟩
theorem fat_new {W : World} {z : Int} {d : Nat} {A B : Option Addr} {c k : Nat} (R : Rd W W.heap.size A c (digs z.natAbs)) (S : Rd W W.heap.size B k (digs d)) :
    FAt (W.alloc (.cells #[.bool (decide (z < 0)), .slice A (digs z.natAbs).length c, .bool false, .slice B (digs d).length k] 30)) W.heap.size z d A c B k := by
  have h := (Below.refl W.heap.size W).alloc (Nat.le_refl _) (.cells #[.bool (decide (z < 0)), .slice A (digs z.natAbs).length c, .bool false, .slice B (digs d).length k] 30)
  exact ⟨by simp, by simp [go_sem], by simp [go_sem], by simp [go_sem], by simp [go_sem], (R.below h).more h.size, (S.below h).more h.size⟩
theorem FAt.frac {W : World} {g : Nat} {z : Int} {d : Nat} {A B : Option Addr} {c k : Nat} (F : FAt W g z d A c B k) : IsFrac W (.agg #[.bool (decide (z < 0)), .slice A (digs z.natAbs).length c, .bool false, .slice B (digs d).length k]) z d :=
  ⟨A, c, B, k, rfl, F.R, F.S⟩

/-- A big integer in a box of its own. -/
structure BAt (W : World) (g : Nat) (z : Int) (A : Option Addr) (c : Nat) : Prop where
  lt : g < W.heap.size
  c0 : W.cell? ⟨g, 0, none⟩ = some (.bool (decide (z < 0)))
  c1 : W.cell? ⟨g, 1, none⟩ = some (.slice A (digs z.natAbs).length c)
  R : Rd W W.heap.size A c (digs z.natAbs)

theorem BAt.after {W W' : World} {g : Nat} {z : Int} {A : Option Addr} {c : Nat} (F : BAt W g z A c) (h : Below W.heap.size W W') : BAt W' g z A c :=
  ⟨Nat.lt_of_lt_of_le F.lt h.size, (h.cell F.lt).trans F.c0, (h.cell F.lt).trans F.c1, (F.R.below h).more h.size⟩
theorem bat_new {W : World} {z : Int} {A : Option Addr} {c : Nat} (R : Rd W W.heap.size A c (digs z.natAbs)) :
    BAt (W.alloc (.cells #[.bool (decide (z < 0)), .slice A (digs z.natAbs).length c] 28)) W.heap.size z A c := by
  have h := (Below.refl W.heap.size W).alloc (Nat.le_refl _) (.cells #[.bool (decide (z < 0)), .slice A (digs z.natAbs).length c] 28)
  exact ⟨by simp, by simp [go_sem], by simp [go_sem], (R.below h).more h.size⟩
theorem BAt.big {W : World} {g : Nat} {z : Int} {A : Option Addr} {c : Nat} (F : BAt W g z A c) : IsBig W (.agg #[.bool (decide (z < 0)), .slice A (digs z.natAbs).length c]) z := ⟨A, c, rfl, F.R⟩

theorem text_56 : ba (textOf 5 6) = ⟨#[53, 47, 54]⟩ := by
  unfold textOf
  rw [if_neg (by decide), Lib.decDigits_one (by decide)]
  unfold Lib.itoa
  rw [if_neg (by decide), Lib.decDigits_one (by decide)]
  rfl
theorem text_3 : ba (Lib.itoa (-3)) = ⟨#[45, 51]⟩ := by
  unfold Lib.itoa
  rw [if_pos (by decide), Lib.decDigits_one (by decide)]
  rfl
theorem text_1 : ba (Lib.itoa (-1)) = ⟨#[45, 49]⟩ := by
  unfold Lib.itoa
  rw [if_pos (by decide), Lib.decDigits_one (by decide)]
  rfl
theorem text_252 : ba (textOf (-25) 2) = ⟨#[45, 50, 53, 47, 50]⟩ := by
  unfold textOf
  rw [if_neg (by decide), Lib.decDigits_one (by decide)]
  unfold Lib.itoa
  rw [if_pos (by decide), Lib.decDigits_two (by decide) (by decide)]
  rfl

theorem of_12 : turned 1 2 = 1 ∧ (1 : Int).tdiv (Nat.gcd (1 : Int).natAbs (2 : Int).natAbs : Nat) = 1 ∧ (2 : Int).natAbs / Nat.gcd (1 : Int).natAbs (2 : Int).natAbs = 2 ∧ fits 1 2 = true := by decide
theorem of_13 : turned 1 3 = 1 ∧ (1 : Int).tdiv (Nat.gcd (1 : Int).natAbs (3 : Int).natAbs : Nat) = 1 ∧ (3 : Int).natAbs / Nat.gcd (1 : Int).natAbs (3 : Int).natAbs = 3 ∧ fits 1 3 = true := by decide
theorem sum_56 : (1 : Int) * ((3 : Nat) : Int) + 1 * ((2 : Nat) : Int) = 5 ∧ 2 * 3 = 6 ∧ (5 : Int).tdiv (Nat.gcd (5 : Int).natAbs 6 : Nat) = 5 ∧ 6 / Nat.gcd (5 : Int).natAbs 6 = 6 ∧ fits 5 6 = true := by decide

theorem fine_12 : Fine 1 2 := ⟨by decide, by decide, by decide, by decide⟩
theorem fine_13 : Fine 1 3 := ⟨by decide, by decide, by decide, by decide⟩
theorem fine_56 : Fine 5 6 := ⟨by decide, by decide, by decide, by decide⟩
theorem fine_252 : Fine (-25) 2 := ⟨by decide, by decide, by decide, by decide⟩

theorem dec_example {o : Bool} {z : Int} {d : Nat} (h : DecIs ⟨#[45, 49, 50, 46, 53, 48]⟩ o z d) : o = true ∧ z = -25 ∧ d = 2 := by
  rcases h with ⟨h, _⟩ | ⟨_, f, b, p, hc, ho, h0, h1⟩
  · exact absurd h (by decide)
  · have hb : bodyB ⟨#[45, 49, 50, 46, 53, 48]⟩ = ⟨#[49, 50, 46, 53, 48]⟩ := by decide
    rw [hb] at hc
    rcases hc with ⟨_, _, _, hn⟩ | ⟨hp, k, hk, hk1, hk2, hf, hb⟩
    · exact absurd hn (by decide)
    · have hk' : k < 5 := hk
      have key : ∀ j : Fin 5, ([49, 50, 46, 53, 48] : List UInt8)[j.val]? = some 46 → j.val = 2 := by decide
      have k2 : k = 2 := key ⟨k, hk'⟩ hk1
      subst k2
      have hf' : f = ⟨#[49, 50]⟩ := by rw [hf]; decide
      have hb' : b = ⟨#[53, 48]⟩ := by rw [hb]; decide
      rw [hf', hb'] at ho h1
      rw [hp] at ho
      have ho' : o = true := by rw [ho]; decide
      obtain ⟨hz, hd⟩ := h1 ho'
      have g : Nat.gcd (dval (⟨#[49, 50]⟩ : ByteArray).data.toList * 10 ^ (⟨#[53, 48]⟩ : ByteArray).size + dval (⟨#[53, 48]⟩ : ByteArray).data.toList) (10 ^ (⟨#[53, 48]⟩ : ByteArray).size) = 50 := by decide
      rw [g] at hz hd
      exact ⟨ho', by rw [hz]; decide, by rw [hd]; decide⟩

end Go.Proofs.YtbeidpeoichakaaGreatDoor.hf

/- The examples of the chapter hold: sane. -/
set_option linter.unusedSimpArgs false
namespace Go.Proofs.YtbeidpeoichakaaGreatDoor.hg
open Go.RowKit Go.Proofs.YtbeidpeoichakaaGreatDoor.fm Go.Proofs.YtbeidpeoichakaaGreatDoor.mem Go.Proofs.YtbeidpeoichakaaGreatDoor.fa Go.Proofs.YtbeidpeoichakaaGreatDoor.fb Go.Proofs.YtbeidpeoichakaaGreatDoor.fj Go.Proofs.YtbeidpeoichakaaGreatDoor.fu Go.Proofs.YtbeidpeoichakaaGreatDoor.fv Go.Proofs.YtbeidpeoichakaaGreatDoor.fw Go.Proofs.YtbeidpeoichakaaGreatDoor.fx Go.Proofs.YtbeidpeoichakaaGreatDoor.fy Go.Proofs.YtbeidpeoichakaaGreatDoor.fz Go.Proofs.YtbeidpeoichakaaGreatDoor.gb Go.Proofs.YtbeidpeoichakaaGreatDoor.gc Go.Proofs.YtbeidpeoichakaaGreatDoor.gd Go.Proofs.YtbeidpeoichakaaGreatDoor.ge Go.Proofs.YtbeidpeoichakaaGreatDoor.gg Go.Proofs.YtbeidpeoichakaaGreatDoor.ha Go.Proofs.YtbeidpeoichakaaGreatDoor.hb Go.Proofs.YtbeidpeoichakaaGreatDoor.hc Go.Proofs.YtbeidpeoichakaaGreatDoor.hd Go.Proofs.YtbeidpeoichakaaGreatDoor.he Go.Proofs.YtbeidpeoichakaaGreatDoor.hf

theorem low_open {w : World} {z : Int} {d : Nat} {N : Int} {D : Nat} {e : Ending} {w' : World} (h : Low w z d e w') (h1 : z.tdiv (Nat.gcd z.natAbs d : Nat) = N) (h2 : d / Nat.gcd z.natAbs d = D) (h3 : fits N D = true) :
    ∃ (A : Option Addr) (c : Nat) (A' : Option Addr) (c' : Nat) (Z1 : Int) (D1 : Nat),
      e = .returned (.tuple #[.agg #[.bool (decide (Z1 < 0)), .slice A (digs Z1.natAbs).length c, .bool false, .slice A' (digs D1).length c'], .int .i64 0]) ∧ Rd w' w'.heap.size A c (digs Z1.natAbs) ∧ Rd w' w'.heap.size A' c' (digs D1) ∧ Below w.heap.size w w' ∧ Hid (Z1 = N ∧ D1 = D) := by
  unfold Low at h
  rw [h1, h2] at h
  obtain ⟨A, c, A', c', Z1, D1, k1, he, R, R', hb, hk⟩ := frac_open h
  obtain ⟨g1, g2, g3⟩ := hk.out
  rw [if_pos h3] at g1 g2 g3
  subst g1
  exact ⟨A, c, A', c', Z1, D1, he, R, R', hb, Lib.hid ⟨g2, g3⟩⟩

theorem div_open {w : World} {x y : Int} {e : Ending} {w' : World} (h : DividedBig w x y e w') (hy : y ≠ 0) : ∃ (A : Option Addr) (c : Nat) (A' : Option Addr) (c' : Nat) (Q R : Int),
    e = .returned (.tuple #[.agg #[.bool (decide (Q < 0)), .slice A (digs Q.natAbs).length c], .agg #[.bool (decide (R < 0)), .slice A' (digs R.natAbs).length c'], .int .i64 0]) ∧ Rd w' w'.heap.size A c (digs Q.natAbs) ∧ Rd w' w'.heap.size A' c' (digs R.natAbs) ∧
    Below w.heap.size w w' ∧ Hid (Q = x.tdiv y ∧ R = x.tmod y) := by
  obtain ⟨v3, v4, he, ⟨A, c, e1, R⟩, ⟨A', c', e2, R'⟩, hb⟩ := h
  rw [if_neg hy] at he e2 R'
  subst e1 e2
  exact ⟨A, c, A', c', _, _, he, R, R', hb, Lib.hid ⟨rfl, rfl⟩⟩

theorem dec_open {s : ByteArray} {w : World} {e : Ending} {w' : World} (h : Dec s w e w') : ∃ (A : Option Addr) (c : Nat) (A' : Option Addr) (c' : Nat) (Z : Int) (D : Nat) (o : Bool),
    e = .returned (.tuple #[.agg #[.bool (decide (Z < 0)), .slice A (digs Z.natAbs).length c, .bool false, .slice A' (digs D).length c'], .bool o]) ∧ Rd w' w'.heap.size A c (digs Z.natAbs) ∧ Rd w' w'.heap.size A' c' (digs D) ∧
    Below w.heap.size w w' ∧ Hid (DecIs s o Z D) := by
  obtain ⟨v, o, z, d, he, ⟨A, c, A', c', e1, R, R'⟩, hb, hd⟩ := h
  subst e1
  exact ⟨A, c, A', c', z, d, o, he, R, R', hb, hd⟩

set_option maxRecDepth 100000 in
set_option maxHeartbeats 8000000 in
theorem sane_any (w : World) (hT : Tabs w) (hP : Pow w) :
    Calls Tryz.prog 4 #[] w fun e w' => e = .returned (.bool true) ∧ Below w.heap.size w w' := by
  go_enter Tryz.func4, Tryz.ntmps4
  go_wp2_with fail
  refine (of_any w 1 2 (by decide) (by decide) (by decide) (by decide) (by decide) hT).mono ?_
  rintro _ W1 hF
  obtain ⟨A1, c1, B1, k1, Z1, D1, rfl, R1, S1, hb1, HZ1⟩ := low_open hF (by rw [of_12.1]; exact of_12.2.1) (by rw [of_12.1]; exact of_12.2.2.1) of_12.2.2.2
  clear hF
  go_upto_region 2 with fail
  have F1 := fat_new R1 S1
  have h1 := hb1.trans ((Below.refl W1.heap.size W1).alloc (Nat.le_refl _) (.cells #[.bool (decide (Z1 < 0)), .slice A1 (digs Z1.natAbs).length c1, .bool false, .slice B1 (digs D1).length k1] 30) |>.mono hb1.size)
  obtain ⟨U1, hU1⟩ : ∃ U1, U1 = W1.alloc (.cells #[.bool (decide (Z1 < 0)), .slice A1 (digs Z1.natAbs).length c1, .bool false, .slice B1 (digs D1).length k1] 30) := ⟨_, rfl⟩
  rw [← hU1] at F1 h1 ⊢
  generalize W1.heap.size = g1 at *
  have H1 := Lib.hid (And.intro h1 F1)
  clear hU1 F1 h1 R1 S1 hb1
  go_wp2_with fail
  refine (of_any U1 1 3 (by decide) (by decide) (by decide) (by decide) (by decide) (hT.below H1.out.1)).mono ?_
  rintro _ W2 hF
  obtain ⟨A2, c2, B2, k2, Z2, D2, rfl, R2, S2, hb2, HZ2⟩ := low_open hF (by rw [of_13.1]; exact of_13.2.1) (by rw [of_13.1]; exact of_13.2.2.1) of_13.2.2.2
  clear hF
  go_upto_region 3 with fail
  have F2 := fat_new R2 S2
  have h2 := hb2.trans ((Below.refl W2.heap.size W2).alloc (Nat.le_refl _) (.cells #[.bool (decide (Z2 < 0)), .slice A2 (digs Z2.natAbs).length c2, .bool false, .slice B2 (digs D2).length k2] 30) |>.mono hb2.size)
  obtain ⟨U2, hU2⟩ : ∃ U2, U2 = W2.alloc (.cells #[.bool (decide (Z2 < 0)), .slice A2 (digs Z2.natAbs).length c2, .bool false, .slice B2 (digs D2).length k2] 30) := ⟨_, rfl⟩
  rw [← hU2] at F2 h2 ⊢
  generalize W2.heap.size = g2 at *
  have F1' := H1.out.2.after h2
  have H2 := Lib.hid (And.intro (H1.out.1.trans (h2.mono H1.out.1.size)) (And.intro F1' F2))
  have p0 := F1'.c0
  have p1 := F1'.c1
  have p2 := F1'.c2
  have p3 := F1'.c3
  have q0 := F2.c0
  have q1 := F2.c1
  have q2 := F2.c2
  have q3 := F2.c3
  clear hU2 F2 F1' h2 R2 S2 hb2 H1
  go_wp2_with fail
  clear p0 p1 p2 p3 q0 q1 q2 q3
  refine (addFrac_any U2 _ _ Z1 Z2 D1 D2 H2.out.2.1.frac H2.out.2.2.frac (by rw [HZ1.out.1, HZ1.out.2]; exact fine_12) (by rw [HZ2.out.1, HZ2.out.2]; exact fine_13) (hT.below H2.out.1)).mono ?_
  rintro _ W3 hF
  have he : Z1 * (D2 : Int) + Z2 * (D1 : Int) = 5 ∧ D1 * D2 = 6 := by rw [HZ1.out.1, HZ1.out.2, HZ2.out.1, HZ2.out.2]; exact ⟨sum_56.1, sum_56.2.1⟩
  rw [he.1, he.2] at hF
  obtain ⟨A3, c3, B3, k3, Z3, D3, rfl, R3, S3, hb3, HZ3⟩ := low_open hF sum_56.2.2.1 sum_56.2.2.2.1 sum_56.2.2.2.2
  clear hF he
  go_upto_region 4 with fail
  have F3 := fat_new R3 S3
  have h3 := hb3.trans ((Below.refl W3.heap.size W3).alloc (Nat.le_refl _) (.cells #[.bool (decide (Z3 < 0)), .slice A3 (digs Z3.natAbs).length c3, .bool false, .slice B3 (digs D3).length k3] 30) |>.mono hb3.size)
  obtain ⟨U3, hU3⟩ : ∃ U3, U3 = W3.alloc (.cells #[.bool (decide (Z3 < 0)), .slice A3 (digs Z3.natAbs).length c3, .bool false, .slice B3 (digs D3).length k3] 30) := ⟨_, rfl⟩
  rw [← hU3] at F3 h3 ⊢
  generalize W3.heap.size = g3 at *
  have H3 := Lib.hid (And.intro (H2.out.1.trans (h3.mono H2.out.1.size)) F3)
  clear hU3 F3 h3 R3 S3 hb3 H2
  go_wp2_with fail
  refine (fromInt_any U3 (-7) (by decide) (by decide)).mono ?_
  rintro _ V1 ⟨v1, rfl, hI1, hb4⟩
  go_wp2_with fail
  refine (fromInt_any V1 2 (by decide) (by decide)).mono ?_
  rintro _ V2 ⟨v2, rfl, hI2, hb5⟩
  go_wp2_with fail
  refine (divBig_any V2 v1 v2 (-7) 2 (hI1.below hb5) hI2 (by decide) (by decide)).mono ?_
  rintro _ V3 hF
  obtain ⟨A4, c4, A5, c5, Q, R0, rfl, R4, R5, hb6, HQ⟩ := div_open hF (by decide)
  clear hF
  have hb7 : Below U3.heap.size U3 V3 := hb4.trans ((hb5.trans (hb6.mono hb5.size)).mono hb4.size)
  clear hb4 hb5 hb6 hI1 hI2
  go_upto_region 5 with fail
  have B4 := bat_new R4
  have R5' := (R5.below ((Below.refl V3.heap.size V3).alloc (Nat.le_refl _) (.cells #[.bool (decide (Q < 0)), .slice A4 (digs Q.natAbs).length c4] 28))).more (by simp : V3.heap.size ≤ (V3.alloc (.cells #[.bool (decide (Q < 0)), .slice A4 (digs Q.natAbs).length c4] 28)).heap.size)
  have B5 := bat_new R5'
  have hbq := (Below.refl V3.heap.size V3).alloc (Nat.le_refl _) (.cells #[.bool (decide (Q < 0)), .slice A4 (digs Q.natAbs).length c4] 28)
  have hbr := (Below.refl (V3.alloc (.cells #[.bool (decide (Q < 0)), .slice A4 (digs Q.natAbs).length c4] 28)).heap.size _).alloc (Nat.le_refl _) (.cells #[.bool (decide (R0 < 0)), .slice A5 (digs R0.natAbs).length c5] 28)
  have B4' := B4.after hbr
  have hsz : (V3.alloc (.cells #[.bool (decide (Q < 0)), .slice A4 (digs Q.natAbs).length c4] 28)).heap.size = V3.heap.size + 1 := by simp
  have h4 := hb7.trans ((hbq.trans (hbr.mono hbq.size)).mono hb7.size)
  rw [hsz] at B5
  obtain ⟨U4, hU4⟩ : ∃ U4, U4 = (V3.alloc (.cells #[.bool (decide (Q < 0)), .slice A4 (digs Q.natAbs).length c4] 28)).alloc (.cells #[.bool (decide (R0 < 0)), .slice A5 (digs R0.natAbs).length c5] 28) := ⟨_, rfl⟩
  rw [← hU4] at B4' B5 h4 ⊢
  generalize V3.heap.size = g4 at *
  have H4 := Lib.hid (And.intro (H3.out.1.trans (h4.mono H3.out.1.size)) (And.intro (H3.out.2.after h4) (And.intro B4' B5)))
  clear hU4 B4 B4' B5 h4 hbq hbr hsz R4 R5 R5' hb7 H3
  go_wp2_with fail
  refine (decimal_any U4 _ (hT.below H4.out.1)).mono ?_
  rintro _ W5 hF
  obtain ⟨A6, c6, B6, k6, Z6, D6, o, rfl, R6, S6, hb8, HD⟩ := dec_open hF
  clear hF
  obtain ⟨ho, hz6⟩ := dec_example HD.out
  subst ho
  have HZ6 := Lib.hid hz6
  clear hz6 HD
  go_upto_region 6 with fail
  have F6 := fat_new R6 S6
  have h6 := hb8.trans ((Below.refl W5.heap.size W5).alloc (Nat.le_refl _) (.cells #[.bool (decide (Z6 < 0)), .slice A6 (digs Z6.natAbs).length c6, .bool false, .slice B6 (digs D6).length k6] 30) |>.mono hb8.size)
  obtain ⟨U5, hU5⟩ : ∃ U5, U5 = W5.alloc (.cells #[.bool (decide (Z6 < 0)), .slice A6 (digs Z6.natAbs).length c6, .bool false, .slice B6 (digs D6).length k6] 30) := ⟨_, rfl⟩
  rw [← hU5] at F6 h6 ⊢
  generalize W5.heap.size = g6 at *
  have F3' := H4.out.2.1.after h6
  have B4' := H4.out.2.2.1.after h6
  have B5' := H4.out.2.2.2.after h6
  have H5 := Lib.hid (And.intro (H4.out.1.trans (h6.mono H4.out.1.size)) (And.intro F3' (And.intro B4' (And.intro B5' F6))))
  have p0 := F3'.c0
  have p1 := F3'.c1
  have p2 := F3'.c2
  have p3 := F3'.c3
  clear hU5 F6 h6 R6 S6 hb8 H4 F3' B4' B5'
  go_wp2_with fail
  clear p0 p1 p2 p3
  refine (text_any U5 _ Z3 D3 H5.out.2.1.frac (by rw [HZ3.out.1, HZ3.out.2]; exact fine_56) (hT.below H5.out.1) (hP.below H5.out.1)).mono ?_
  rintro _ U6 ⟨rfl, hb9⟩
  rw [show ba (textOf Z3 D3) = ⟨#[53, 47, 54]⟩ by rw [HZ3.out.1, HZ3.out.2]; exact text_56]
  have B4' := H5.out.2.2.1.after hb9
  have q0 := B4'.c0
  have q1 := B4'.c1
  have H6 := Lib.hid (And.intro (H5.out.1.trans (hb9.mono H5.out.1.size)) (And.intro B4' (And.intro (H5.out.2.2.2.1.after hb9) (H5.out.2.2.2.2.after hb9))))
  clear hb9 H5 B4'
  go_wp2_with fail
  clear q0 q1
  refine (textBig_any U6 _ Q H6.out.2.1.big (by rw [HQ.out.1]; decide) (hP.below H6.out.1)).mono ?_
  rintro _ U7 ⟨rfl, hb10⟩
  rw [show ba (Lib.itoa Q) = ⟨#[45, 51]⟩ by rw [HQ.out.1]; exact text_3]
  have B5' := H6.out.2.2.1.after hb10
  have q0 := B5'.c0
  have q1 := B5'.c1
  have H7 := Lib.hid (And.intro (H6.out.1.trans (hb10.mono H6.out.1.size)) (And.intro B5' (H6.out.2.2.2.after hb10)))
  clear hb10 H6 B5'
  go_wp2_with fail
  clear q0 q1
  refine (textBig_any U7 _ R0 H7.out.2.1.big (by rw [HQ.out.2]; decide) (hP.below H7.out.1)).mono ?_
  rintro _ U8 ⟨rfl, hb11⟩
  rw [show ba (Lib.itoa R0) = ⟨#[45, 49]⟩ by rw [HQ.out.2]; exact text_1]
  have F6' := H7.out.2.2.after hb11
  have p0 := F6'.c0
  have p1 := F6'.c1
  have p2 := F6'.c2
  have p3 := F6'.c3
  have H8 := Lib.hid (And.intro (H7.out.1.trans (hb11.mono H7.out.1.size)) F6')
  clear hb11 H7 F6'
  go_wp2_with fail
  clear p0 p1 p2 p3
  refine (text_any U8 _ Z6 D6 H8.out.2.frac (by rw [HZ6.out.1, HZ6.out.2]; exact fine_252) (hT.below H8.out.1) (hP.below H8.out.1)).mono ?_
  rintro _ U9 ⟨rfl, hb12⟩
  rw [show ba (textOf Z6 D6) = ⟨#[45, 50, 53, 47, 50]⟩ by rw [HZ6.out.1, HZ6.out.2]; exact text_252]
  have H9 := Lib.hid (H8.out.1.trans (hb12.mono H8.out.1.size))
  clear hb12 H8
  go_wp2_with fail
  go_ret
  exact ⟨rfl, H9.out⟩

end Go.Proofs.YtbeidpeoichakaaGreatDoor.hg
