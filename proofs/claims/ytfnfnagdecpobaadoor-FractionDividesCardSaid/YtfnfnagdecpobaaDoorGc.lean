/- fraction: Make. -/
import Derived.Test.YtfnfnagdecpobaaDoorGb
set_option linter.unusedSimpArgs false
namespace Go.Proofs.YtfnfnagdecpobaaDoor.gc
open Go.RowKit Go.Proofs.YtfnfnagdecpobaaDoor.fm Go.Proofs.YtfnfnagdecpobaaDoor.mem Go.Proofs.YtfnfnagdecpobaaDoor.fa Go.Proofs.YtfnfnagdecpobaaDoor.fb Go.Proofs.YtfnfnagdecpobaaDoor.fd Go.Proofs.YtfnfnagdecpobaaDoor.fj Go.Proofs.YtfnfnagdecpobaaDoor.fq Go.Proofs.YtfnfnagdecpobaaDoor.fr Go.Proofs.YtfnfnagdecpobaaDoor.ft Go.Proofs.YtfnfnagdecpobaaDoor.fu Go.Proofs.YtfnfnagdecpobaaDoor.fv Go.Proofs.YtfnfnagdecpobaaDoor.fw Go.Proofs.YtfnfnagdecpobaaDoor.fx Go.Proofs.YtfnfnagdecpobaaDoor.fy Go.Proofs.YtfnfnagdecpobaaDoor.fz Go.Proofs.YtfnfnagdecpobaaDoor.gb

theorem frac_open {w : World} {N : Int} {D : Nat} {e : Ending} {w' : World} (h : Frac w N D e w') : ∃ (A : Option Addr) (c : Nat) (A' : Option Addr) (c' : Nat) (Z1 : Int) (D1 : Nat) (k1 : Int),
    e = .returned (.tuple #[.agg #[.bool (decide (Z1 < 0)), .slice A (digs Z1.natAbs).length c, .bool false, .slice A' (digs D1).length c'], .int .i64 k1]) ∧ Rd w' w'.heap.size A c (digs Z1.natAbs) ∧ Rd w' w'.heap.size A' c' (digs D1) ∧ Below w.heap.size w w' ∧
    Hid (k1 = (if fits N D = true then 0 else 3) ∧ Z1 = (if fits N D = true then N else 0) ∧ D1 = (if fits N D = true then D else 0)) := by
  obtain ⟨v, rfl, ⟨A, c, A', c', rfl, R, R'⟩, hb⟩ := h
  exact ⟨A, c, A', c', _, _, _, rfl, R, R', hb, Lib.hid ⟨rfl, rfl, rfl⟩⟩

theorem frac_shut {w : World} {N : Int} {D : Nat} {w' : World} {v : Value} {Z1 : Int} {D1 : Nat} {k1 : Int} (h : Hid (k1 = (if fits N D = true then 0 else 3) ∧ Z1 = (if fits N D = true then N else 0) ∧ D1 = (if fits N D = true then D else 0)))
    (hv : IsFrac w' v Z1 D1) (hb : Below w.heap.size w w') : Frac w N D (.returned (.tuple #[v, .int .i64 k1])) w' := by
  obtain ⟨h1, h2, h3⟩ := h.out
  subst h1 h2 h3
  exact ⟨v, rfl, hv, hb⟩

/-- Two big integers and a fraction in boxes of their own. -/
structure FBoxes (w W : World) (n n' : Bool) (s s' : Value) : Prop where
  F : FBox w W (w.heap.size + 1 + 1)
  a0 : W.cell? ⟨w.heap.size, 0, none⟩ = some (.bool n)
  a1 : W.cell? ⟨w.heap.size, 1, none⟩ = some s
  b0 : W.cell? ⟨w.heap.size + 1, 0, none⟩ = some (.bool n')
  b1 : W.cell? ⟨w.heap.size + 1, 1, none⟩ = some s'

theorem FBoxes.after {w W w' : World} {n n' : Bool} {s s' : Value} (B : FBoxes w W n n' s s') (h : Below W.heap.size W w') : FBoxes w w' n n' s s' := by
  have hs := B.F.size
  refine ⟨B.F.after h, ?_, ?_, ?_, ?_⟩
  · exact (h.cell (by show w.heap.size < _; omega)).trans B.a0
  · exact (h.cell (by show w.heap.size < _; omega)).trans B.a1
  · exact (h.cell (by show w.heap.size + 1 < _; omega)).trans B.b0
  · exact (h.cell (by show w.heap.size + 1 < _; omega)).trans B.b1

theorem fboxes_made (w : World) (n n' : Bool) (s s' : Value) :
    FBoxes w (((w.alloc (.cells #[.bool n, s] 28)).alloc (.cells #[.bool n', s'] 28)).alloc (.cells #[.bool false, .slice none 0 0, .bool false, .slice none 0 0] 50)) n n' s s' := by
  refine ⟨⟨(((Below.refl _ _).alloc (Nat.le_refl _) _).alloc (by simp) _).alloc (by simp; omega) _, by omega, by simp, ?_, ?_, ?_, ?_, ?_⟩, ?_, ?_, ?_, ?_⟩
  all_goals first | (intro k; simp [go_sem]) | simp [go_sem]

theorem FBoxes.rd {w W : World} {n n' : Bool} {s s' : Value} (B : FBoxes w W n n' s s') {A : Option Addr} {c : Nat} {l : List Nat} (R : Rd w w.heap.size A c l) : Rd W W.heap.size A c l := (R.below B.F.bel).more B.F.bel.size

theorem FBoxes.held {w W : World} {n n' : Bool} {s s' : Value} (B : FBoxes w W n n' s s') : W.cell? ⟨w.heap.size, 0, none⟩ = some (.bool n) ∧ W.cell? ⟨w.heap.size, 1, none⟩ = some s ∧ W.cell? ⟨w.heap.size + 1, 0, none⟩ = some (.bool n') ∧ W.cell? ⟨w.heap.size + 1, 1, none⟩ = some s' := ⟨B.a0, B.a1, B.b0, B.b1⟩

/-- The sign of a quotient on the number. -/
def turned (x y : Int) : Int := sgnd (decide (x < 0) != decide (y < 0)) x.natAbs

set_option maxRecDepth 100000 in
set_option maxHeartbeats 8000000 in
theorem make_any (w : World) (a b : Value) (x y : Int) (ha : IsBig w a x) (hb : IsBig w b y) (hl : (digs x.natAbs).length ≤ 256) (hl' : (digs y.natAbs).length ≤ 256) (hy : y ≠ 0) (hT : Tabs w) :
    Calls Tryd.prog 82 #[a, b] w (Low w (turned x y) y.natAbs) := by
  obtain ⟨A, c, rfl, R⟩ := ha
  obtain ⟨A', c', rfl, R'⟩ := hb
  go_enter Tryd.func82, Tryd.ntmps82
  have hB := fboxes_made w (decide (x < 0)) (decide (y < 0)) (.slice A (digs x.natAbs).length c) (.slice A' (digs y.natAbs).length c')
  obtain ⟨W, hW⟩ : ∃ W, W = (((w.alloc (.cells #[.bool (decide (x < 0)), .slice A (digs x.natAbs).length c] 28)).alloc (.cells #[.bool (decide (y < 0)), .slice A' (digs y.natAbs).length c'] 28)).alloc (.cells #[.bool false, .slice none 0 0, .bool false, .slice none 0 0] 50)) := ⟨_, rfl⟩
  have hsz : W.heap.size = w.heap.size + 1 + 1 + 1 := by rw [hW]; simp
  rw [← hW] at hB
  have HB := Lib.hid (And.intro hB hsz)
  have HY := Lib.hid hy
  have hz : ¬ (digs y.natAbs).length = 0 := fun e => hy (by have := digs_len_zero.1 e; omega)
  have z1 : (((digs y.natAbs).length : Int) == 0) = false := beq_eq_false_iff_ne.2 (by omega)
  clear hB hsz hy hz
  go_wp2_with fail
  rw [← hW]
  clear hW
  refine (valid2 (W.alloc _) (w.heap.size + 1 + 1 + 1) 2 x y A A' c c' 28 (0, 0) (by rw [← HB.out.2]; exact heap_alloc_new W _) ?_ ?_ hl hl').mono ?_
  · exact ((HB.out.1.rd R).below ((Below.refl _ _).alloc (Nat.le_refl _) _)).more (by simp)
  · exact ((HB.out.1.rd R').below ((Below.refl _ _).alloc (Nat.le_refl _) _)).more (by simp)
  rintro _ W1 ⟨rfl, hb1⟩
  have hB1 := HB.out.1.after (((Below.refl _ _).alloc (Nat.le_refl _) _).trans (hb1.mono (by simp)))
  have a0 := hB1.a0
  have a1 := hB1.a1
  have b0 := hB1.b0
  have b1 := hB1.b1
  have H1 := Lib.hid hB1
  have H1d := Lib.hid (hB1.after (Below.refl _ _).drew)
  clear hB1 hb1 HB
  go_wp2_with fail
  go_region_held3 (fun w' => w'.cell? ⟨w.heap.size, 0, none⟩ = some (.bool (decide (x < 0))) ∧ w'.cell? ⟨w.heap.size, 1, none⟩ = some (.slice A (digs x.natAbs).length c) ∧ w'.cell? ⟨w.heap.size + 1, 0, none⟩ = some (.bool (decide (y < 0))) ∧ w'.cell? ⟨w.heap.size + 1, 1, none⟩ = some (.slice A' (digs y.natAbs).length c'))
    (first | with_reducible exact H1.out.held | with_reducible exact H1d.out.held | with_reducible exact H2.out.held | with_reducible exact H3.out.held | with_reducible exact H4.out.held | with_reducible exact H5.out.held | (obtain ⟨q1, q2, q3, q4⟩ := H5.out.held; refine ⟨?_, ?_, ?_, ?_⟩ <;> simp [go_sem, q1, q2, q3, q4]))
    (first
      | (have R4b := R4; go_at_call 72; refine (lowest_any W4 _ Z0 y.natAbs A4 c4 ⟨A3, c3, rfl, R3⟩ R4b (by have := HY.out; omega) (by rw [HZ.out.2]; omega) (by omega) (hT.below H4.out.F.bel)).mono ?_
         rintro _ W5 hF
         obtain ⟨A5, c5, A6, c6, Z1, D1, k1, rfl, R5, R6, hb5, hk⟩ := frac_open hF
         have S5 := H4.out.after hb5
         have H5 := Lib.hid S5
         have r0 := S5.F.r0
         have r1 := S5.F.r1
         have r2 := S5.F.r2
         have r3 := S5.F.r3
         have f0 := S5.F.fr 0
         have f1 := S5.F.fr 1
         have f2 := S5.F.fr 2
         have f3 := S5.F.fr 3
         clear hF hb5 S5)
      | (have hI3b := hI3; go_at_call 79; refine (clone_any W3 A' c' (digs y.natAbs) (H3.out.rd R') (by omega)).mono ?_; rintro _ W4 ⟨v4, rfl, hO4, hb4⟩
         obtain ⟨A4, c4, rfl, R4⟩ := own_rd hO4 (ok_digs _)
         have H4 := Lib.hid (H3.out.after hb4)
         obtain ⟨A3, c3, rfl, R3⟩ := hI3.below hb4
         clear hO4 hb4 hI3 hI3b)
      | (have R2b := R2; go_at_call 60; refine (big_any W2 (decide (x < 0) != decide (y < 0)) A2 c2 x.natAbs R2).mono ?_; rintro _ W3 ⟨v3, rfl, hI3, hb3⟩
         obtain ⟨Z0, hZ0⟩ : ∃ Z0, turned x y = Z0 := ⟨_, rfl⟩
         rw [show sgnd (decide (x < 0) != decide (y < 0)) x.natAbs = Z0 from hZ0] at hI3
         have HZ := Lib.hid (And.intro hZ0 (show Z0.natAbs = x.natAbs by rw [← hZ0]; exact sgnd_abs _ _))
         have H3 := Lib.hid (H2.out.after hb3)
         clear hb3 hZ0 R2b)
      | (go_at_call 79; refine (clone_any W1.drew A c (digs x.natAbs) (H1d.out.rd R) (by omega)).mono ?_; rintro _ W2 ⟨v2, rfl, hO2, hb2⟩
         obtain ⟨A2, c2, rfl, R2⟩ := own_rd hO2 (ok_digs _)
         have H2 := Lib.hid (H1d.out.after hb2)
         clear hO2 hb2))
  obtain ⟨e, d0, d1, d2, d3⟩ := H5.out.F.filled R5 R6 _ rfl
  have HE := Lib.hid (And.intro e (And.intro d0 (And.intro d1 (And.intro d2 d3))))
  clear e d0 d1 d2 d3 R5 R6 R2 R3 R4 R4b R R' H1 H1d H2 H3 H4 H5 a0 a1 b0 b1 z1 hl hl'
  go_wp2
  (try simp only [Exit.inBlock, Exit.then])
  refine bodyPost_ret (results_frac rfl _ _ (w.heap.size + 1 + 1) rfl HE.out.2.1 HE.out.2.2.1 HE.out.2.2.2.1 HE.out.2.2.2.2) rfl ?_
  unfold Low
  rw [HZ.out.1]
  exact frac_shut hk HE.out.1.1 HE.out.1.2

theorem fbox_made (w : World) : FBox w (w.alloc (.cells #[.bool false, .slice none 0 0, .bool false, .slice none 0 0] 50)) w.heap.size := by
  refine ⟨(Below.refl _ _).alloc (Nat.le_refl _) _, Nat.le_refl _, by simp, ?_, ?_, ?_, ?_, ?_⟩
  all_goals first | (intro k; simp [go_sem]) | simp [go_sem]

theorem int_len {n : Int} (h1 : -9223372036854775808 ≤ n) (h2 : n < 9223372036854775808) : (digs n.natAbs).length ≤ 2 := (lt_len_iff _ 2).2 (by omega)

set_option maxRecDepth 100000 in
set_option maxHeartbeats 4000000 in
theorem of_any (w : World) (x y : Int) (h1 : -9223372036854775808 ≤ x) (h2 : x < 9223372036854775808) (h3 : -9223372036854775808 ≤ y) (h4 : y < 9223372036854775808) (hy : y ≠ 0) (hT : Tabs w) :
    Calls Tryd.prog 45 #[.int .i64 x, .int .i64 y] w (Low w (turned x y) y.natAbs) := by
  go_enter Tryd.func45, Tryd.ntmps45
  have HB := Lib.hid (fbox_made w)
  have HH := Lib.hid (And.intro (And.intro h1 h2) (And.intro h3 (And.intro h4 hy)))
  clear h1 h2 h3 h4 hy
  go_wp2_with fail
  refine (fromInt_any _ x HH.out.1.1 HH.out.1.2).mono ?_
  rintro _ W1 ⟨v1, rfl, hI1, hb1⟩
  have H1 := Lib.hid (And.intro hI1 (HB.out.after hb1))
  clear hI1 hb1
  go_wp2_with fail
  refine (fromInt_any W1 y HH.out.2.1 HH.out.2.2.1).mono ?_
  rintro _ W2 ⟨v2, rfl, hI2, hb2⟩
  have H2 := Lib.hid (And.intro (H1.out.1.below hb2) (And.intro hI2 (H1.out.2.after hb2)))
  clear hI2 hb2
  go_wp2_with fail
  refine (make_any W2 v1 v2 x y H2.out.1 H2.out.2.1 (Nat.le_trans (int_len HH.out.1.1 HH.out.1.2) (by decide)) (Nat.le_trans (int_len HH.out.2.1 HH.out.2.2.1) (by decide)) HH.out.2.2.2 (hT.below H2.out.2.2.bel)).mono ?_
  rintro _ W5 hF
  obtain ⟨A5, c5, A6, c6, Z1, D1, k1, rfl, R5, R6, hb5, hk⟩ := frac_open hF
  have S5 := H2.out.2.2.after hb5
  obtain ⟨e, d0, d1, d2, d3⟩ := S5.filled R5 R6 _ rfl
  have HE := Lib.hid (And.intro e (And.intro d0 (And.intro d1 (And.intro d2 d3))))
  have r0 := S5.r0
  have r1 := S5.r1
  have r2 := S5.r2
  have r3 := S5.r3
  have f0 := S5.fr 0
  have f1 := S5.fr 1
  have f2 := S5.fr 2
  have f3 := S5.fr 3
  clear hF hb5 S5 e d0 d1 d2 d3 R5 R6 H1 H2 HB
  go_wp2
  (try simp only [Exit.inBlock, Exit.then])
  refine bodyPost_ret (results_frac rfl _ _ w.heap.size rfl HE.out.2.1 HE.out.2.2.1 HE.out.2.2.2.1 HE.out.2.2.2.2) rfl ?_
  exact frac_shut hk HE.out.1.1 HE.out.1.2

end Go.Proofs.YtfnfnagdecpobaaDoor.gc
