/- fraction: Make. -/
import Derived.Test.YtbeidpeoichakaaGreatDoorGa
set_option linter.unusedSimpArgs false
namespace Go.Proofs.YtbeidpeoichakaaGreatDoor.gc
open Go.RowKit Go.Proofs.YtbeidpeoichakaaGreatDoor.fm Go.Proofs.YtbeidpeoichakaaGreatDoor.mem Go.Proofs.YtbeidpeoichakaaGreatDoor.fa Go.Proofs.YtbeidpeoichakaaGreatDoor.fb Go.Proofs.YtbeidpeoichakaaGreatDoor.fd Go.Proofs.YtbeidpeoichakaaGreatDoor.fj Go.Proofs.YtbeidpeoichakaaGreatDoor.fq Go.Proofs.YtbeidpeoichakaaGreatDoor.fr Go.Proofs.YtbeidpeoichakaaGreatDoor.ft Go.Proofs.YtbeidpeoichakaaGreatDoor.fu Go.Proofs.YtbeidpeoichakaaGreatDoor.fv Go.Proofs.YtbeidpeoichakaaGreatDoor.fw Go.Proofs.YtbeidpeoichakaaGreatDoor.fx Go.Proofs.YtbeidpeoichakaaGreatDoor.fy Go.Proofs.YtbeidpeoichakaaGreatDoor.fz Go.Proofs.YtbeidpeoichakaaGreatDoor.gb

theorem frac_open {w : World} {N : Int} {D : Nat} {e : Ending} {w' : World} (h : Frac w N D e w') : ∃ (A : Option Addr) (c : Nat) (A' : Option Addr) (c' : Nat) (Z1 : Int) (D1 : Nat) (k1 : Int),
    e = .returned (.tuple #[.agg #[.bool (decide (Z1 < 0)), .slice A (digs Z1.natAbs).length c, .bool false, .slice A' (digs D1).length c'], .int .i64 k1]) ∧ Rd w' w'.heap.size A c (digs Z1.natAbs) ∧ Rd w' w'.heap.size A' c' (digs D1) ∧ Below w.heap.size w w' ∧
    Hid (k1 = (if fits N D = true then 0 else 3) ∧ Z1 = (if fits N D = true then N else 0) ∧ D1 = (if fits N D = true then D else 0)) := by
  obtain ⟨v, rfl, ⟨A, c, A', c', rfl, R, R'⟩, hb⟩ := h
  exact ⟨A, c, A', c', _, _, _, rfl, R, R', hb, Lib.hid ⟨rfl, rfl, rfl⟩⟩

theorem frac_shut {w : World} {N : Int} {D : Nat} {w' : World} {v : Value} {Z1 : Int} {D1 : Nat} {k1 : Int} (h : Hid (k1 = (if fits N D = true then 0 else 3) ∧ Z1 = (if fits N D = true then N else 0) ∧ D1 = (if fits N D = true then D else 0)))
    (hv : IsFrac w' v Z1 D1) (hb : Below w.heap.size w w') : Frac w N D (.returned (.tuple #[v, .int .i64 k1])) w' := by
  obtain ⟨h1, h2, h3⟩ := h.out
  subst h1 h2 h3
  exact ⟨v, rfl, hv, hb⟩

/-- Two big integers and a fraction in boxes of their own. -/
structure FBoxes (w W : World) (n n' : Bool) (s s' : Value) : Prop where
  F : FBox w W (w.heap.size + 1 + 1)
  a0 : W.cell? ⟨w.heap.size, 0, none⟩ = some (.bool n)
  a1 : W.cell? ⟨w.heap.size, 1, none⟩ = some s
  b0 : W.cell? ⟨w.heap.size + 1, 0, none⟩ = some (.bool n')
  b1 : W.cell? ⟨w.heap.size + 1, 1, none⟩ = some s'

theorem FBoxes.after {w W w' : World} {n n' : Bool} {s s' : Value} (B : FBoxes w W n n' s s') (h : Below W.heap.size W w') : FBoxes w w' n n' s s' := by
  have hs := B.F.size
  refine ⟨B.F.after h, ?_, ?_, ?_, ?_⟩
  · exact (h.cell (by show w.heap.size < _; omega)).trans B.a0
  · exact (h.cell (by show w.heap.size < _; omega)).trans B.a1
  · exact (h.cell (by show w.heap.size + 1 < _; omega)).trans B.b0
  · exact (h.cell (by show w.heap.size + 1 < _; omega)).trans B.b1

theorem fboxes_made (w : World) (n n' : Bool) (s s' : Value) :
    FBoxes w (((w.alloc (.cells #[.bool n, s] 28)).alloc (.cells #[.bool n', s'] 28)).alloc (.cells #[.bool false, .slice none 0 0, .bool false, .slice none 0 0] 30)) n n' s s' := by
  refine ⟨⟨(((Below.refl _ _).alloc (Nat.le_refl _) _).alloc (by simp) _).alloc (by simp; omega) _, by omega, by simp, ?_, ?_, ?_, ?_, ?_⟩, ?_, ?_, ?_, ?_⟩
  all_goals first | (intro k; simp [go_sem]) | simp [go_sem]

theorem FBoxes.rd {w W : World} {n n' : Bool} {s s' : Value} (B : FBoxes w W n n' s s') {A : Option Addr} {c : Nat} {l : List Nat} (R : Rd w w.heap.size A c l) : Rd W W.heap.size A c l := (R.below B.F.bel).more B.F.bel.size

theorem FBoxes.held {w W : World} {n n' : Bool} {s s' : Value} (B : FBoxes w W n n' s s') : W.cell? ⟨w.heap.size, 0, none⟩ = some (.bool n) ∧ W.cell? ⟨w.heap.size, 1, none⟩ = some s ∧ W.cell? ⟨w.heap.size + 1, 0, none⟩ = some (.bool n') ∧ W.cell? ⟨w.heap.size + 1, 1, none⟩ = some s' := ⟨B.a0, B.a1, B.b0, B.b1⟩

/-- The sign of a quotient on the number. -/
def turned (x y : Int) : Int := sgnd (decide (x < 0) != decide (y < 0)) x.natAbs

set_option maxRecDepth 100000 in
set_option maxHeartbeats 8000000 in
theorem make_any (w : World) (a b : Value) (x y : Int) (ha : IsBig w a x) (hb : IsBig w b y) (hl : (digs x.natAbs).length ≤ 256) (hl' : (digs y.natAbs).length ≤ 256) (hy : y ≠ 0) (hT : Tabs w) :
    Calls Tryz.prog 28 #[a, b] w (Low w (turned x y) y.natAbs) := by
  obtain ⟨A, c, rfl, R⟩ := ha
  obtain ⟨A', c', rfl, R'⟩ := hb
  go_enter Tryz.func28, Tryz.ntmps28
  have hB := fboxes_made w (decide (x < 0)) (decide (y < 0)) (.slice A (digs x.natAbs).length c) (.slice A' (digs y.natAbs).length c')
  obtain ⟨W, hW⟩ : ∃ W, W = (((w.alloc (.cells #[.bool (decide (x < 0)), .slice A (digs x.natAbs).length c] 28)).alloc (.cells #[.bool (decide (y < 0)), .slice A' (digs y.natAbs).length c'] 28)).alloc (.cells #[.bool false, .slice none 0 0, .bool false, .slice none 0 0] 30)) := ⟨_, rfl⟩
  have hsz : W.heap.size = w.heap.size + 1 + 1 + 1 := by rw [hW]; simp
  rw [← hW] at hB
  have HB := Lib.hid (And.intro hB hsz)
  have HY := Lib.hid hy
  have hz : ¬ (digs y.natAbs).length = 0 := fun e => hy (by have := digs_len_zero.1 e; omega)
  have z1 : (((digs y.natAbs).length : Int) == 0) = false := beq_eq_false_iff_ne.2 (by omega)
  clear hB hsz hy hz
  go_wp2_with fail
  rw [← hW]
  clear hW
  refine (valid2 (W.alloc _) (w.heap.size + 1 + 1 + 1) 2 x y A A' c c' 28 (0, 0) (by rw [← HB.out.2]; exact heap_alloc_new W _) ?_ ?_ hl hl').mono ?_
  · exact ((HB.out.1.rd R).below ((Below.refl _ _).alloc (Nat.le_refl _) _)).more (by simp)
  · exact ((HB.out.1.rd R').below ((Below.refl _ _).alloc (Nat.le_refl _) _)).more (by simp)
  rintro _ W1 ⟨rfl, hb1⟩
  have hB1 := HB.out.1.after (((Below.refl _ _).alloc (Nat.le_refl _) _).trans (hb1.mono (by simp)))
  have a0 := hB1.a0
  have a1 := hB1.a1
  have b0 := hB1.b0
  have b1 := hB1.b1
  have H1 := Lib.hid hB1
  have H1d := Lib.hid (hB1.after (Below.refl _ _).drew)
  clear hB1 hb1 HB
  go_wp2_with fail
  go_region_held3 (fun w' => w'.cell? ⟨w.heap.size, 0, none⟩ = some (.bool (decide (x < 0))) ∧ w'.cell? ⟨w.heap.size, 1, none⟩ = some (.slice A (digs x.natAbs).length c) ∧ w'.cell? ⟨w.heap.size + 1, 0, none⟩ = some (.bool (decide (y < 0))) ∧ w'.cell? ⟨w.heap.size + 1, 1, none⟩ = some (.slice A' (digs y.natAbs).length c'))
    (first | with_reducible exact H1.out.held | with_reducible exact H1d.out.held | with_reducible exact H2.out.held | with_reducible exact H3.out.held | with_reducible exact H4.out.held | with_reducible exact H5.out.held | (obtain ⟨q1, q2, q3, q4⟩ := H5.out.held; refine ⟨?_, ?_, ?_, ?_⟩ <;> simp [go_sem, q1, q2, q3, q4]))
    (first
      | (have R4b := R4; go_at_call 40; refine (lowest_any W4 _ Z0 y.natAbs A4 c4 ⟨A3, c3, rfl, R3⟩ R4b (by have := HY.out; omega) (by rw [HZ.out.2]; omega) (by omega) (hT.below H4.out.F.bel)).mono ?_
         rintro _ W5 hF
         obtain ⟨A5, c5, A6, c6, Z1, D1, k1, rfl, R5, R6, hb5, hk⟩ := frac_open hF
         have S5 := H4.out.after hb5
         have H5 := Lib.hid S5
         have r0 := S5.F.r0
         have r1 := S5.F.r1
         have r2 := S5.F.r2
         have r3 := S5.F.r3
         have f0 := S5.F.fr 0
         have f1 := S5.F.fr 1
         have f2 := S5.F.fr 2
         have f3 := S5.F.fr 3
         clear hF hb5 S5)
      | (have hI3b := hI3; go_at_call 42; refine (clone_any W3 A' c' (digs y.natAbs) (H3.out.rd R') (by omega)).mono ?_; rintro _ W4 ⟨v4, rfl, hO4, hb4⟩
         obtain ⟨A4, c4, rfl, R4⟩ := own_rd hO4 (ok_digs _)
         have H4 := Lib.hid (H3.out.after hb4)
         obtain ⟨A3, c3, rfl, R3⟩ := hI3.below hb4
         clear hO4 hb4 hI3 hI3b)
      | (have R2b := R2; go_at_call 50; refine (big_any W2 (decide (x < 0) != decide (y < 0)) A2 c2 x.natAbs R2).mono ?_; rintro _ W3 ⟨v3, rfl, hI3, hb3⟩
         obtain ⟨Z0, hZ0⟩ : ∃ Z0, turned x y = Z0 := ⟨_, rfl⟩
         rw [show sgnd (decide (x < 0) != decide (y < 0)) x.natAbs = Z0 from hZ0] at hI3
         have HZ := Lib.hid (And.intro hZ0 (show Z0.natAbs = x.natAbs by rw [← hZ0]; exact sgnd_abs _ _))
         have H3 := Lib.hid (H2.out.after hb3)
         clear hb3 hZ0 R2b)
      | (go_at_call 42; refine (clone_any W1.drew A c (digs x.natAbs) (H1d.out.rd R) (by omega)).mono ?_; rintro _ W2 ⟨v2, rfl, hO2, hb2⟩
         obtain ⟨A2, c2, rfl, R2⟩ := own_rd hO2 (ok_digs _)
         have H2 := Lib.hid (H1d.out.after hb2)
         clear hO2 hb2))
  obtain ⟨e, d0, d1, d2, d3⟩ := H5.out.F.filled R5 R6 _ rfl
  have HE := Lib.hid (And.intro e (And.intro d0 (And.intro d1 (And.intro d2 d3))))
  clear e d0 d1 d2 d3 R5 R6 R2 R3 R4 R4b R R' H1 H1d H2 H3 H4 H5 a0 a1 b0 b1 z1 hl hl'
  go_wp2
  (try simp only [Exit.inBlock, Exit.then])
  refine bodyPost_ret (results_frac rfl _ _ (w.heap.size + 1 + 1) rfl HE.out.2.1 HE.out.2.2.1 HE.out.2.2.2.1 HE.out.2.2.2.2) rfl ?_
  unfold Low
  rw [HZ.out.1]
  exact frac_shut hk HE.out.1.1 HE.out.1.2

theorem fbox_made (w : World) : FBox w (w.alloc (.cells #[.bool false, .slice none 0 0, .bool false, .slice none 0 0] 30)) w.heap.size := by
  refine ⟨(Below.refl _ _).alloc (Nat.le_refl _) _, Nat.le_refl _, by simp, ?_, ?_, ?_, ?_, ?_⟩
  all_goals first | (intro k; simp [go_sem]) | simp [go_sem]

theorem int_len {n : Int} (h1 : -9223372036854775808 ≤ n) (h2 : n < 9223372036854775808) : (digs n.natAbs).length ≤ 2 := (lt_len_iff _ 2).2 (by omega)

set_option maxRecDepth 100000 in
set_option maxHeartbeats 4000000 in
theorem of_any (w : World) (x y : Int) (h1 : -9223372036854775808 ≤ x) (h2 : x < 9223372036854775808) (h3 : -9223372036854775808 ≤ y) (h4 : y < 9223372036854775808) (hy : y ≠ 0) (hT : Tabs w) :
    Calls Tryz.prog 26 #[.int .i64 x, .int .i64 y] w (Low w (turned x y) y.natAbs) := by
  go_enter Tryz.func26, Tryz.ntmps26
  have HB := Lib.hid (fbox_made w)
  have HH := Lib.hid (And.intro (And.intro h1 h2) (And.intro h3 (And.intro h4 hy)))
  clear h1 h2 h3 h4 hy
  go_wp2_with fail
  refine (fromInt_any _ x HH.out.1.1 HH.out.1.2).mono ?_
  rintro _ W1 ⟨v1, rfl, hI1, hb1⟩
  have H1 := Lib.hid (And.intro hI1 (HB.out.after hb1))
  clear hI1 hb1
  go_wp2_with fail
  refine (fromInt_any W1 y HH.out.2.1 HH.out.2.2.1).mono ?_
  rintro _ W2 ⟨v2, rfl, hI2, hb2⟩
  have H2 := Lib.hid (And.intro (H1.out.1.below hb2) (And.intro hI2 (H1.out.2.after hb2)))
  clear hI2 hb2
  go_wp2_with fail
  refine (make_any W2 v1 v2 x y H2.out.1 H2.out.2.1 (Nat.le_trans (int_len HH.out.1.1 HH.out.1.2) (by decide)) (Nat.le_trans (int_len HH.out.2.1 HH.out.2.2.1) (by decide)) HH.out.2.2.2 (hT.below H2.out.2.2.bel)).mono ?_
  rintro _ W5 hF
  obtain ⟨A5, c5, A6, c6, Z1, D1, k1, rfl, R5, R6, hb5, hk⟩ := frac_open hF
  have S5 := H2.out.2.2.after hb5
  obtain ⟨e, d0, d1, d2, d3⟩ := S5.filled R5 R6 _ rfl
  have HE := Lib.hid (And.intro e (And.intro d0 (And.intro d1 (And.intro d2 d3))))
  have r0 := S5.r0
  have r1 := S5.r1
  have r2 := S5.r2
  have r3 := S5.r3
  have f0 := S5.fr 0
  have f1 := S5.fr 1
  have f2 := S5.fr 2
  have f3 := S5.fr 3
  clear hF hb5 S5 e d0 d1 d2 d3 R5 R6 H1 H2 HB
  go_wp2
  (try simp only [Exit.inBlock, Exit.then])
  refine bodyPost_ret (results_frac rfl _ _ w.heap.size rfl HE.out.2.1 HE.out.2.2.1 HE.out.2.2.2.1 HE.out.2.2.2.2) rfl ?_
  exact frac_shut hk HE.out.1.1 HE.out.1.2

end Go.Proofs.YtbeidpeoichakaaGreatDoor.gc

/- fraction: validAll, of fractions that are valid. -/
set_option linter.unusedSimpArgs false
namespace Go.Proofs.YtbeidpeoichakaaGreatDoor.gd
open Go.RowKit Go.Proofs.YtbeidpeoichakaaGreatDoor.fm Go.Proofs.YtbeidpeoichakaaGreatDoor.mem Go.Proofs.YtbeidpeoichakaaGreatDoor.fa Go.Proofs.YtbeidpeoichakaaGreatDoor.fb Go.Proofs.YtbeidpeoichakaaGreatDoor.fd Go.Proofs.YtbeidpeoichakaaGreatDoor.fj Go.Proofs.YtbeidpeoichakaaGreatDoor.fq Go.Proofs.YtbeidpeoichakaaGreatDoor.fr Go.Proofs.YtbeidpeoichakaaGreatDoor.ft Go.Proofs.YtbeidpeoichakaaGreatDoor.fu Go.Proofs.YtbeidpeoichakaaGreatDoor.fv Go.Proofs.YtbeidpeoichakaaGreatDoor.fw Go.Proofs.YtbeidpeoichakaaGreatDoor.fx Go.Proofs.YtbeidpeoichakaaGreatDoor.fy Go.Proofs.YtbeidpeoichakaaGreatDoor.fz Go.Proofs.YtbeidpeoichakaaGreatDoor.gb Go.Proofs.YtbeidpeoichakaaGreatDoor.gc

/-- A fraction in lowest terms, within the limits. -/
structure Fine (z : Int) (d : Nat) : Prop where
  hz : (digs z.natAbs).length ≤ 256
  hd : (digs d).length ≤ 256
  d0 : d ≠ 0
  low : Nat.gcd z.natAbs d = 1

/-- What lies at an entry of a row of fractions. -/
def FEnt (w : World) (B g k : Nat) (z : Int) (d : Nat) : Prop :=
  ∃ A c A' c', w.cell? ⟨g, k * 4, none⟩ = some (.bool (decide (z < 0))) ∧ w.cell? ⟨g, k * 4 + 1, none⟩ = some (.slice A (digs z.natAbs).length c) ∧ w.cell? ⟨g, k * 4 + 2, none⟩ = some (.bool false) ∧ w.cell? ⟨g, k * 4 + 3, none⟩ = some (.slice A' (digs d).length c') ∧
    Rd w B A c (digs z.natAbs) ∧ Rd w B A' c' (digs d)

theorem valid2d (W : World) (g cap : Nat) (x : Int) (d : Nat) (A A' : Option Addr) (c c' : Nat) (ty : TypeId) (fr : Nat × Nat)
    (hg : W.heap[g]? = some (.cells #[.bool (decide (x < 0)), .slice A (digs x.natAbs).length c, .bool false, .slice A' (digs d).length c'] ty fr))
    (R : Rd W W.heap.size A c (digs x.natAbs)) (R' : Rd W W.heap.size A' c' (digs d)) (hl : (digs x.natAbs).length ≤ 256) (hl' : (digs d).length ≤ 256) :
    Calls Tryz.prog 57 #[.slice (some ⟨g, 0, none⟩) 2 cap] W fun e w' => e = .returned (.bool true) ∧ Below W.heap.size W w' :=
  valid2 W g cap x (d : Int) A A' c c' ty fr (by rw [decide_eq_false (show ¬ (d : Int) < 0 by omega), Int.natAbs_natCast]; exact hg) R (by rw [Int.natAbs_natCast]; exact R') hl (by rw [Int.natAbs_natCast]; exact hl')

set_option maxRecDepth 100000 in
set_option maxHeartbeats 8000000 in
theorem validAll_any (w : World) (g cap : Nat) (es : List (Int × Nat)) (hg : g < w.heap.size) (hes : es.length ≤ 100) (h : ∀ k, (hk : k < es.length) → FEnt w w.heap.size g k es[k].1 es[k].2 ∧ Fine es[k].1 es[k].2) (hT : Tabs w) :
    Calls Tryz.prog 38 #[.slice (some ⟨g, 0, none⟩) es.length cap] w fun e w' => e = .returned (.bool true) ∧ Below w.heap.size w w' := by
  have H := Lib.hid h
  clear h
  go_enter Tryz.func38, Tryz.ntmps38
  go_wp2
  go_loopw [7] (fun i wr => ∃ k : Nat, k ≤ es.length ∧ i = .int .i64 k ∧ Below w.heap.size w wr) (fun i _ => es.length - (intOf i).toNat)
  case atStart => exact ⟨0, Nat.zero_le _, rfl, Below.refl _ _⟩
  case round =>
    obtain ⟨k, hk, rfl, hb⟩ := hrel
    have HB := Lib.hid hb
    clear hb
    by_cases hkx : k < es.length
    · obtain ⟨⟨A, c, A', c', c1, c2, c3, c4, R, R'⟩, hF⟩ := H.out k hkx
      have c1' := (HB.out.cell (p := ⟨g, k * 4, none⟩) hg).trans c1
      have c2' := (HB.out.cell (p := ⟨g, k * 4 + 1, none⟩) hg).trans c2
      have c3' := (HB.out.cell (p := ⟨g, k * 4 + 2, none⟩) hg).trans c3
      have c4' := (HB.out.cell (p := ⟨g, k * 4 + 3, none⟩) hg).trans c4
      generalize es[k].1 = z at *
      generalize es[k].2 = d at *
      clear c1 c2 c3 c4
      have HF := Lib.hid hF
      have hz1 : ¬ (digs d).length = 0 := fun e => hF.d0 (digs_len_zero.1 e)
      have z1 : (((digs d).length : Int) == 0) = false := beq_eq_false_iff_ne.2 (by omega)
      clear hz1 hF
      have lb := R.fit
      have lb' := R'.fit
      have hA := HB.out.alloc HB.out.size (.cells #[.bool (decide (z < 0)), .slice A (digs z.natAbs).length c, .bool false, .slice A' (digs d).length c'] 30)
      have HA := Lib.hid hA
      clear hA
      have RA := (R.below HA.out).more HA.out.size
      have RA' := (R'.below HA.out).more HA.out.size
      obtain ⟨Wa, hWa⟩ : ∃ Wa, Wa = wr.alloc (.cells #[.bool (decide (z < 0)), .slice A (digs z.natAbs).length c, .bool false, .slice A' (digs d).length c'] 30) := ⟨_, rfl⟩
      have hsz : Wa.heap.size = wr.heap.size + 1 := by rw [hWa]; simp
      have k0 : Wa.cell? ⟨wr.heap.size, 0, none⟩ = some (.bool (decide (z < 0))) := by rw [hWa]; simp [go_sem]
      have k1 : Wa.cell? ⟨wr.heap.size, 1, none⟩ = some (.slice A (digs z.natAbs).length c) := by rw [hWa]; simp [go_sem]
      have k2 : Wa.cell? ⟨wr.heap.size, 2, none⟩ = some (.bool false) := by rw [hWa]; simp [go_sem]
      have k3 : Wa.cell? ⟨wr.heap.size, 3, none⟩ = some (.slice A' (digs d).length c') := by rw [hWa]; simp [go_sem]
      rw [← hWa] at HA RA RA'
      have HC := Lib.hid (And.intro (And.intro RA RA') (And.intro hsz (And.intro k0 (And.intro k1 (And.intro k2 k3)))))
      clear RA RA' hsz k0 k1 k2 k3 R R'
      go_wp2_with fail
      rw [← hWa]
      clear hWa
      refine (valid2d (Wa.alloc _) (wr.heap.size + 1) 2 z d A A' c c' 28 (0, 0) (by rw [← HC.out.2.1]; exact heap_alloc_new Wa _) ?_ ?_ HF.out.hz HF.out.hd).mono ?_
      · exact (HC.out.1.1.below ((Below.refl _ _).alloc (Nat.le_refl _) _)).more (by simp)
      · exact (HC.out.1.2.below ((Below.refl _ _).alloc (Nat.le_refl _) _)).more (by simp)
      rintro _ W1 ⟨rfl, hb1⟩
      have hc : Below Wa.heap.size Wa W1 := ((Below.refl _ _).alloc (Nat.le_refl _) _).trans (hb1.mono (by simp))
      have hlt : wr.heap.size < Wa.heap.size := by have := HC.out.2.1; omega
      have k0 := (hc.cell (p := ⟨wr.heap.size, 0, none⟩) hlt).trans HC.out.2.2.1
      have k1 := (hc.cell (p := ⟨wr.heap.size, 1, none⟩) hlt).trans HC.out.2.2.2.1
      have k2 := (hc.cell (p := ⟨wr.heap.size, 2, none⟩) hlt).trans HC.out.2.2.2.2.1
      have k3 := (hc.cell (p := ⟨wr.heap.size, 3, none⟩) hlt).trans HC.out.2.2.2.2.2
      have R1 := (HC.out.1.1.below hc).more hc.size
      have R2 := (HC.out.1.2.below hc).more hc.size
      have H1 := Lib.hid (And.intro R1 (And.intro R2 (HA.out.trans (hc.mono HA.out.size))))
      clear hb1 hc hlt HC HA R1 R2 c1' c2' c3' c4'
      go_wp2_with fail
      refine (isOne_any W1 _ A' c' (digs d) H1.out.2.1 (by have := HF.out.hd; omega)).mono ?_
      rintro _ _ ⟨rfl, rfl⟩
      by_cases hd1 : digs d = [1]
      · rw [decide_eq_true hd1]
        clear hd1
        go_wp2_with fail
        exact ⟨⟨k + 1, by omega, by go_num, H1.out.2.2⟩, by simp [intOf]; omega⟩
      · rw [decide_eq_false hd1]
        have hz0 : ¬ (digs z.natAbs).length = 0 := fun e => by
          have e1 := digs_len_zero.1 e
          have e2 := HF.out.low
          rw [e1, Nat.gcd_zero_left] at e2
          exact hd1 (by rw [e2]; rfl)
        have z2 : (((digs z.natAbs).length : Int) == 0) = false := beq_eq_false_iff_ne.2 (by omega)
        have hzz : z.natAbs ≠ 0 := fun e => hz0 (digs_len_zero.2 e)
        have HZ := Lib.hid hzz
        clear hd1 hz0 hzz
        go_wp2_with fail
        refine (gcdWords_any W1 A A' c c' z.natAbs d H1.out.1 H1.out.2.1 (by have := HF.out.hz; omega) (by have := HF.out.hd; omega) HZ.out HF.out.d0 (hT.below H1.out.2.2)).mono ?_
        rintro _ W2 ⟨v2, rfl, hO, hb2⟩
        rw [HF.out.low] at hO
        obtain ⟨A2, c2, rfl, R2⟩ := own_rd hO (ok_digs _)
        have H2 := Lib.hid (H1.out.2.2.trans (hb2.mono H1.out.2.2.size))
        clear hO hb2
        go_wp2_with fail
        refine (isOne_any W2 _ A2 c2 (digs 1) R2 (by have := (lt_len_iff 1 1).2 (by decide); omega)).mono ?_
        rintro _ _ ⟨rfl, rfl⟩
        rw [decide_eq_true (show digs 1 = [1] by rfl)]
        clear R2
        go_wp2_with fail
        exact ⟨⟨k + 1, by omega, by go_num, H2.out⟩, by simp [intOf]; omega⟩
    · obtain rfl : k = es.length := by omega
      go_wp2_with fail
      go_returns
      exact ⟨rfl, HB.out⟩

end Go.Proofs.YtbeidpeoichakaaGreatDoor.gd
