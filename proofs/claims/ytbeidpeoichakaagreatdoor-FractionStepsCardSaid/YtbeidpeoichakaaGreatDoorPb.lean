/- The reference: Plus, Minus, Times. -/
import Derived.Test.YtbeidpeoichakaaGreatDoorPa
set_option linter.unusedSimpArgs false
namespace Go.Proofs.YtbeidpeoichakaaGreatDoor.pb
open Go.RowKit Go.Proofs.YtbeidpeoichakaaGreatDoor.fm Go.Proofs.YtbeidpeoichakaaGreatDoor.mem Go.Proofs.YtbeidpeoichakaaGreatDoor.fa Go.Proofs.YtbeidpeoichakaaGreatDoor.fb Go.Proofs.YtbeidpeoichakaaGreatDoor.fu Go.Proofs.YtbeidpeoichakaaGreatDoor.fv Go.Proofs.YtbeidpeoichakaaGreatDoor.fw Go.Proofs.YtbeidpeoichakaaGreatDoor.fy Go.Proofs.YtbeidpeoichakaaGreatDoor.ga Go.Proofs.YtbeidpeoichakaaGreatDoor.gg Go.Proofs.YtbeidpeoichakaaGreatDoor.ja Go.Proofs.YtbeidpeoichakaaGreatDoor.jb Go.Proofs.YtbeidpeoichakaaGreatDoor.pa

theorem Boxes.swop {w W : World} {n n' : Bool} {s s' : Value} (B : Boxes w W n n' s s') : W.cell? ⟨w.heap.size + 1, 0, none⟩ = some (.bool n') ∧ W.cell? ⟨w.heap.size + 1, 1, none⟩ = some s' ∧ W.cell? ⟨w.heap.size, 1, none⟩ = some s := ⟨B.b0, B.b1, B.a1⟩

theorem sgnd_sub' {x y : Int} (hne : ¬ decide (x < 0) = decide (y < 0)) (hle : y.natAbs ≤ x.natAbs) : sgnd (decide (x < 0)) (x.natAbs - y.natAbs) = x + y := by
  have := sgnd_sub (x := x) (y := y) rfl rfl hne hle
  rwa [val_digs, val_digs] at this

theorem sgnd_add' {x y : Int} (h : decide (x < 0) = decide (y < 0)) : sgnd (decide (x < 0)) (x.natAbs + y.natAbs) = x + y := by
  have := sgnd_add (x := x) (y := y) rfl h.symm
  rwa [val_digs, val_digs] at this

set_option maxRecDepth 100000 in
set_option maxHeartbeats 4000000 in
theorem rplus_any (L : Nat) (w : World) (a b : Value) (x y : Int) (ha : IsBig w a x) (hb : IsBig w b y) (hl : (digs x.natAbs).length ≤ L) (hl' : (digs y.natAbs).length ≤ L) (hL : L ≤ 1000000) :
    Calls Tryz.prog 46 #[a, b] w fun e w' => ∃ v, e = .returned v ∧ IsBig w' v (x + y) ∧ Below w.heap.size w w' := by
  obtain ⟨A, c, rfl, R⟩ := ha
  obtain ⟨A', c', rfl, R'⟩ := hb
  go_enter Tryz.func46, Tryz.ntmps46
  have hB := boxes_made w (decide (x < 0)) (decide (y < 0)) (.slice A (digs x.natAbs).length c) (.slice A' (digs y.natAbs).length c')
  obtain ⟨W, hW⟩ : ∃ W, W = (((w.alloc (.cells #[.bool (decide (x < 0)), .slice A (digs x.natAbs).length c] 28)).alloc (.cells #[.bool (decide (y < 0)), .slice A' (digs y.natAbs).length c'] 28)).alloc (.cells #[.bool false, .slice none 0 0] 28)) := ⟨_, rfl⟩
  rw [← hW] at hB
  have HB := Lib.hid hB
  have HW := Lib.hid hB.drew
  have HL := Lib.hid (And.intro hl (And.intro hl' hL))
  clear hl hl' hL
  by_cases hs : decide (x < 0) = decide (y < 0)
  · have zs : (decide (x < 0) == decide (y < 0)) = true := beq_iff_eq.2 hs
    have HS := Lib.hid hs
    have a0 := hB.a0
    have a1 := hB.a1
    have b0 := hB.b0
    have b1 := hB.b1
    clear hB hs
    generalize hneg : decide (x < 0) = n at *
    generalize hneg' : decide (y < 0) = n' at *
    have HN := Lib.hid (And.intro hneg hneg')
    clear hneg hneg'
    go_upto_region 2 with fail
    rw [← hW]
    clear hW zs b0
    go_region_held3 (fun w' => w'.cell? ⟨w.heap.size, 0, none⟩ = some (.bool (n)) ∧ w'.cell? ⟨w.heap.size, 1, none⟩ = some (.slice A (digs x.natAbs).length c) ∧ w'.cell? ⟨w.heap.size + 1, 1, none⟩ = some (.slice A' (digs y.natAbs).length c')) (first | with_reducible exact HB.out.held | with_reducible exact HW.out.held | with_reducible exact H1.out.held | with_reducible exact H2.out.held | (obtain ⟨q1, q2, q3⟩ := H2.out.held; refine ⟨?_, ?_, ?_⟩ <;> simp [go_sem, q1, q2, q3]))
      (first
        | (have R1b := R1; go_at_call 36; refine (rbig_any w1 (n) A1 c1 l1 R1b (by have := Hl.out.2; omega)).mono ?_; rintro _ w2 ⟨v2, rfl, hI, hb2⟩
           rw [Hl.out.1] at hI
           have h2 := H1.out.after hb2
           have H2 := Lib.hid h2
           have r0 := h2.r0
           have r1 := h2.r1
           have f0 := h2.fr (w.heap.size + 1 + 1) 0 (by omega) (by omega)
           have f1 := h2.fr (w.heap.size + 1 + 1) 1 (by omega) (by omega)
           obtain ⟨A2, c2, rfl, R2⟩ := hI
           clear h2 hb2 R1b)
        | (go_at_call 73; refine (radd_any W.drew A A' c c' x.natAbs y.natAbs L (HW.out.rd R) (HW.out.rd R') HL.out.1 HL.out.2.1 HL.out.2.2).mono ?_; rintro _ w1 ⟨A1, c1, l1, rfl, hv1, hn1, R1, hb1⟩
           have H1 := Lib.hid (HW.out.after hb1)
           have Hl := Lib.hid (And.intro (show sgnd n (val l1) = x + y by rw [hv1, ← HN.out.1]; exact sgnd_add' (by rw [HN.out.1, HN.out.2]; exact HS.out)) (show l1.length ≤ 1000001 from Nat.le_trans hn1 (Nat.add_le_add_right HL.out.2.2 1)))
           clear hb1 hv1 hn1))
    obtain ⟨e1, e2, e3, e4⟩ := H2.out.filled R2
    have HC := Lib.hid (And.intro e3 e4)
    have HE := Lib.hid (And.intro e1 e2)
    clear e1 e2 e3 e4 R2 R1
    go_wp2
    (try simp only [Exit.inBlock, Exit.then])
    refine bodyPost_ret (results_big rfl _ _ (w.heap.size + 1 + 1) rfl HC.out.1 HC.out.2) rfl ?_
    exact ⟨_, rfl, HE.out.1, HE.out.2⟩
  · have zs : (decide (x < 0) == decide (y < 0)) = false := beq_eq_false_iff_ne.2 hs
    have HS := Lib.hid hs
    have a0 := hB.a0
    have a1 := hB.a1
    have b0 := hB.b0
    have b1 := hB.b1
    clear hB hs HW
    generalize hneg : decide (x < 0) = n at *
    generalize hneg' : decide (y < 0) = n' at *
    have HN := Lib.hid (And.intro hneg hneg')
    clear hneg hneg'
    go_upto_region 3 with fail
    rw [← hW]
    clear hW zs
    go_wp2_with fail
    refine (rcmp_any W _ A A' c c' x.natAbs y.natAbs (HB.out.rd R) (HB.out.rd R') (by have := HL.out; omega) (by have := HL.out; omega)).mono ?_
    rintro _ _ ⟨rfl, k, rfl⟩
    have hB2 : Boxes w (W.drewN k) n n' (.slice A (digs x.natAbs).length c) (.slice A' (digs y.natAbs).length c') := HB.out.after ⟨rfl, rfl, rfl, Nat.le_refl _, fun _ _ => rfl⟩
    generalize W.drewN k = W3 at *
    clear HB a0 a1 b0 b1
    have HB3 := Lib.hid hB2
    have HW3 := Lib.hid hB2.drew
    by_cases hle : y.natAbs ≤ x.natAbs
    · have hc : (0 : Int) ≤ fb.cmp x.natAbs y.natAbs := by unfold fb.cmp; rw [if_neg (by omega)]; split <;> omega
      have Hle := Lib.hid hle
      have a0 := hB2.a0
      have a1 := hB2.a1
      have b1 := hB2.b1
      generalize fb.cmp x.natAbs y.natAbs = cv at *
      clear hB2 hle
      go_wp2_with fail
      go_region_held3 (fun w' => w'.cell? ⟨w.heap.size, 0, none⟩ = some (.bool (n)) ∧ w'.cell? ⟨w.heap.size, 1, none⟩ = some (.slice A (digs x.natAbs).length c) ∧ w'.cell? ⟨w.heap.size + 1, 1, none⟩ = some (.slice A' (digs y.natAbs).length c')) (first | with_reducible exact HB3.out.held | with_reducible exact HW3.out.held | with_reducible exact H1.out.held | with_reducible exact H2.out.held | (obtain ⟨q1, q2, q3⟩ := H2.out.held; refine ⟨?_, ?_, ?_⟩ <;> simp [go_sem, q1, q2, q3]))
        (first
          | (have R1b := R1; go_at_call 36; refine (rbig_any w1 (n) A1 c1 l1 R1b (by have := Hl.out.2; omega)).mono ?_; rintro _ w2 ⟨v2, rfl, hI, hb2⟩
             rw [Hl.out.1] at hI
             have h2 := H1.out.after hb2
             have H2 := Lib.hid h2
             have r0 := h2.r0
             have r1 := h2.r1
             have f0 := h2.fr (w.heap.size + 1 + 1) 0 (by omega) (by omega)
             have f1 := h2.fr (w.heap.size + 1 + 1) 1 (by omega) (by omega)
             obtain ⟨A2, c2, rfl, R2⟩ := hI
             clear h2 hb2 R1b)
          | (go_at_call 74; refine (rsub_any W3.drew A A' c c' x.natAbs y.natAbs (HW3.out.rd R) (HW3.out.rd R') Hle.out (Nat.le_trans HL.out.1 HL.out.2.2)).mono ?_; rintro _ w1 ⟨A1, c1, rfl, R1, hb1, _⟩
             have H1 := Lib.hid (HW3.out.after hb1)
             have hd1 := Lib.hid (show (digs (x.natAbs - y.natAbs)).length ≤ 1000000 from Nat.le_trans (len_mono (Nat.sub_le _ _)) (Nat.le_trans HL.out.1 HL.out.2.2))
             obtain ⟨l1, hl1⟩ : ∃ l1, l1 = digs (x.natAbs - y.natAbs) := ⟨_, rfl⟩
             rw [← hl1] at R1 ⊢
             have Hl := Lib.hid (And.intro (show sgnd n (val l1) = x + y by rw [hl1, val_digs]; exact (by rw [← HN.out.1]; exact sgnd_sub' (by rw [HN.out.1, HN.out.2]; exact HS.out) Hle.out)) (show l1.length ≤ 1000001 by rw [hl1]; exact Nat.le_succ_of_le hd1.out))
             clear hb1 hl1 hd1))
      obtain ⟨e1, e2, e3, e4⟩ := H2.out.filled R2
      have HC := Lib.hid (And.intro e3 e4)
      have HE := Lib.hid (And.intro e1 e2)
      clear e1 e2 e3 e4 R2 R1
      go_wp2
      (try simp only [Exit.inBlock, Exit.then])
      refine bodyPost_ret (results_big rfl _ _ (w.heap.size + 1 + 1) rfl HC.out.1 HC.out.2) rfl ?_
      exact ⟨_, rfl, HE.out.1, HE.out.2⟩
    · have hc : fb.cmp x.natAbs y.natAbs < 0 := by unfold fb.cmp; rw [if_pos (by omega)]; omega
      have Hle := Lib.hid (show x.natAbs ≤ y.natAbs by omega)
      have a1 := hB2.a1
      have b0 := hB2.b0
      have b1 := hB2.b1
      generalize fb.cmp x.natAbs y.natAbs = cv at *
      clear hB2 hle
      go_wp2_with fail
      go_region_held3 (fun w' => w'.cell? ⟨w.heap.size + 1, 0, none⟩ = some (.bool (n')) ∧ w'.cell? ⟨w.heap.size + 1, 1, none⟩ = some (.slice A' (digs y.natAbs).length c') ∧ w'.cell? ⟨w.heap.size, 1, none⟩ = some (.slice A (digs x.natAbs).length c)) (first | with_reducible exact (Boxes.swop HB3.out) | with_reducible exact (Boxes.swop HW3.out) | with_reducible exact (Boxes.swop H1.out) | with_reducible exact (Boxes.swop H2.out) | (obtain ⟨q1, q2, q3⟩ := (Boxes.swop H2.out); refine ⟨?_, ?_, ?_⟩ <;> simp [go_sem, q1, q2, q3]))
        (first
          | (have R1b := R1; go_at_call 36; refine (rbig_any w1 (n') A1 c1 l1 R1b (by have := Hl.out.2; omega)).mono ?_; rintro _ w2 ⟨v2, rfl, hI, hb2⟩
             rw [Hl.out.1] at hI
             have h2 := H1.out.after hb2
             have H2 := Lib.hid h2
             have r0 := h2.r0
             have r1 := h2.r1
             have f0 := h2.fr (w.heap.size + 1 + 1) 0 (by omega) (by omega)
             have f1 := h2.fr (w.heap.size + 1 + 1) 1 (by omega) (by omega)
             obtain ⟨A2, c2, rfl, R2⟩ := hI
             clear h2 hb2 R1b)
          | (go_at_call 74; refine (rsub_any W3.drew A' A c' c y.natAbs x.natAbs (HW3.out.rd R') (HW3.out.rd R) Hle.out (Nat.le_trans HL.out.2.1 HL.out.2.2)).mono ?_; rintro _ w1 ⟨A1, c1, rfl, R1, hb1, _⟩
             have H1 := Lib.hid (HW3.out.after hb1)
             have hd1 := Lib.hid (show (digs (y.natAbs - x.natAbs)).length ≤ 1000000 from Nat.le_trans (len_mono (Nat.sub_le _ _)) (Nat.le_trans HL.out.2.1 HL.out.2.2))
             obtain ⟨l1, hl1⟩ : ∃ l1, l1 = digs (y.natAbs - x.natAbs) := ⟨_, rfl⟩
             rw [← hl1] at R1 ⊢
             have Hl := Lib.hid (And.intro (show sgnd n' (val l1) = x + y by rw [hl1, val_digs]; exact (by rw [← HN.out.2, Int.add_comm]; exact sgnd_sub' (by rw [HN.out.1, HN.out.2]; exact fun e => HS.out e.symm) Hle.out)) (show l1.length ≤ 1000001 by rw [hl1]; exact Nat.le_succ_of_le hd1.out))
             clear hb1 hl1 hd1))
      obtain ⟨e1, e2, e3, e4⟩ := H2.out.filled R2
      have HC := Lib.hid (And.intro e3 e4)
      have HE := Lib.hid (And.intro e1 e2)
      clear e1 e2 e3 e4 R2 R1
      go_wp2
      (try simp only [Exit.inBlock, Exit.then])
      refine bodyPost_ret (results_big rfl _ _ (w.heap.size + 1 + 1) rfl HC.out.1 HC.out.2) rfl ?_
      exact ⟨_, rfl, HE.out.1, HE.out.2⟩

set_option maxRecDepth 100000 in
set_option maxHeartbeats 4000000 in
theorem rtimes_any (L : Nat) (w : World) (a b : Value) (x y : Int) (ha : IsBig w a x) (hb : IsBig w b y) (hl : (digs x.natAbs).length ≤ L) (hl' : (digs y.natAbs).length ≤ L) (hL : L ≤ 1000000) :
    Calls Tryz.prog 9 #[a, b] w fun e w' => ∃ v, e = .returned v ∧ IsBig w' v (x * y) ∧ Below w.heap.size w w' := by
  obtain ⟨A, c, rfl, R⟩ := ha
  obtain ⟨A', c', rfl, R'⟩ := hb
  go_enter Tryz.func9, Tryz.ntmps9
  have hB := boxes_made w (decide (x < 0)) (decide (y < 0)) (.slice A (digs x.natAbs).length c) (.slice A' (digs y.natAbs).length c')
  obtain ⟨W, hW⟩ : ∃ W, W = (((w.alloc (.cells #[.bool (decide (x < 0)), .slice A (digs x.natAbs).length c] 28)).alloc (.cells #[.bool (decide (y < 0)), .slice A' (digs y.natAbs).length c'] 28)).alloc (.cells #[.bool false, .slice none 0 0] 28)) := ⟨_, rfl⟩
  rw [← hW] at hB
  have HB := Lib.hid hB
  have HW := Lib.hid hB.drew
  have HL := Lib.hid (And.intro hl (And.intro hl' hL))
  clear hl hl' hL
  · have a0 := hB.a0
    have a1 := hB.a1
    have b0 := hB.b0
    have b1 := hB.b1
    clear hB
    generalize hneg : decide (x < 0) = n at *
    generalize hneg' : decide (y < 0) = n' at *
    have HN := Lib.hid (And.intro hneg hneg')
    clear hneg hneg'
    go_upto_region 1 with fail
    rw [← hW]
    clear hW
    go_region_held3 (fun w' => w'.cell? ⟨w.heap.size, 0, none⟩ = some (.bool (n)) ∧ w'.cell? ⟨w.heap.size, 1, none⟩ = some (.slice A (digs x.natAbs).length c) ∧ w'.cell? ⟨w.heap.size + 1, 0, none⟩ = some (.bool (n')) ∧ w'.cell? ⟨w.heap.size + 1, 1, none⟩ = some (.slice A' (digs y.natAbs).length c')) (first | with_reducible exact HB.out.held4 | with_reducible exact HW.out.held4 | with_reducible exact H1.out.held4 | with_reducible exact H2.out.held4 | (obtain ⟨q1, q2, q3, q4⟩ := H2.out.held4; refine ⟨?_, ?_, ?_, ?_⟩ <;> simp [go_sem, q1, q2, q3, q4]))
      (first
        | (have R1b := R1; go_at_call 36; refine (rbig_any w1 (n != n') A1 c1 l1 R1b (by have := Hl.out.2; omega)).mono ?_; rintro _ w2 ⟨v2, rfl, hI, hb2⟩
           rw [Hl.out.1] at hI
           have h2 := H1.out.after hb2
           have H2 := Lib.hid h2
           have r0 := h2.r0
           have r1 := h2.r1
           have f0 := h2.fr (w.heap.size + 1 + 1) 0 (by omega) (by omega)
           have f1 := h2.fr (w.heap.size + 1 + 1) 1 (by omega) (by omega)
           obtain ⟨A2, c2, rfl, R2⟩ := hI
           clear h2 hb2 R1b)
        | (go_at_call 37; refine (rmul_any W.drew A A' c c' (digs x.natAbs) (digs y.natAbs) (HW.out.rd R) (HW.out.rd R') (Nat.le_trans HL.out.1 HL.out.2.2) (Nat.le_trans HL.out.2.1 HL.out.2.2)).mono ?_; rintro _ w1 ⟨A1, c1, rfl, R1, hb1, _⟩
           have H1 := Lib.hid (HW.out.after hb1)
           have hd1 : (digs (val (digs x.natAbs) * val (digs y.natAbs))).length ≤ 2000001 := by
             rw [val_digs, val_digs]
             have h1 := len_mul L L (x := x) (y := y) HL.out.1 HL.out.2.1
             rw [Int.natAbs_mul] at h1
             have := HL.out.2.2
             omega
           obtain ⟨l1, hl1⟩ : ∃ l1, l1 = digs (val (digs x.natAbs) * val (digs y.natAbs)) := ⟨_, rfl⟩
           rw [← hl1] at R1 ⊢
           have Hl := Lib.hid (And.intro (show sgnd (n != n') (val l1) = x * y by rw [hl1, val_digs]; exact sgnd_mul HN.out.1 HN.out.2) (show l1.length ≤ 2000001 by rw [hl1]; exact hd1))
           clear hb1 hl1 hd1))
    obtain ⟨e1, e2, e3, e4⟩ := H2.out.filled R2
    have HC := Lib.hid (And.intro e3 e4)
    have HE := Lib.hid (And.intro e1 e2)
    clear e1 e2 e3 e4 R2 R1
    go_wp2
    (try simp only [Exit.inBlock, Exit.then])
    refine bodyPost_ret (results_big rfl _ _ (w.heap.size + 1 + 1) rfl HC.out.1 HC.out.2) rfl ?_
    exact ⟨_, rfl, HE.out.1, HE.out.2⟩

/-- A result's box behind one parameter's. -/
structure NegBox (w W : World) : Prop where
  bel : Below w.heap.size w W
  size : w.heap.size + 2 ≤ W.heap.size
  r0 : W.cell? ⟨w.heap.size + 1, 0, none⟩ = some (.bool false)
  r1 : W.cell? ⟨w.heap.size + 1, 1, none⟩ = some (.slice none 0 0)
  fr : ∀ k, W.frozen? ⟨w.heap.size + 1, k, none⟩ = false

theorem NegBox.after {w W W' : World} (B : NegBox w W) (h : Below W.heap.size W W') : NegBox w W' := by
  have hs := B.size
  exact ⟨B.bel.trans (h.mono B.bel.size), Nat.le_trans hs h.size, (h.cell (by show w.heap.size + 1 < _; omega)).trans B.r0, (h.cell (by show w.heap.size + 1 < _; omega)).trans B.r1, fun k => (below_frozen h (by show w.heap.size + 1 < _; omega)).trans (B.fr k)⟩

theorem NegBox.filled {w W : World} (B : NegBox w W) {z : Int} {A : Option Addr} {c : Nat} (R : Rd W W.heap.size A c (digs z.natAbs)) :
    IsBig ((W.setCell ⟨w.heap.size + 1, 0, none⟩ (.bool (decide (z < 0)))).setCell ⟨w.heap.size + 1, 1, none⟩ (.slice A (digs z.natAbs).length c)) (.agg #[.bool (decide (z < 0)), .slice A (digs z.natAbs).length c]) z ∧
    Below w.heap.size w ((W.setCell ⟨w.heap.size + 1, 0, none⟩ (.bool (decide (z < 0)))).setCell ⟨w.heap.size + 1, 1, none⟩ (.slice A (digs z.natAbs).length c)) ∧
    ((W.setCell ⟨w.heap.size + 1, 0, none⟩ (.bool (decide (z < 0)))).setCell ⟨w.heap.size + 1, 1, none⟩ (.slice A (digs z.natAbs).length c)).cell? ⟨w.heap.size + 1, 0, none⟩ = some (.bool (decide (z < 0))) ∧
    ((W.setCell ⟨w.heap.size + 1, 0, none⟩ (.bool (decide (z < 0)))).setCell ⟨w.heap.size + 1, 1, none⟩ (.slice A (digs z.natAbs).length c)).cell? ⟨w.heap.size + 1, 1, none⟩ = some (.slice A (digs z.natAbs).length c) := by
  have hb1 := B.bel.setCell (show w.heap.size ≤ (⟨w.heap.size + 1, 0, none⟩ : Addr).block from by show w.heap.size ≤ w.heap.size + 1; omega) (.bool (decide (z < 0)))
  have hb2 := hb1.setCell (show w.heap.size ≤ (⟨w.heap.size + 1, 1, none⟩ : Addr).block from by show w.heap.size ≤ w.heap.size + 1; omega) (.slice A (digs z.natAbs).length c)
  refine ⟨⟨A, c, rfl, ?_⟩, hb2, ?_, ?_⟩
  rotate_left
  · exact (World.cell?_setCell_other _ _ _ _ (by intro h; cases h)).trans (World.cell?_setCell_same W _ _ B.r0)
  · exact World.cell?_setCell_same _ _ _ ((World.cell?_setCell_other W _ _ _ (by intro h; cases h)).trans B.r1)
  have R1 := fv.Rd.stored (v := .bool (decide (z < 0))) R B.r0 (by intro k h; cases h)
  have r1 : (W.setCell ⟨w.heap.size + 1, 0, none⟩ (.bool (decide (z < 0)))).cell? ⟨w.heap.size + 1, 1, none⟩ = some (.slice none 0 0) := (World.cell?_setCell_other W _ _ _ (by intro h; cases h)).trans B.r1
  have R2 := fv.Rd.stored (v := .slice A (digs z.natAbs).length c) R1 r1 (by intro k h; cases h)
  simpa using R2

set_option maxRecDepth 100000 in
set_option maxHeartbeats 1000000 in
theorem rminus_any (w : World) (a : Value) (x : Int) (ha : IsBig w a x) (hl : (digs x.natAbs).length ≤ 1000000) :
    Calls Tryz.prog 49 #[a] w fun e w' => ∃ v, e = .returned v ∧ IsBig w' v (-x) ∧ Below w.heap.size w w' := by
  obtain ⟨A, c, rfl, R⟩ := ha
  obtain ⟨X, hX⟩ : ∃ X, -x = X := ⟨_, rfl⟩
  rw [hX]
  go_enter Tryz.func49, Tryz.ntmps49
  have hb2 : Below w.heap.size w ((w.alloc (.cells #[.bool (decide (x < 0)), .slice A (digs x.natAbs).length c] 28)).alloc (.cells #[.bool false, .slice none 0 0] 28)) := ((Below.refl _ _).alloc (Nat.le_refl _) _).alloc (by simp) _
  have hN : NegBox w ((w.alloc (.cells #[.bool (decide (x < 0)), .slice A (digs x.natAbs).length c] 28)).alloc (.cells #[.bool false, .slice none 0 0] 28)) := by
    refine ⟨hb2, by simp, ?_, ?_, ?_⟩
    · simp [go_sem]
    · simp [go_sem]
    · intro k; simp [go_sem]
  generalize hneg : decide (x < 0) = n at *
  obtain ⟨W, hW⟩ : ∃ W, W = ((w.alloc (.cells #[.bool n, .slice A (digs x.natAbs).length c] 28)).alloc (.cells #[.bool false, .slice none 0 0] 28)) := ⟨_, rfl⟩
  rw [← hW] at hN hb2
  have HN := Lib.hid (And.intro hN hneg)
  have hs : sgnd (!n) (val (digs x.natAbs)) = X := by rw [val_digs, ← hneg, ← hX]; exact sgnd_not
  have HS := Lib.hid hs
  clear hN hneg hs hX
  go_wp2_with fail
  rw [← hW]
  clear hW
  refine (rbig_any W (!n) A c (digs x.natAbs) ((R.below hb2).more hb2.size) (by omega)).mono ?_
  rintro _ w2 ⟨v2, rfl, hI, hb3⟩
  rw [HS.out] at hI
  have h2 := HN.out.1.after hb3
  have H2 := Lib.hid h2
  have r0 := h2.r0
  have r1 := h2.r1
  have f0 := h2.fr 0
  have f1 := h2.fr 1
  obtain ⟨A2, c2, rfl, R2⟩ := hI
  clear h2 hb3 hb2
  obtain ⟨e1, e2, e3, e4⟩ := H2.out.filled R2
  have HC := Lib.hid (And.intro e3 e4)
  have HE := Lib.hid (And.intro e1 e2)
  clear e1 e2 e3 e4 R2
  go_wp2
  (try simp only [Exit.inBlock, Exit.then])
  refine bodyPost_ret (results_big rfl _ _ (w.heap.size + 1) rfl HC.out.1 HC.out.2) rfl ?_
  exact ⟨_, rfl, HE.out.1, HE.out.2⟩

end Go.Proofs.YtbeidpeoichakaaGreatDoor.pb
