/- fraction: SubBig. -/
import Derived.Test.YtfnfnagdecpobaaDoorGa
set_option linter.unusedSimpArgs false
namespace Go.Proofs.YtfnfnagdecpobaaDoor.gf
open Go.RowKit Go.Proofs.YtfnfnagdecpobaaDoor.fm Go.Proofs.YtfnfnagdecpobaaDoor.mem Go.Proofs.YtfnfnagdecpobaaDoor.fu Go.Proofs.YtfnfnagdecpobaaDoor.fv Go.Proofs.YtfnfnagdecpobaaDoor.fw Go.Proofs.YtfnfnagdecpobaaDoor.fx Go.Proofs.YtfnfnagdecpobaaDoor.fy Go.Proofs.YtfnfnagdecpobaaDoor.ga

theorem limited_open {w : World} {z : Int} {e : Ending} {w' : World} (h : Limited w z e w') : ∃ (A : Option Addr) (c : Nat) (Z1 k1 : Int), e = .returned (.tuple #[.agg #[.bool (decide (Z1 < 0)), .slice A (digs Z1.natAbs).length c], .int .i64 k1]) ∧ Rd w' w'.heap.size A c (digs Z1.natAbs) ∧ Below w.heap.size w w' ∧ Hid (k1 = lerr z ∧ Z1 = lim z) := by
  obtain ⟨v, rfl, ⟨A, c, rfl, R⟩, hb⟩ := h
  exact ⟨A, c, _, _, rfl, R, hb, Lib.hid ⟨rfl, rfl⟩⟩

set_option maxRecDepth 100000 in
set_option maxHeartbeats 4000000 in
theorem subBig_any (w : World) (a b : Value) (x y : Int) (ha : IsBig w a x) (hb : IsBig w b y) (hl : (digs x.natAbs).length ≤ 256) (hl' : (digs y.natAbs).length ≤ 256) :
    Calls Tryd.prog 15 #[a, b] w (Limited w (x - y)) := by
  obtain ⟨A, c, rfl, R⟩ := ha
  obtain ⟨A', c', rfl, R'⟩ := hb
  go_enter Tryd.func15, Tryd.ntmps15
  have hB := boxes_made w (decide (x < 0)) (decide (y < 0)) (.slice A (digs x.natAbs).length c) (.slice A' (digs y.natAbs).length c')
  obtain ⟨W, hW⟩ : ∃ W, W = (((w.alloc (.cells #[.bool (decide (x < 0)), .slice A (digs x.natAbs).length c] 28)).alloc (.cells #[.bool (decide (y < 0)), .slice A' (digs y.natAbs).length c'] 28)).alloc (.cells #[.bool false, .slice none 0 0] 28)) := ⟨_, rfl⟩
  have hsz : W.heap.size = w.heap.size + 1 + 1 + 1 := by rw [hW]; simp
  rw [← hW] at hB
  have HB := Lib.hid (And.intro hB hsz)
  clear hB hsz
  go_wp2_with fail
  rw [← hW]
  clear hW
  refine (valid2 (W.alloc _) (w.heap.size + 1 + 1 + 1) 2 x y A A' c c' 28 (0, 0) (by rw [← HB.out.2]; exact heap_alloc_new W _) ?_ ?_ hl hl').mono ?_
  · exact ((HB.out.1.rd R).below ((Below.refl _ _).alloc (Nat.le_refl _) _)).more (by simp)
  · exact ((HB.out.1.rd R').below ((Below.refl _ _).alloc (Nat.le_refl _) _)).more (by simp)
  rintro _ W1 ⟨rfl, hb1⟩
  have hB1 := HB.out.1.after (((Below.refl _ _).alloc (Nat.le_refl _) _).trans (hb1.mono (by simp)))
  have a0 := hB1.a0
  have a1 := hB1.a1
  have b0 := hB1.b0
  have b1 := hB1.b1
  have H1 := Lib.hid hB1
  have H1d := Lib.hid hB1.drew
  obtain ⟨Y, hY⟩ : ∃ Y, Y = -y := ⟨_, rfl⟩
  obtain ⟨Z, hZ⟩ : ∃ Z, Z = x - y := ⟨_, rfl⟩
  have HY := Lib.hid (And.intro hY (And.intro hZ (show x + Y = Z by omega)))
  have hYl : (digs Y.natAbs).length ≤ 256 := by rw [hY, Int.natAbs_neg]; exact hl'
  clear hB1 hb1 HB hY hZ
  go_wp2_with fail
  go_region_held3 (fun w' => w'.cell? ⟨w.heap.size, 0, none⟩ = some (.bool (decide (x < 0))) ∧ w'.cell? ⟨w.heap.size, 1, none⟩ = some (.slice A (digs x.natAbs).length c) ∧ w'.cell? ⟨w.heap.size + 1, 0, none⟩ = some (.bool (decide (y < 0))) ∧ w'.cell? ⟨w.heap.size + 1, 1, none⟩ = some (.slice A' (digs y.natAbs).length c'))
    (first | with_reducible exact H1.out.held4 | with_reducible exact H1d.out.held4 | with_reducible exact H2.out.held4 | with_reducible exact H3.out.held4 | with_reducible exact H4.out.held4 | (obtain ⟨q1, q2, q3, q4⟩ := H4.out.held4; refine ⟨?_, ?_, ?_, ?_⟩ <;> simp [go_sem, q1, q2, q3, q4]))
    (first
      | (have hI3b := hI3; go_at_call 49; refine (limited_any W3 v3 Z hI3b).mono ?_; rintro _ W4 hL
         obtain ⟨A4, c4, Z1, k1, rfl, R4, hb4, hk⟩ := limited_open hL
         have h4 := H3.out.after hb4
         have H4 := Lib.hid h4
         obtain ⟨r0, r1, f0, f1⟩ := boxes_last h4
         clear hL hb4 h4)
      | (have hI2b := hI2; go_at_call 50; refine (sum_any W2 _ v2 x Y ⟨A, c, rfl, H2.out.rd R⟩ hI2b (by omega) (by omega)).mono ?_; rintro _ W3 ⟨v3, rfl, hI3, hb3⟩
         rw [HY.out.2.2] at hI3
         have H3 := Lib.hid (H2.out.after hb3)
         clear hb3 hI2 hI2b)
      | (go_at_call 53; refine (negated_any W1.drew _ y ⟨A', c', rfl, H1d.out.rd R'⟩).mono ?_; rintro _ W2 ⟨v2, rfl, hI2, hb2⟩
         rw [← HY.out.1] at hI2
         have H2 := Lib.hid (H1d.out.after hb2)
         clear hb2))
  obtain ⟨e1, e2, e3, e4⟩ := H4.out.filled R4
  have HC := Lib.hid (And.intro e3 e4)
  have HE := Lib.hid (And.intro e1 e2)
  clear e1 e2 e3 e4 R4 R R' H1 H1d H2 H3 H4 a0 a1 b0 b1 hl hl' hYl
  go_wp2
  (try simp only [Exit.inBlock, Exit.then])
  refine bodyPost_ret (results_big2 rfl _ _ (w.heap.size + 1 + 1) rfl HC.out.1 HC.out.2) rfl ?_
  have hk1 := hk.out
  rw [HY.out.2.1] at hk1
  obtain ⟨k2, k3⟩ := hk1
  subst k2 k3
  exact ⟨_, rfl, HE.out.1, HE.out.2⟩

end Go.Proofs.YtfnfnagdecpobaaDoor.gf
