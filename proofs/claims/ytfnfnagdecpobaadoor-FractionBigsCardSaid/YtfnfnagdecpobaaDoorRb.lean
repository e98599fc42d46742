/- The reference: ValidBig, short, AddBig, SubBig, MulBig, CmpBig: of big integers, and of what is none. -/
import Derived.Test.YtfnfnagdecpobaaDoorPb
import Derived.Test.YtfnfnagdecpobaaDoorGf
import Derived.Test.YtfnfnagdecpobaaDoorJh
set_option linter.unusedSimpArgs false
namespace Go.Proofs.YtfnfnagdecpobaaDoor.rb
open Go.RowKit Go.Proofs.YtfnfnagdecpobaaDoor.fm Go.Proofs.YtfnfnagdecpobaaDoor.mem Go.Proofs.YtfnfnagdecpobaaDoor.fa Go.Proofs.YtfnfnagdecpobaaDoor.fb Go.Proofs.YtfnfnagdecpobaaDoor.fu Go.Proofs.YtfnfnagdecpobaaDoor.fv Go.Proofs.YtfnfnagdecpobaaDoor.fw Go.Proofs.YtfnfnagdecpobaaDoor.fx Go.Proofs.YtfnfnagdecpobaaDoor.fy Go.Proofs.YtfnfnagdecpobaaDoor.fz Go.Proofs.YtfnfnagdecpobaaDoor.gf Go.Proofs.YtfnfnagdecpobaaDoor.jh Go.Proofs.YtfnfnagdecpobaaDoor.ja Go.Proofs.YtfnfnagdecpobaaDoor.pb

set_option maxRecDepth 100000 in
set_option maxHeartbeats 2000000 in
theorem rvalidBig_gen (w : World) (n : Bool) (l : List Nat) (A : Option Addr) (c : Nat) (R : Rd w w.heap.size A c l) (hs : l.length ≤ 1000000) :
    Calls Tryd.prog 25 #[.agg #[.bool n, .slice A l.length c]] w fun e w' => e = .returned (.bool (good n l)) ∧ Below w.heap.size w w' := by
  obtain ⟨G, hG⟩ : ∃ G, G = good n l := ⟨_, rfl⟩
  rw [← hG]
  go_enter Tryd.func25, Tryd.ntmps25
  have hb := (Below.refl w.heap.size w).alloc (Nat.le_refl _) (.cells #[.bool n, .slice A l.length c] 28)
  have HB := Lib.hid hb
  by_cases h1 : 256 < l.length
  · rw [good_long h1] at hG
    have HG := Lib.hid hG
    have hz : ¬ (l.length : Int) ≤ 256 := by omega
    clear hb hG R
    go_wp2_with fail
    go_ret
    exact ⟨ret_eq (by first | (rw [HG.out]; done) | (rw [HG.out]; rfl)), HB.out⟩
  · by_cases h0 : l.length = 0
    · have h2 : good n l = !n := by unfold good; rw [h0]; cases n <;> rfl
      rw [h2] at hG
      have HG := Lib.hid hG
      rw [h0] at HB ⊢
      clear hb hG R h1 h2
      cases n with
      | true =>
        go_wp2_with fail
        go_ret
        exact ⟨ret_eq (by first | (rw [HG.out]; done) | (rw [HG.out]; rfl)), HB.out⟩
      | false =>
        go_wp2_with fail
        go_ret
        exact ⟨ret_eq (by first | (rw [HG.out]; done) | (rw [HG.out]; rfl)), HB.out⟩
    · obtain ⟨b, off, rfl, hbl, hc⟩ := R.cells (by omega)
      obtain ⟨t, ht⟩ : ∃ t, l.length = t + 1 := ⟨l.length - 1, by omega⟩
      have c1 := (hb.cell (p := ⟨b, off + t, none⟩) hbl).trans (hc t (by omega))
      obtain ⟨y, hy⟩ : ∃ y, y = l.getD t 0 := ⟨_, rfl⟩
      rw [← hy] at c1
      have i1 : ((t + 1 : Nat) : Int) - 1 = (t : Int) := by omega
      have i2 : (0 : Int) < ((t + 1 : Nat) : Int) := by omega
      have i3 : ((t + 1 : Nat) : Int) ≤ 256 := by omega
      have i4 : (((t + 1 : Nat) : Int) == 0) = false := beq_eq_false_iff_ne.2 (by omega)
      have hfit := R.fit
      by_cases hy0 : y = 0
      · have hgd : good n l = false := by
          subst hy0
          unfold good
          rw [ht, Nat.add_sub_cancel, ← hy]; simp
        rw [hgd] at hG
        have HG := Lib.hid hG
        subst hy0
        rw [ht] at HB hfit c1 ⊢
        clear hb hG hc hgd hy R h0 h1 ht hs
        go_wp2_with fail
        go_ret
        exact ⟨ret_eq (by first | (rw [HG.out]; done) | (rw [HG.out]; rfl)), HB.out⟩
      · have hgd : good n l = true := good_last (neg := n) ht (by omega) (by rw [← hy]; exact hy0)
        rw [hgd] at hG
        have HG := Lib.hid hG
        have hyz : (((y : Nat) : Int) == 0) = false := beq_eq_false_iff_ne.2 (by omega)
        have hyz2 : (((y : Nat) : Int) != 0) = true := by rw [bne_iff_ne]; omega
        rw [ht] at HB hfit c1 ⊢
        clear hb hG hc hgd hy R h0 h1 ht hs hy0
        go_wp2_with fail
        go_ret
        exact ⟨ret_eq (by first | (rw [HG.out]; done) | (rw [HG.out]; rfl)), HB.out⟩

set_option maxRecDepth 100000 in
set_option maxHeartbeats 1000000 in
theorem rshort_any (w : World) (a : Value) (z : Int) (ha : IsBig w a z) : Calls Tryd.prog 51 #[a] w (Limited w z) := by
  obtain ⟨A, c, rfl, R⟩ := ha
  go_enter Tryd.func51, Tryd.ntmps51
  have hb2 : ∀ n s n' s', Below w.heap.size w ((w.alloc (.cells #[n, s] 28)).alloc (.cells #[n', s'] 28)) := fun _ _ _ _ => ((Below.refl _ _).alloc (Nat.le_refl _) _).alloc (by simp) _
  have HB := Lib.hid hb2
  clear hb2
  by_cases hl : 256 < (digs z.natAbs).length
  · go_wp2_with fail
    go_returns
    exact ⟨_, by rw [lerr, if_neg (by omega)], by rw [lim, if_neg (by omega)]; exact isBig_zero _, HB.out _ _ _ _⟩
  · go_wp2_with fail
    go_returns
    exact ⟨_, by rw [lerr, if_pos (by omega)], by rw [lim, if_pos (by omega)]; exact ⟨A, c, rfl, (R.below (HB.out _ _ _ _)).more (HB.out _ _ _ _).size⟩, HB.out _ _ _ _⟩

set_option maxRecDepth 100000 in
set_option maxHeartbeats 2000000 in
theorem raddBig_any (w : World) (a b : Value) (x y : Int) (ha : IsBig w a x) (hb : IsBig w b y) (hl : (digs x.natAbs).length ≤ 256) (hl' : (digs y.natAbs).length ≤ 256) :
    Calls Tryd.prog 14 #[a, b] w (Limited w (x + y)) := by
  obtain ⟨A, c, rfl, R⟩ := ha
  obtain ⟨A', c', rfl, R'⟩ := hb
  go_enter Tryd.func14, Tryd.ntmps14
  have hB := boxes_made w (decide (x < 0)) (decide (y < 0)) (.slice A (digs x.natAbs).length c) (.slice A' (digs y.natAbs).length c')
  obtain ⟨W, hW⟩ : ∃ W, W = (((w.alloc (.cells #[.bool (decide (x < 0)), .slice A (digs x.natAbs).length c] 28)).alloc (.cells #[.bool (decide (y < 0)), .slice A' (digs y.natAbs).length c'] 28)).alloc (.cells #[.bool false, .slice none 0 0] 28)) := ⟨_, rfl⟩
  rw [← hW] at hB
  have HB := Lib.hid hB
  have a0 := hB.a0
  have a1 := hB.a1
  clear hB
  go_upto_region 1 with fail
  rw [← hW]
  clear hW
  go_wp2_with fail
  refine (rvalidBig_any W _ x ⟨A, c, rfl, HB.out.rd R⟩ hl).mono ?_
  rintro _ W1 ⟨rfl, hb1⟩
  have H1 := Lib.hid (HB.out.after hb1)
  have b0 := H1.out.b0
  have b1 := H1.out.b1
  clear a0 a1 hb1
  go_wp2_with fail
  refine (rvalidBig_any W1 _ y ⟨A', c', rfl, H1.out.rd R'⟩ hl').mono ?_
  rintro _ W2 ⟨rfl, hb2⟩
  have H2 := Lib.hid (H1.out.after hb2)
  clear b0 b1 hb2
  have a0 := H2.out.a0
  have a1 := H2.out.a1
  have b0 := H2.out.b0
  have b1 := H2.out.b1
  go_wp2_with fail
  refine (rplus_any 256 W2 _ _ x y ⟨A, c, rfl, H2.out.rd R⟩ ⟨A', c', rfl, H2.out.rd R'⟩ hl hl' (by decide)).mono ?_
  rintro _ W3 ⟨v3, rfl, hI3, hb3⟩
  have H3 := Lib.hid (H2.out.after hb3)
  clear hb3 a0 a1 b0 b1
  go_wp2_with fail
  refine (rshort_any W3 v3 (x + y) hI3).mono ?_
  rintro _ W4 ⟨v4, rfl, ⟨A4, c4, rfl, R4⟩, hb4⟩
  have hB4 := H3.out.after hb4
  obtain ⟨r0, r1, f0, f1⟩ := boxes_last hB4
  obtain ⟨e1, e2, e3, e4⟩ := hB4.filled R4
  have HC := Lib.hid (And.intro e3 e4)
  have HE := Lib.hid (And.intro e1 e2)
  clear e1 e2 e3 e4 R4 hB4 hb4 hI3 R R'
  go_wp2
  (try simp only [Exit.inBlock, Exit.then])
  refine bodyPost_ret (results_big2 rfl _ _ (w.heap.size + 1 + 1) rfl HC.out.1 HC.out.2) rfl ?_
  exact ⟨_, rfl, HE.out.1, HE.out.2⟩

set_option maxRecDepth 100000 in
set_option maxHeartbeats 2000000 in
theorem rmulBig_any (w : World) (a b : Value) (x y : Int) (ha : IsBig w a x) (hb : IsBig w b y) (hl : (digs x.natAbs).length ≤ 256) (hl' : (digs y.natAbs).length ≤ 256) :
    Calls Tryd.prog 19 #[a, b] w (Limited w (x * y)) := by
  obtain ⟨A, c, rfl, R⟩ := ha
  obtain ⟨A', c', rfl, R'⟩ := hb
  go_enter Tryd.func19, Tryd.ntmps19
  have hB := boxes_made w (decide (x < 0)) (decide (y < 0)) (.slice A (digs x.natAbs).length c) (.slice A' (digs y.natAbs).length c')
  obtain ⟨W, hW⟩ : ∃ W, W = (((w.alloc (.cells #[.bool (decide (x < 0)), .slice A (digs x.natAbs).length c] 28)).alloc (.cells #[.bool (decide (y < 0)), .slice A' (digs y.natAbs).length c'] 28)).alloc (.cells #[.bool false, .slice none 0 0] 28)) := ⟨_, rfl⟩
  rw [← hW] at hB
  have HB := Lib.hid hB
  have a0 := hB.a0
  have a1 := hB.a1
  clear hB
  go_upto_region 1 with fail
  rw [← hW]
  clear hW
  go_wp2_with fail
  refine (rvalidBig_any W _ x ⟨A, c, rfl, HB.out.rd R⟩ hl).mono ?_
  rintro _ W1 ⟨rfl, hb1⟩
  have H1 := Lib.hid (HB.out.after hb1)
  have b0 := H1.out.b0
  have b1 := H1.out.b1
  clear a0 a1 hb1
  go_wp2_with fail
  refine (rvalidBig_any W1 _ y ⟨A', c', rfl, H1.out.rd R'⟩ hl').mono ?_
  rintro _ W2 ⟨rfl, hb2⟩
  have H2 := Lib.hid (H1.out.after hb2)
  clear b0 b1 hb2
  have a0 := H2.out.a0
  have a1 := H2.out.a1
  have b0 := H2.out.b0
  have b1 := H2.out.b1
  go_wp2_with fail
  refine (rtimes_any 256 W2 _ _ x y ⟨A, c, rfl, H2.out.rd R⟩ ⟨A', c', rfl, H2.out.rd R'⟩ hl hl' (by decide)).mono ?_
  rintro _ W3 ⟨v3, rfl, hI3, hb3⟩
  have H3 := Lib.hid (H2.out.after hb3)
  clear hb3 a0 a1 b0 b1
  go_wp2_with fail
  refine (rshort_any W3 v3 (x * y) hI3).mono ?_
  rintro _ W4 ⟨v4, rfl, ⟨A4, c4, rfl, R4⟩, hb4⟩
  have hB4 := H3.out.after hb4
  obtain ⟨r0, r1, f0, f1⟩ := boxes_last hB4
  obtain ⟨e1, e2, e3, e4⟩ := hB4.filled R4
  have HC := Lib.hid (And.intro e3 e4)
  have HE := Lib.hid (And.intro e1 e2)
  clear e1 e2 e3 e4 R4 hB4 hb4 hI3 R R'
  go_wp2
  (try simp only [Exit.inBlock, Exit.then])
  refine bodyPost_ret (results_big2 rfl _ _ (w.heap.size + 1 + 1) rfl HC.out.1 HC.out.2) rfl ?_
  exact ⟨_, rfl, HE.out.1, HE.out.2⟩

set_option maxRecDepth 100000 in
set_option maxHeartbeats 4000000 in
theorem rsubBig_any (w : World) (a b : Value) (x y : Int) (ha : IsBig w a x) (hb : IsBig w b y) (hl : (digs x.natAbs).length ≤ 256) (hl' : (digs y.natAbs).length ≤ 256) :
    Calls Tryd.prog 16 #[a, b] w (Limited w (x - y)) := by
  obtain ⟨A, c, rfl, R⟩ := ha
  obtain ⟨A', c', rfl, R'⟩ := hb
  go_enter Tryd.func16, Tryd.ntmps16
  have hB := boxes_made w (decide (x < 0)) (decide (y < 0)) (.slice A (digs x.natAbs).length c) (.slice A' (digs y.natAbs).length c')
  obtain ⟨W, hW⟩ : ∃ W, W = (((w.alloc (.cells #[.bool (decide (x < 0)), .slice A (digs x.natAbs).length c] 28)).alloc (.cells #[.bool (decide (y < 0)), .slice A' (digs y.natAbs).length c'] 28)).alloc (.cells #[.bool false, .slice none 0 0] 28)) := ⟨_, rfl⟩
  rw [← hW] at hB
  have HB := Lib.hid hB
  have a0 := hB.a0
  have a1 := hB.a1
  clear hB
  go_upto_region 1 with fail
  rw [← hW]
  clear hW
  go_wp2_with fail
  refine (rvalidBig_any W _ x ⟨A, c, rfl, HB.out.rd R⟩ hl).mono ?_
  rintro _ W1 ⟨rfl, hb1⟩
  have H1 := Lib.hid (HB.out.after hb1)
  have b0 := H1.out.b0
  have b1 := H1.out.b1
  clear a0 a1 hb1
  go_wp2_with fail
  refine (rvalidBig_any W1 _ y ⟨A', c', rfl, H1.out.rd R'⟩ hl').mono ?_
  rintro _ W2 ⟨rfl, hb2⟩
  have H2 := Lib.hid (H1.out.after hb2)
  clear b0 b1 hb2
  have a0 := H2.out.a0
  have a1 := H2.out.a1
  have b0 := H2.out.b0
  have b1 := H2.out.b1
  have H2d := Lib.hid H2.out.drew
  obtain ⟨Y, hY⟩ : ∃ Y, Y = -y := ⟨_, rfl⟩
  obtain ⟨Z, hZ⟩ : ∃ Z, Z = x - y := ⟨_, rfl⟩
  have HY := Lib.hid (And.intro hY (And.intro hZ (show x + Y = Z by omega)))
  have hYl : (digs Y.natAbs).length ≤ 256 := by rw [hY, Int.natAbs_neg]; exact hl'
  have HL := Lib.hid (And.intro hl (And.intro hl' hYl))
  clear HB hY hZ hl hl' hYl
  go_wp2_with fail
  go_region_held3 (fun w' => w'.cell? ⟨w.heap.size, 0, none⟩ = some (.bool (decide (x < 0))) ∧ w'.cell? ⟨w.heap.size, 1, none⟩ = some (.slice A (digs x.natAbs).length c) ∧ w'.cell? ⟨w.heap.size + 1, 0, none⟩ = some (.bool (decide (y < 0))) ∧ w'.cell? ⟨w.heap.size + 1, 1, none⟩ = some (.slice A' (digs y.natAbs).length c'))
    (first | with_reducible exact H2.out.held4 | with_reducible exact H2d.out.held4 | with_reducible exact H3.out.held4 | with_reducible exact H4.out.held4 | with_reducible exact H5.out.held4 | (obtain ⟨q1, q2, q3, q4⟩ := H5.out.held4; refine ⟨?_, ?_, ?_, ?_⟩ <;> simp [go_sem, q1, q2, q3, q4]))
    (first
      | (have hI4b := hI4; go_at_call 51; refine (rshort_any W4 v4 Z hI4b).mono ?_; rintro _ W5 hL
         obtain ⟨A5, c5, Z1, k1, rfl, R5, hb5, hk⟩ := limited_open hL
         have h5 := H4.out.after hb5
         have H5 := Lib.hid h5
         obtain ⟨r0, r1, f0, f1⟩ := boxes_last h5
         clear hL hb5 h5)
      | (have hI3b := hI3; go_at_call 52; refine (rplus_any 256 W3 _ v3 x Y ⟨A, c, rfl, H3.out.rd R⟩ hI3b HL.out.1 HL.out.2.2 (by decide)).mono ?_; rintro _ W4 ⟨v4, rfl, hI4, hb4⟩
         rw [HY.out.2.2] at hI4
         have H4 := Lib.hid (H3.out.after hb4)
         clear hb4 hI3 hI3b)
      | (go_at_call 54; refine (rminus_any W2.drew _ y ⟨A', c', rfl, H2d.out.rd R'⟩ (Nat.le_trans HL.out.2.1 (by decide))).mono ?_; rintro _ W3 ⟨v3, rfl, hI3, hb3⟩
         rw [← HY.out.1] at hI3
         have H3 := Lib.hid (H2d.out.after hb3)
         clear hb3))
  obtain ⟨e1, e2, e3, e4⟩ := H5.out.filled R5
  have HC := Lib.hid (And.intro e3 e4)
  have HE := Lib.hid (And.intro e1 e2)
  clear e1 e2 e3 e4 R5 R R' H1 H2 H2d H3 H4 H5 a0 a1 b0 b1
  go_wp2
  (try simp only [Exit.inBlock, Exit.then])
  refine bodyPost_ret (results_big2 rfl _ _ (w.heap.size + 1 + 1) rfl HC.out.1 HC.out.2) rfl ?_
  have hk1 := hk.out
  rw [HY.out.2.1] at hk1
  obtain ⟨k2, k3⟩ := hk1
  subst k2 k3
  exact ⟨_, rfl, HE.out.1, HE.out.2⟩

set_option maxRecDepth 100000 in
set_option maxHeartbeats 2000000 in
theorem raddBig_bad (w : World) (n n' : Bool) (l l' : List Nat) (A A' : Option Addr) (c c' : Nat) (R : Rd w w.heap.size A c l) (R' : Rd w w.heap.size A' c' l') (hs : l.length ≤ 1000000) (hs' : l'.length ≤ 1000000) (hg : (good n l && good n' l') = false) :
    Calls Tryd.prog 14 #[.agg #[.bool n, .slice A l.length c], .agg #[.bool n', .slice A' l'.length c']] w fun e w' => e = .returned (.tuple #[.agg #[.bool false, .slice none 0 0], .int .i64 1]) ∧ Below w.heap.size w w' := by
  go_enter Tryd.func14, Tryd.ntmps14
  have hB := boxes_made w n n' (.slice A l.length c) (.slice A' l'.length c')
  obtain ⟨W, hW⟩ : ∃ W, W = (((w.alloc (.cells #[.bool n, .slice A l.length c] 28)).alloc (.cells #[.bool n', .slice A' l'.length c'] 28)).alloc (.cells #[.bool false, .slice none 0 0] 28)) := ⟨_, rfl⟩
  rw [← hW] at hB
  have HB := Lib.hid hB
  have HG := Lib.hid hg
  have a0 := hB.a0
  have a1 := hB.a1
  clear hB hg
  go_upto_region 1 with fail
  rw [← hW]
  clear hW
  go_wp2_with fail
  refine (rvalidBig_gen W n l A c (HB.out.rd R) hs).mono ?_
  rintro _ W1 ⟨rfl, hb1⟩
  have H1 := Lib.hid (HB.out.after hb1)
  clear a0 a1 hb1
  by_cases hg1 : good n l = true
  · have hg2 : good n' l' = false := by have := HG.out; rw [hg1] at this; simpa using this
    rw [hg1]
    have b0 := H1.out.b0
    have b1 := H1.out.b1
    have HG2 := Lib.hid hg2
    clear hg1 hg2
    go_wp2_with fail
    refine (rvalidBig_gen W1 n' l' A' c' (H1.out.rd R') hs').mono ?_
    rintro _ W2 ⟨rfl, hb2⟩
    rw [HG2.out]
    have hB1 := H1.out.after hb2
    obtain ⟨r0, r1, f0, f1⟩ := boxes_last hB1
    obtain ⟨e1, e2, e3, e4⟩ := hB1.filled (z := 0) (A := none) (c := 0) (by rw [show digs (0 : Int).natAbs = [] from digs_zero]; exact Rd.nil _ _ _ _)
    simp only [show digs (0 : Int).natAbs = [] from digs_zero, List.length_nil, show decide ((0 : Int) < 0) = false from rfl] at e1 e2 e3 e4
    have HC := Lib.hid (And.intro e3 e4)
    have HE := Lib.hid (And.intro e1 e2)
    clear e1 e2 e3 e4 hB1 hb2 R R' b0 b1
    go_wp2
    (try simp only [Exit.inBlock, Exit.then])
    refine bodyPost_ret (results_big2 rfl _ _ (w.heap.size + 1 + 1) rfl HC.out.1 HC.out.2) rfl ?_
    exact ⟨rfl, HE.out.2⟩
  · obtain hg1 : good n l = false := by simpa using hg1
    rw [hg1]
    have hB1 := H1.out
    obtain ⟨r0, r1, f0, f1⟩ := boxes_last hB1
    obtain ⟨e1, e2, e3, e4⟩ := hB1.filled (z := 0) (A := none) (c := 0) (by rw [show digs (0 : Int).natAbs = [] from digs_zero]; exact Rd.nil _ _ _ _)
    simp only [show digs (0 : Int).natAbs = [] from digs_zero, List.length_nil, show decide ((0 : Int) < 0) = false from rfl] at e1 e2 e3 e4
    have HC := Lib.hid (And.intro e3 e4)
    have HE := Lib.hid (And.intro e1 e2)
    clear e1 e2 e3 e4 hB1 R R' hg1
    go_wp2
    (try simp only [Exit.inBlock, Exit.then])
    refine bodyPost_ret (results_big2 rfl _ _ (w.heap.size + 1 + 1) rfl HC.out.1 HC.out.2) rfl ?_
    exact ⟨rfl, HE.out.2⟩

set_option maxRecDepth 100000 in
set_option maxHeartbeats 2000000 in
theorem rsubBig_bad (w : World) (n n' : Bool) (l l' : List Nat) (A A' : Option Addr) (c c' : Nat) (R : Rd w w.heap.size A c l) (R' : Rd w w.heap.size A' c' l') (hs : l.length ≤ 1000000) (hs' : l'.length ≤ 1000000) (hg : (good n l && good n' l') = false) :
    Calls Tryd.prog 16 #[.agg #[.bool n, .slice A l.length c], .agg #[.bool n', .slice A' l'.length c']] w fun e w' => e = .returned (.tuple #[.agg #[.bool false, .slice none 0 0], .int .i64 1]) ∧ Below w.heap.size w w' := by
  go_enter Tryd.func16, Tryd.ntmps16
  have hB := boxes_made w n n' (.slice A l.length c) (.slice A' l'.length c')
  obtain ⟨W, hW⟩ : ∃ W, W = (((w.alloc (.cells #[.bool n, .slice A l.length c] 28)).alloc (.cells #[.bool n', .slice A' l'.length c'] 28)).alloc (.cells #[.bool false, .slice none 0 0] 28)) := ⟨_, rfl⟩
  rw [← hW] at hB
  have HB := Lib.hid hB
  have HG := Lib.hid hg
  have a0 := hB.a0
  have a1 := hB.a1
  clear hB hg
  go_upto_region 1 with fail
  rw [← hW]
  clear hW
  go_wp2_with fail
  refine (rvalidBig_gen W n l A c (HB.out.rd R) hs).mono ?_
  rintro _ W1 ⟨rfl, hb1⟩
  have H1 := Lib.hid (HB.out.after hb1)
  clear a0 a1 hb1
  by_cases hg1 : good n l = true
  · have hg2 : good n' l' = false := by have := HG.out; rw [hg1] at this; simpa using this
    rw [hg1]
    have b0 := H1.out.b0
    have b1 := H1.out.b1
    have HG2 := Lib.hid hg2
    clear hg1 hg2
    go_wp2_with fail
    refine (rvalidBig_gen W1 n' l' A' c' (H1.out.rd R') hs').mono ?_
    rintro _ W2 ⟨rfl, hb2⟩
    rw [HG2.out]
    have hB1 := H1.out.after hb2
    obtain ⟨r0, r1, f0, f1⟩ := boxes_last hB1
    obtain ⟨e1, e2, e3, e4⟩ := hB1.filled (z := 0) (A := none) (c := 0) (by rw [show digs (0 : Int).natAbs = [] from digs_zero]; exact Rd.nil _ _ _ _)
    simp only [show digs (0 : Int).natAbs = [] from digs_zero, List.length_nil, show decide ((0 : Int) < 0) = false from rfl] at e1 e2 e3 e4
    have HC := Lib.hid (And.intro e3 e4)
    have HE := Lib.hid (And.intro e1 e2)
    clear e1 e2 e3 e4 hB1 hb2 R R' b0 b1
    go_wp2
    (try simp only [Exit.inBlock, Exit.then])
    refine bodyPost_ret (results_big2 rfl _ _ (w.heap.size + 1 + 1) rfl HC.out.1 HC.out.2) rfl ?_
    exact ⟨rfl, HE.out.2⟩
  · obtain hg1 : good n l = false := by simpa using hg1
    rw [hg1]
    have hB1 := H1.out
    obtain ⟨r0, r1, f0, f1⟩ := boxes_last hB1
    obtain ⟨e1, e2, e3, e4⟩ := hB1.filled (z := 0) (A := none) (c := 0) (by rw [show digs (0 : Int).natAbs = [] from digs_zero]; exact Rd.nil _ _ _ _)
    simp only [show digs (0 : Int).natAbs = [] from digs_zero, List.length_nil, show decide ((0 : Int) < 0) = false from rfl] at e1 e2 e3 e4
    have HC := Lib.hid (And.intro e3 e4)
    have HE := Lib.hid (And.intro e1 e2)
    clear e1 e2 e3 e4 hB1 R R' hg1
    go_wp2
    (try simp only [Exit.inBlock, Exit.then])
    refine bodyPost_ret (results_big2 rfl _ _ (w.heap.size + 1 + 1) rfl HC.out.1 HC.out.2) rfl ?_
    exact ⟨rfl, HE.out.2⟩

set_option maxRecDepth 100000 in
set_option maxHeartbeats 2000000 in
theorem rmulBig_bad (w : World) (n n' : Bool) (l l' : List Nat) (A A' : Option Addr) (c c' : Nat) (R : Rd w w.heap.size A c l) (R' : Rd w w.heap.size A' c' l') (hs : l.length ≤ 1000000) (hs' : l'.length ≤ 1000000) (hg : (good n l && good n' l') = false) :
    Calls Tryd.prog 19 #[.agg #[.bool n, .slice A l.length c], .agg #[.bool n', .slice A' l'.length c']] w fun e w' => e = .returned (.tuple #[.agg #[.bool false, .slice none 0 0], .int .i64 1]) ∧ Below w.heap.size w w' := by
  go_enter Tryd.func19, Tryd.ntmps19
  have hB := boxes_made w n n' (.slice A l.length c) (.slice A' l'.length c')
  obtain ⟨W, hW⟩ : ∃ W, W = (((w.alloc (.cells #[.bool n, .slice A l.length c] 28)).alloc (.cells #[.bool n', .slice A' l'.length c'] 28)).alloc (.cells #[.bool false, .slice none 0 0] 28)) := ⟨_, rfl⟩
  rw [← hW] at hB
  have HB := Lib.hid hB
  have HG := Lib.hid hg
  have a0 := hB.a0
  have a1 := hB.a1
  clear hB hg
  go_upto_region 1 with fail
  rw [← hW]
  clear hW
  go_wp2_with fail
  refine (rvalidBig_gen W n l A c (HB.out.rd R) hs).mono ?_
  rintro _ W1 ⟨rfl, hb1⟩
  have H1 := Lib.hid (HB.out.after hb1)
  clear a0 a1 hb1
  by_cases hg1 : good n l = true
  · have hg2 : good n' l' = false := by have := HG.out; rw [hg1] at this; simpa using this
    rw [hg1]
    have b0 := H1.out.b0
    have b1 := H1.out.b1
    have HG2 := Lib.hid hg2
    clear hg1 hg2
    go_wp2_with fail
    refine (rvalidBig_gen W1 n' l' A' c' (H1.out.rd R') hs').mono ?_
    rintro _ W2 ⟨rfl, hb2⟩
    rw [HG2.out]
    have hB1 := H1.out.after hb2
    obtain ⟨r0, r1, f0, f1⟩ := boxes_last hB1
    obtain ⟨e1, e2, e3, e4⟩ := hB1.filled (z := 0) (A := none) (c := 0) (by rw [show digs (0 : Int).natAbs = [] from digs_zero]; exact Rd.nil _ _ _ _)
    simp only [show digs (0 : Int).natAbs = [] from digs_zero, List.length_nil, show decide ((0 : Int) < 0) = false from rfl] at e1 e2 e3 e4
    have HC := Lib.hid (And.intro e3 e4)
    have HE := Lib.hid (And.intro e1 e2)
    clear e1 e2 e3 e4 hB1 hb2 R R' b0 b1
    go_wp2
    (try simp only [Exit.inBlock, Exit.then])
    refine bodyPost_ret (results_big2 rfl _ _ (w.heap.size + 1 + 1) rfl HC.out.1 HC.out.2) rfl ?_
    exact ⟨rfl, HE.out.2⟩
  · obtain hg1 : good n l = false := by simpa using hg1
    rw [hg1]
    have hB1 := H1.out
    obtain ⟨r0, r1, f0, f1⟩ := boxes_last hB1
    obtain ⟨e1, e2, e3, e4⟩ := hB1.filled (z := 0) (A := none) (c := 0) (by rw [show digs (0 : Int).natAbs = [] from digs_zero]; exact Rd.nil _ _ _ _)
    simp only [show digs (0 : Int).natAbs = [] from digs_zero, List.length_nil, show decide ((0 : Int) < 0) = false from rfl] at e1 e2 e3 e4
    have HC := Lib.hid (And.intro e3 e4)
    have HE := Lib.hid (And.intro e1 e2)
    clear e1 e2 e3 e4 hB1 R R' hg1
    go_wp2
    (try simp only [Exit.inBlock, Exit.then])
    refine bodyPost_ret (results_big2 rfl _ _ (w.heap.size + 1 + 1) rfl HC.out.1 HC.out.2) rfl ?_
    exact ⟨rfl, HE.out.2⟩


end Go.Proofs.YtfnfnagdecpobaaDoor.rb
