/- ContainmentKinds: the examples of the chapter. -/
import Derived.Test.YtbeidpeoichakaaDoorSe
set_option linter.unusedSimpArgs false
set_option linter.unusedVariables false
namespace Go.Proofs.YtbeidpeoichakaaDoor.sf
open Go.RowKit Go.Proofs.YtbeidpeoichakaaDoor.fm Go.Proofs.YtbeidpeoichakaaDoor.mem Go.Proofs.YtbeidpeoichakaaDoor.fa Go.Proofs.YtbeidpeoichakaaDoor.fb Go.Proofs.YtbeidpeoichakaaDoor.fu Go.Proofs.YtbeidpeoichakaaDoor.fv Go.Proofs.YtbeidpeoichakaaDoor.fw Go.Proofs.YtbeidpeoichakaaDoor.fy Go.Proofs.YtbeidpeoichakaaDoor.ga Go.Proofs.YtbeidpeoichakaaDoor.gb Go.Proofs.YtbeidpeoichakaaDoor.gc Go.Proofs.YtbeidpeoichakaaDoor.fj Go.Proofs.YtbeidpeoichakaaDoor.gg Go.Proofs.YtbeidpeoichakaaDoor.ja Go.Proofs.YtbeidpeoichakaaDoor.jb Go.Proofs.YtbeidpeoichakaaDoor.jg Go.Proofs.YtbeidpeoichakaaDoor.jh Go.Proofs.YtbeidpeoichakaaDoor.pa Go.Proofs.YtbeidpeoichakaaDoor.pb Go.Proofs.YtbeidpeoichakaaDoor.pc Go.Proofs.YtbeidpeoichakaaDoor.nb Go.Proofs.YtbeidpeoichakaaDoor.hc Go.Proofs.YtbeidpeoichakaaDoor.hd Go.Proofs.YtbeidpeoichakaaDoor.re Go.Proofs.YtbeidpeoichakaaDoor.sa Go.Proofs.YtbeidpeoichakaaDoor.sc Go.Proofs.YtbeidpeoichakaaDoor.se

theorem ba_toList (l : List UInt8) : (hc.ba l).toList = l := by
  have h := ka.loop_data (hc.ba l) (hc.ba l).size 0 [] rfl
  rw [ByteArray.toList, h]
  simp [hc.ba]

/-- boxes that stay -/
def Stays (J : World → Prop) : Prop := ∀ W W', J W → Below W.heap.size W W' → J W'
theorem stays_frac {g : Nat} {z : Int} {d : Nat} {A : Option Addr} {c : Nat} {B : Option Addr} {k : Nat} : Stays (fun W => sa.FAt W g z d A c B k) := fun _ _ h hb => h.after hb
theorem Stays.and {J K : World → Prop} (h : Stays J) (h' : Stays K) : Stays (fun W => J W ∧ K W) := fun W W' x hb => ⟨h W W' x.1 hb, h' W W' x.2 hb⟩
theorem stays_below (w : World) : Stays (fun W => Below w.heap.size w W) := fun _ _ h hb => h.trans (hb.mono h.size)

set_option maxRecDepth 100000 in
set_option maxHeartbeats 4000000 in
theorem sane_any (w : World) (hT : Tabs w) : Calls Tryd.prog 6 #[] w fun e w' => e = .returned (.bool true) ∧ Below w.heap.size w w' := by
  go_enter Tryd.func6, Tryd.ntmps6
  have HT := Lib.hid hT
  clear hT
  go_wp2_with fail
  refine (score_any w 1 2 4 8 (by decide) (by decide) (by decide) (by decide) (by decide) (by decide) (by decide) HT.out).mono ?_
  rintro _ W1 ⟨A1, k1, B1, l1, Z1, D1, rfl, R1, S1, hb1, HG1⟩
  have hf1 := sa.fat_new R1 S1 27
  have hu1 : Below W1.heap.size W1 (W1.alloc (.cells #[.bool (decide (Z1 < 0)), .slice A1 (digs Z1.natAbs).length k1, .bool false, .slice B1 (digs D1).length l1] 27)) := (Below.refl _ _).alloc (Nat.le_refl _) _
  go_upto_region 2 with fail
  obtain ⟨U1, hU⟩ : ∃ U, U = W1.alloc (.cells #[.bool (decide (Z1 < 0)), .slice A1 (digs Z1.natAbs).length k1, .bool false, .slice B1 (digs D1).length l1] 27) := ⟨_, rfl⟩
  rw [← hU] at hf1 hu1 ⊢
  obtain ⟨g1, hg⟩ : ∃ g, g = W1.heap.size := ⟨_, rfl⟩
  rw [← hg] at hf1 ⊢
  clear hU hg R1 S1
  have H1 := Lib.hid (And.intro (hb1.trans (hu1.mono hb1.size)) hf1)
  clear hb1 hu1 hf1
  go_wp2_with fail
  refine (score_any U1 2 2 4 8 (by decide) (by decide) (by decide) (by decide) (by decide) (by decide) (by decide) (HT.out.below H1.out.1)).mono ?_
  rintro _ W2 ⟨A2, k2, B2, l2, Z2, D2, rfl, R2, S2, hb2, HG2⟩
  have hf2 := sa.fat_new R2 S2 27
  have hu2 : Below W2.heap.size W2 (W2.alloc (.cells #[.bool (decide (Z2 < 0)), .slice A2 (digs Z2.natAbs).length k2, .bool false, .slice B2 (digs D2).length l2] 27)) := (Below.refl _ _).alloc (Nat.le_refl _) _
  go_upto_region 3 with fail
  obtain ⟨U2, hU⟩ : ∃ U, U = W2.alloc (.cells #[.bool (decide (Z2 < 0)), .slice A2 (digs Z2.natAbs).length k2, .bool false, .slice B2 (digs D2).length l2] 27) := ⟨_, rfl⟩
  rw [← hU] at hf2 hu2 ⊢
  obtain ⟨g2, hg⟩ : ∃ g, g = W2.heap.size := ⟨_, rfl⟩
  rw [← hg] at hf2 ⊢
  clear hU hg R2 S2
  have hc2 := hb2.trans (hu2.mono hb2.size)
  have H2 := Lib.hid (And.intro (H1.out.1.trans (hc2.mono H1.out.1.size)) (And.intro (H1.out.2.after hc2) hf2))
  clear hb2 hu2 hf2 hc2 H1
  go_wp2_with fail
  refine (score_any U2 3 2 4 8 (by decide) (by decide) (by decide) (by decide) (by decide) (by decide) (by decide) (HT.out.below H2.out.1)).mono ?_
  rintro _ W3 ⟨A3, k3, B3, l3, Z3, D3, rfl, R3, S3, hb3, HG3⟩
  have hf3 := sa.fat_new R3 S3 27
  have hu3 : Below W3.heap.size W3 (W3.alloc (.cells #[.bool (decide (Z3 < 0)), .slice A3 (digs Z3.natAbs).length k3, .bool false, .slice B3 (digs D3).length l3] 27)) := (Below.refl _ _).alloc (Nat.le_refl _) _
  go_upto_region 4 with fail
  obtain ⟨U3, hU⟩ : ∃ U, U = W3.alloc (.cells #[.bool (decide (Z3 < 0)), .slice A3 (digs Z3.natAbs).length k3, .bool false, .slice B3 (digs D3).length l3] 27) := ⟨_, rfl⟩
  rw [← hU] at hf3 hu3 ⊢
  obtain ⟨g3, hg⟩ : ∃ g, g = W3.heap.size := ⟨_, rfl⟩
  rw [← hg] at hf3 ⊢
  clear hU hg R3 S3
  have hc3 := hb3.trans (hu3.mono hb3.size)
  have H3 := Lib.hid (And.intro (H2.out.1.trans (hc3.mono H2.out.1.size)) (And.intro (H2.out.2.1.after hc3) (And.intro (H2.out.2.2.after hc3) hf3)))
  clear hb3 hu3 hf3 hc3 H2
  have hz1 := score_is HG1.out.1 HG1.out.2 (by decide) (good_small2 (z := 1) (d := 2) (by decide) (by decide) (by decide) (by decide)) (by decide)
  have hz2 := score_is HG2.out.1 HG2.out.2 (by decide) (good_small2 (z := 1) (d := 4) (by decide) (by decide) (by decide) (by decide)) (by decide)
  have hz3 := score_is HG3.out.1 HG3.out.2 (by decide) (good_small2 (z := 1) (d := 5) (by decide) (by decide) (by decide) (by decide)) (by decide)
  have HZ := Lib.hid (And.intro hz1 (And.intro hz2 hz3))
  clear hz1 hz2 hz3
  obtain ⟨c0, c1, c2, c3⟩ := H3.out.2.1.held
  go_wp2_with fail
  refine (rtext_any U3 _ Z1 D1 2 H3.out.2.1.frac HG1.out.1 (by decide)).mono ?_
  rintro _ V1 ⟨rfl, hb4⟩
  rw [HZ.out.1.1, HZ.out.1.2, text_half]
  have t1 := ba_toList [49, 47, 50]
  have H4 := Lib.hid (And.intro (H3.out.1.trans (hb4.mono H3.out.1.size)) (And.intro (H3.out.2.2.1.after hb4) (H3.out.2.2.2.after hb4)))
  clear hb4 H3 c0 c1 c2 c3
  obtain ⟨c0, c1, c2, c3⟩ := H4.out.2.1.held
  go_wp2_with fail
  refine (rtext_any V1 _ Z2 D2 2 H4.out.2.1.frac HG2.out.1 (by decide)).mono ?_
  rintro _ V2 ⟨rfl, hb5⟩
  rw [HZ.out.2.1.1, HZ.out.2.1.2, text_quarter]
  have t2 := ba_toList [49, 47, 52]
  have H5 := Lib.hid (And.intro (H4.out.1.trans (hb5.mono H4.out.1.size)) (H4.out.2.2.after hb5))
  clear hb5 H4 c0 c1 c2 c3
  obtain ⟨c0, c1, c2, c3⟩ := H5.out.2.held
  go_wp2_with fail
  refine (rtext_any V2 _ Z3 D3 2 H5.out.2.frac HG3.out.1 (by decide)).mono ?_
  rintro _ V3 ⟨rfl, hb6⟩
  rw [HZ.out.2.2.1, HZ.out.2.2.2, text_fifth]
  have t3 := ba_toList [49, 47, 53]
  have H6 := Lib.hid (H5.out.1.trans (hb6.mono H5.out.1.size))
  clear hb6 H5 c0 c1 c2 c3
  go_wp2_with fail
  refine (cvalid_any V3 2).mono ?_
  rintro _ _ ⟨rfl, rfl⟩
  rw [show ((2 : Int) == 1 || (2 : Int) == 2 || (2 : Int) == 3) = true from rfl]
  go_wp2_with fail
  refine (cvalid_any V3 0).mono ?_
  rintro _ _ ⟨rfl, rfl⟩
  rw [show ((0 : Int) == 1 || (0 : Int) == 2 || (0 : Int) == 3) = false from rfl]
  go_wp2_with fail
  go_ret
  exact ⟨rfl, H6.out⟩
end Go.Proofs.YtbeidpeoichakaaDoor.sf
