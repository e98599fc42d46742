/- law 01: FractionRules. -/
import Derived.Test.YtfnfnagdecpobaaDoorNb
set_option linter.unusedSimpArgs false
namespace Go.Proofs.YtfnfnagdecpobaaDoor.nc
open Go.RowKit Go.Proofs.YtfnfnagdecpobaaDoor.fm Go.Proofs.YtfnfnagdecpobaaDoor.mem Go.Proofs.YtfnfnagdecpobaaDoor.fa Go.Proofs.YtfnfnagdecpobaaDoor.fb Go.Proofs.YtfnfnagdecpobaaDoor.fj Go.Proofs.YtfnfnagdecpobaaDoor.fu Go.Proofs.YtfnfnagdecpobaaDoor.fv Go.Proofs.YtfnfnagdecpobaaDoor.fw Go.Proofs.YtfnfnagdecpobaaDoor.fx Go.Proofs.YtfnfnagdecpobaaDoor.fy Go.Proofs.YtfnfnagdecpobaaDoor.fz Go.Proofs.YtfnfnagdecpobaaDoor.gb Go.Proofs.YtfnfnagdecpobaaDoor.gc Go.Proofs.YtfnfnagdecpobaaDoor.gd Go.Proofs.YtfnfnagdecpobaaDoor.gg Go.Proofs.YtfnfnagdecpobaaDoor.hb Go.Proofs.YtfnfnagdecpobaaDoor.hd Go.Proofs.YtfnfnagdecpobaaDoor.hf Go.Proofs.YtfnfnagdecpobaaDoor.hg Go.Proofs.YtfnfnagdecpobaaDoor.hh Go.Proofs.YtfnfnagdecpobaaDoor.ji Go.Proofs.YtfnfnagdecpobaaDoor.jj Go.Proofs.YtfnfnagdecpobaaDoor.jk Go.Proofs.YtfnfnagdecpobaaDoor.ka Go.Proofs.YtfnfnagdecpobaaDoor.mill Go.Proofs.YtfnfnagdecpobaaDoor.kb Go.Proofs.YtfnfnagdecpobaaDoor.na Go.Proofs.YtfnfnagdecpobaaDoor.nb

set_option maxRecDepth 100000 in
set_option maxHeartbeats 20000000 in
theorem rules_any (w : World) (A : Option Addr) (c : Nat) (l : List Nat) (S : Seeds w w.heap.size A c l) (hl : l.length ≤ maxLen) (hT : Tabs w) (hP : Pow w) :
    Calls Tryd.prog 5 #[.slice A l.length c] w fun e w' => e = .returned (.bool true) ∧ Below w.heap.size w w' := by
  go_enter Tryd.func5, Tryd.ntmps5
  have HS := Lib.hid S
  clear S
  go_wp2_with fail
  refine (sane_any w hT hP).mono ?_
  rintro _ W1 ⟨rfl, hb1⟩
  go_wp2_with fail
  refine (new_any W1 A c l ((HS.out.below hb1).more hb1.size) hl).mono ?_
  rintro _ W2 ⟨rfl, hD2, hb2⟩
  obtain ⟨l2, hl2⟩ : ∃ l2, l2 = l.take 300 := ⟨_, rfl⟩
  rw [← hl2] at hD2
  clear hl2
  have H2 := Lib.hid (hb1.trans (hb2.mono hb1.size))
  have Hg : w.heap.size ≤ W1.heap.size := hb1.size
  generalize W1.heap.size = g at *
  clear hb1 hb2
  go_wp2_with fail
  refine (diceFraction_any W2 g l2 0 hD2).mono ?_
  rintro _ W3 ⟨v3, x, a, k3, rfl, hI3, hSx, hD3, hK3⟩
  go_wp2_with fail
  refine (diceFraction_any W3 g l2 k3 hD3).mono ?_
  rintro _ W4 ⟨v4, y, b, k4, rfl, hI4, hSy, hD4, hK4⟩
  go_wp2_with fail
  refine (diceFraction_any W4 g l2 k4 hD4).mono ?_
  rintro _ W5 ⟨v5, z, d, k5, rfl, hI5, hSz, hD5, hK5⟩
  have h5 : Below w.heap.size w W5 := H2.out.trans (((hK3.trans hK4).trans hK5).bel.mono Hg)
  obtain ⟨A1, c1, B1, e1, rfl, R1, S1⟩ := isFrac_kept hI3 (hK4.trans hK5)
  obtain ⟨A2, c2, B2, e2, rfl, R2, S2⟩ := isFrac_kept hI4 hK5
  obtain ⟨A3, c3, B3, e3, rfl, R3, S3⟩ := hI5
  have T5 := tri_new h5 R1 S1 R2 S2 R3 S3
  have HX := Lib.hid (And.intro hSx (And.intro hSy hSz))
  clear hI3 hI4 hK3 hK4 hK5 hD2 hD3 hD4 hD5 hSx hSy hSz R1 S1 R2 S2 R3 S3 h5 H2
  go_upto_region 5 with fail
  obtain ⟨W6, hW6⟩ : ∃ W6, W6 = (((W5.alloc (.cells #[.bool (decide (x < 0)), .slice A1 (digs x.natAbs).length c1, .bool false, .slice B1 (digs a).length e1] 50)).alloc (.cells #[.bool (decide (y < 0)), .slice A2 (digs y.natAbs).length c2, .bool false, .slice B2 (digs b).length e2] 50)).alloc (.cells #[.bool (decide (z < 0)), .slice A3 (digs z.natAbs).length c3, .bool false, .slice B3 (digs d).length e3] 50)) := ⟨_, rfl⟩
  rw [← hW6] at T5 ⊢
  clear hW6
  have HS0 := Lib.hid (show St w W6 [(W5.heap.size + 1 + 1, z, d, A3, c3, B3, e3), (W5.heap.size + 1, y, b, A2, c2, B2, e2), (W5.heap.size, x, a, A1, c1, B1, e1)] from ⟨T5.bel, ⟨T5.fc, T5.fb, T5.fa, trivial⟩⟩)
  have HX := Lib.hid (And.intro (good_small HX.out.1) (And.intro (good_small HX.out.2.1) (good_small HX.out.2.2)))
  clear T5
  generalize W5.heap.size = gt at *
  -- x := add a b
  have p0 := HS0.out.all.tail.tail.head.c0
  have p1 := HS0.out.all.tail.tail.head.c1
  have p2 := HS0.out.all.tail.tail.head.c2
  have p3 := HS0.out.all.tail.tail.head.c3
  have q0 := HS0.out.all.tail.head.c0
  have q1 := HS0.out.all.tail.head.c1
  have q2 := HS0.out.all.tail.head.c2
  have q3 := HS0.out.all.tail.head.c3
  go_wp2_with fail
  refine (add_good 4 4 _ _ _ HS0.out.all.tail.tail.head.frac HS0.out.all.tail.head.frac HX.out.1 HX.out.2.1 (by omega) (hT.below HS0.out.bel)).mono ?_
  rintro _ V1 ⟨Aa1, cc1, Bb1, kk1, N1, D1, rfl, R1, S1, hb1, G1⟩
  have T1 := (HS0.out.after hb1).more R1 S1
  clear p0 p1 p2 p3 q0 q1 q2 q3 HS0
  go_upto_region 6 with fail
  obtain ⟨U1, hU⟩ : ∃ U1, U1 = V1.alloc (.cells #[.bool (decide (N1 < 0)), .slice Aa1 (digs N1.natAbs).length cc1, .bool false, .slice Bb1 (digs D1).length kk1] 50) := ⟨_, rfl⟩
  rw [← hU] at T1 ⊢
  clear hU R1 S1 hb1
  generalize V1.heap.size = g1 at *
  have HS1 := Lib.hid T1
  clear T1
  -- y := add b a
  have p0 := HS1.out.all.tail.tail.head.c0
  have p1 := HS1.out.all.tail.tail.head.c1
  have p2 := HS1.out.all.tail.tail.head.c2
  have p3 := HS1.out.all.tail.tail.head.c3
  have q0 := HS1.out.all.tail.tail.tail.head.c0
  have q1 := HS1.out.all.tail.tail.tail.head.c1
  have q2 := HS1.out.all.tail.tail.tail.head.c2
  have q3 := HS1.out.all.tail.tail.tail.head.c3
  go_wp2_with fail
  refine (add_good 4 4 _ _ _ HS1.out.all.tail.tail.head.frac HS1.out.all.tail.tail.tail.head.frac HX.out.2.1 HX.out.1 (by omega) (hT.below HS1.out.bel)).mono ?_
  rintro _ V2 ⟨Aa2, cc2, Bb2, kk2, N2, D2, rfl, R2, S2, hb2, G2⟩
  have T2 := (HS1.out.after hb2).more R2 S2
  clear p0 p1 p2 p3 q0 q1 q2 q3 HS1
  go_upto_region 7 with fail
  obtain ⟨U2, hU⟩ : ∃ U2, U2 = V2.alloc (.cells #[.bool (decide (N2 < 0)), .slice Aa2 (digs N2.natAbs).length cc2, .bool false, .slice Bb2 (digs D2).length kk2] 50) := ⟨_, rfl⟩
  rw [← hU] at T2 ⊢
  clear hU R2 S2 hb2
  generalize V2.heap.size = g2 at *
  have HS2 := Lib.hid T2
  clear T2
  -- u := add x c
  have p0 := HS2.out.all.tail.head.c0
  have p1 := HS2.out.all.tail.head.c1
  have p2 := HS2.out.all.tail.head.c2
  have p3 := HS2.out.all.tail.head.c3
  have q0 := HS2.out.all.tail.tail.head.c0
  have q1 := HS2.out.all.tail.tail.head.c1
  have q2 := HS2.out.all.tail.tail.head.c2
  have q3 := HS2.out.all.tail.tail.head.c3
  go_wp2_with fail
  refine (add_good 9 4 _ _ _ HS2.out.all.tail.head.frac HS2.out.all.tail.tail.head.frac G1.out.1 HX.out.2.2 (by omega) (hT.below HS2.out.bel)).mono ?_
  rintro _ V3 ⟨Aa3, cc3, Bb3, kk3, N3, D3, rfl, R3, S3, hb3, G3⟩
  have T3 := (HS2.out.after hb3).more R3 S3
  clear p0 p1 p2 p3 q0 q1 q2 q3 HS2
  go_upto_region 8 with fail
  obtain ⟨U3, hU⟩ : ∃ U3, U3 = V3.alloc (.cells #[.bool (decide (N3 < 0)), .slice Aa3 (digs N3.natAbs).length cc3, .bool false, .slice Bb3 (digs D3).length kk3] 50) := ⟨_, rfl⟩
  rw [← hU] at T3 ⊢
  clear hU R3 S3 hb3
  generalize V3.heap.size = g3 at *
  have HS3 := Lib.hid T3
  clear T3
  -- v := add b c
  have p0 := HS3.out.all.tail.tail.tail.tail.head.c0
  have p1 := HS3.out.all.tail.tail.tail.tail.head.c1
  have p2 := HS3.out.all.tail.tail.tail.tail.head.c2
  have p3 := HS3.out.all.tail.tail.tail.tail.head.c3
  have q0 := HS3.out.all.tail.tail.tail.head.c0
  have q1 := HS3.out.all.tail.tail.tail.head.c1
  have q2 := HS3.out.all.tail.tail.tail.head.c2
  have q3 := HS3.out.all.tail.tail.tail.head.c3
  go_wp2_with fail
  refine (add_good 4 4 _ _ _ HS3.out.all.tail.tail.tail.tail.head.frac HS3.out.all.tail.tail.tail.head.frac HX.out.2.1 HX.out.2.2 (by omega) (hT.below HS3.out.bel)).mono ?_
  rintro _ V4 ⟨Aa4, cc4, Bb4, kk4, N4, D4, rfl, R4, S4, hb4, G4⟩
  have T4 := (HS3.out.after hb4).more R4 S4
  clear p0 p1 p2 p3 q0 q1 q2 q3 HS3
  go_upto_region 9 with fail
  obtain ⟨U4, hU⟩ : ∃ U4, U4 = V4.alloc (.cells #[.bool (decide (N4 < 0)), .slice Aa4 (digs N4.natAbs).length cc4, .bool false, .slice Bb4 (digs D4).length kk4] 50) := ⟨_, rfl⟩
  rw [← hU] at T4 ⊢
  clear hU R4 S4 hb4
  generalize V4.heap.size = g4 at *
  have HS4 := Lib.hid T4
  clear T4
  -- w := add a v
  have p0 := HS4.out.all.tail.tail.tail.tail.tail.tail.head.c0
  have p1 := HS4.out.all.tail.tail.tail.tail.tail.tail.head.c1
  have p2 := HS4.out.all.tail.tail.tail.tail.tail.tail.head.c2
  have p3 := HS4.out.all.tail.tail.tail.tail.tail.tail.head.c3
  have q0 := HS4.out.all.head.c0
  have q1 := HS4.out.all.head.c1
  have q2 := HS4.out.all.head.c2
  have q3 := HS4.out.all.head.c3
  go_wp2_with fail
  refine (add_good 4 9 _ _ _ HS4.out.all.tail.tail.tail.tail.tail.tail.head.frac HS4.out.all.head.frac HX.out.1 G4.out.1 (by omega) (hT.below HS4.out.bel)).mono ?_
  rintro _ V5 ⟨Aa5, cc5, Bb5, kk5, N5, D5, rfl, R5, S5, hb5, G5⟩
  have T5 := (HS4.out.after hb5).more R5 S5
  clear p0 p1 p2 p3 q0 q1 q2 q3 HS4
  go_upto_region 10 with fail
  obtain ⟨U5, hU⟩ : ∃ U5, U5 = V5.alloc (.cells #[.bool (decide (N5 < 0)), .slice Aa5 (digs N5.natAbs).length cc5, .bool false, .slice Bb5 (digs D5).length kk5] 50) := ⟨_, rfl⟩
  rw [← hU] at T5 ⊢
  clear hU R5 S5 hb5
  generalize V5.heap.size = g5 at *
  have HS5 := Lib.hid T5
  clear T5
  have hxy : fw.order (N1 * D2) (N2 * D1) = 0 := by
    obtain ⟨e1, e2⟩ := q_inj G1.out.1 G2.out.1 (by rw [G1.out.2, G2.out.2]; exact Rat.add_comm _ _)
    rw [e1, e2]
    exact order_self _
  have huw : N3 = N5 ∧ D3 = D5 := q_inj G3.out.1 G5.out.1 (by rw [G3.out.2, G5.out.2, G1.out.2, G4.out.2]; exact Rat.add_assoc _ _ _)
  obtain ⟨s1, hs1⟩ : ∃ s1, s1 = hc.ba (textOf N3 D3) := ⟨_, rfl⟩
  have HT1 := Lib.hid (And.intro hs1 (show s1 = hc.ba (textOf N5 D5) by rw [hs1, huw.1, huw.2]))
  have HXY := Lib.hid hxy
  obtain ⟨Q, hQ⟩ : ∃ Q : World → Prop, Q = fun wx => St w wx [(g5, N5, D5, Aa5, cc5, Bb5, kk5), (g4, N4, D4, Aa4, cc4, Bb4, kk4), (g3, N3, D3, Aa3, cc3, Bb3, kk3), (g2, N2, D2, Aa2, cc2, Bb2, kk2), (g1, N1, D1, Aa1, cc1, Bb1, kk1), (gt + 1 + 1, z, d, A3, c3, B3, e3), (gt + 1, y, b, A2, c2, B2, e2), (gt, x, a, A1, c1, B1, e1)] := ⟨_, rfl⟩
  have HQ := Lib.hid hQ
  clear hxy huw hs1 hQ
  go_cut [93] (fun s93 wx => s93 = .bool false ∧ Q wx)
  case first =>
    have p0 := HS5.out.all.tail.tail.tail.tail.head.c0
    have p1 := HS5.out.all.tail.tail.tail.tail.head.c1
    have p2 := HS5.out.all.tail.tail.tail.tail.head.c2
    have p3 := HS5.out.all.tail.tail.tail.tail.head.c3
    have q0 := HS5.out.all.tail.tail.tail.head.c0
    have q1 := HS5.out.all.tail.tail.tail.head.c1
    have q2 := HS5.out.all.tail.tail.tail.head.c2
    have q3 := HS5.out.all.tail.tail.tail.head.c3
    have r0 := HS5.out.all.tail.tail.head.c0
    have r1 := HS5.out.all.tail.tail.head.c1
    have r2 := HS5.out.all.tail.tail.head.c2
    have r3 := HS5.out.all.tail.tail.head.c3
    have s0 := HS5.out.all.head.c0
    have s1 := HS5.out.all.head.c1
    have s2 := HS5.out.all.head.c2
    have s3 := HS5.out.all.head.c3
    have HS5d := Lib.hid HS5.out.draw
    go_wp2_with fail
    go_region_held3 (fun w' => w'.cell? ⟨g1, 0, none⟩ = some (.bool (decide (N1 < 0))) ∧ w'.cell? ⟨g1, 1, none⟩ = some (.slice Aa1 (digs N1.natAbs).length cc1) ∧ w'.cell? ⟨g1, 2, none⟩ = some (.bool false) ∧ w'.cell? ⟨g1, 3, none⟩ = some (.slice Bb1 (digs D1).length kk1) ∧ w'.cell? ⟨g2, 0, none⟩ = some (.bool (decide (N2 < 0))) ∧ w'.cell? ⟨g2, 1, none⟩ = some (.slice Aa2 (digs N2.natAbs).length cc2) ∧ w'.cell? ⟨g2, 2, none⟩ = some (.bool false) ∧ w'.cell? ⟨g2, 3, none⟩ = some (.slice Bb2 (digs D2).length kk2) ∧ w'.cell? ⟨g3, 0, none⟩ = some (.bool (decide (N3 < 0))) ∧ w'.cell? ⟨g3, 1, none⟩ = some (.slice Aa3 (digs N3.natAbs).length cc3) ∧ w'.cell? ⟨g3, 2, none⟩ = some (.bool false) ∧ w'.cell? ⟨g3, 3, none⟩ = some (.slice Bb3 (digs D3).length kk3) ∧ w'.cell? ⟨g5, 0, none⟩ = some (.bool (decide (N5 < 0))) ∧ w'.cell? ⟨g5, 1, none⟩ = some (.slice Aa5 (digs N5.natAbs).length cc5) ∧ w'.cell? ⟨g5, 2, none⟩ = some (.bool false) ∧ w'.cell? ⟨g5, 3, none⟩ = some (.slice Bb5 (digs D5).length kk5))
      (first | with_reducible exact ⟨HS5.out.all.tail.tail.tail.tail.head.c0, HS5.out.all.tail.tail.tail.tail.head.c1, HS5.out.all.tail.tail.tail.tail.head.c2, HS5.out.all.tail.tail.tail.tail.head.c3, HS5.out.all.tail.tail.tail.head.c0, HS5.out.all.tail.tail.tail.head.c1, HS5.out.all.tail.tail.tail.head.c2, HS5.out.all.tail.tail.tail.head.c3, HS5.out.all.tail.tail.head.c0, HS5.out.all.tail.tail.head.c1, HS5.out.all.tail.tail.head.c2, HS5.out.all.tail.tail.head.c3, HS5.out.all.head.c0, HS5.out.all.head.c1, HS5.out.all.head.c2, HS5.out.all.head.c3⟩ | with_reducible exact ⟨HS5d.out.all.tail.tail.tail.tail.head.c0, HS5d.out.all.tail.tail.tail.tail.head.c1, HS5d.out.all.tail.tail.tail.tail.head.c2, HS5d.out.all.tail.tail.tail.tail.head.c3, HS5d.out.all.tail.tail.tail.head.c0, HS5d.out.all.tail.tail.tail.head.c1, HS5d.out.all.tail.tail.tail.head.c2, HS5d.out.all.tail.tail.tail.head.c3, HS5d.out.all.tail.tail.head.c0, HS5d.out.all.tail.tail.head.c1, HS5d.out.all.tail.tail.head.c2, HS5d.out.all.tail.tail.head.c3, HS5d.out.all.head.c0, HS5d.out.all.head.c1, HS5d.out.all.head.c2, HS5d.out.all.head.c3⟩ | with_reducible exact ⟨HS6.out.all.tail.tail.tail.tail.head.c0, HS6.out.all.tail.tail.tail.tail.head.c1, HS6.out.all.tail.tail.tail.tail.head.c2, HS6.out.all.tail.tail.tail.tail.head.c3, HS6.out.all.tail.tail.tail.head.c0, HS6.out.all.tail.tail.tail.head.c1, HS6.out.all.tail.tail.tail.head.c2, HS6.out.all.tail.tail.tail.head.c3, HS6.out.all.tail.tail.head.c0, HS6.out.all.tail.tail.head.c1, HS6.out.all.tail.tail.head.c2, HS6.out.all.tail.tail.head.c3, HS6.out.all.head.c0, HS6.out.all.head.c1, HS6.out.all.head.c2, HS6.out.all.head.c3⟩ | with_reducible exact ⟨HS7.out.all.tail.tail.tail.tail.head.c0, HS7.out.all.tail.tail.tail.tail.head.c1, HS7.out.all.tail.tail.tail.tail.head.c2, HS7.out.all.tail.tail.tail.tail.head.c3, HS7.out.all.tail.tail.tail.head.c0, HS7.out.all.tail.tail.tail.head.c1, HS7.out.all.tail.tail.tail.head.c2, HS7.out.all.tail.tail.tail.head.c3, HS7.out.all.tail.tail.head.c0, HS7.out.all.tail.tail.head.c1, HS7.out.all.tail.tail.head.c2, HS7.out.all.tail.tail.head.c3, HS7.out.all.head.c0, HS7.out.all.head.c1, HS7.out.all.head.c2, HS7.out.all.head.c3⟩ | with_reducible exact ⟨HS8.out.all.tail.tail.tail.tail.head.c0, HS8.out.all.tail.tail.tail.tail.head.c1, HS8.out.all.tail.tail.tail.tail.head.c2, HS8.out.all.tail.tail.tail.tail.head.c3, HS8.out.all.tail.tail.tail.head.c0, HS8.out.all.tail.tail.tail.head.c1, HS8.out.all.tail.tail.tail.head.c2, HS8.out.all.tail.tail.tail.head.c3, HS8.out.all.tail.tail.head.c0, HS8.out.all.tail.tail.head.c1, HS8.out.all.tail.tail.head.c2, HS8.out.all.tail.tail.head.c3, HS8.out.all.head.c0, HS8.out.all.head.c1, HS8.out.all.head.c2, HS8.out.all.head.c3⟩)
      (first
        | (have hh := HS7.out; go_at_call 39; refine (text_any _ _ N5 D5 HS7.out.all.head.frac (G5.out.1.fine (by omega)) (hT.below HS7.out.bel) (hP.below HS7.out.bel)).mono ?_; rintro _ V8 ⟨rfl, hbt⟩
           rw [← HT1.out.2]
           have HS8 := Lib.hid (HS7.out.after hbt)
           clear hbt hh)
        | (have hh := HS6.out; go_at_call 39; refine (text_any _ _ N3 D3 HS6.out.all.tail.tail.head.frac (G3.out.1.fine (by omega)) (hT.below HS6.out.bel) (hP.below HS6.out.bel)).mono ?_; rintro _ V7 ⟨rfl, hbt⟩
           rw [← HT1.out.1]
           have HS7 := Lib.hid (HS6.out.after hbt)
           clear hbt hh)
        | (go_at_call 38; refine (cmpFrac_any _ _ _ N1 N2 D1 D2 HS5d.out.all.tail.tail.tail.tail.head.frac HS5d.out.all.tail.tail.tail.head.frac (G1.out.1.fine (by omega)) (G2.out.1.fine (by omega)) (hT.below HS5d.out.bel)).mono ?_; rintro _ V6 ⟨rfl, hbt⟩
           rw [HXY.out]
           have HS6 := Lib.hid (HS5d.out.after hbt)
           clear hbt))
    all_goals (go_wp2_with fail; go_meet; exact ⟨by simp, by rw [HQ.out]; exact HS8.out⟩)
  case rest =>
  obtain ⟨rfl, hq⟩ := hcut
  rw [HQ.out] at hq
  have HS9 := Lib.hid hq
  clear hq HS5 HQ
  -- p := mul a v
  have p0 := HS9.out.all.tail.tail.tail.tail.tail.tail.tail.head.c0
  have p1 := HS9.out.all.tail.tail.tail.tail.tail.tail.tail.head.c1
  have p2 := HS9.out.all.tail.tail.tail.tail.tail.tail.tail.head.c2
  have p3 := HS9.out.all.tail.tail.tail.tail.tail.tail.tail.head.c3
  have q0 := HS9.out.all.tail.head.c0
  have q1 := HS9.out.all.tail.head.c1
  have q2 := HS9.out.all.tail.head.c2
  have q3 := HS9.out.all.tail.head.c3
  go_wp2_with fail
  refine (mul_good 4 9 _ _ _ HS9.out.all.tail.tail.tail.tail.tail.tail.tail.head.frac HS9.out.all.tail.head.frac HX.out.1 G4.out.1 (by omega) (hT.below HS9.out.bel)).mono ?_
  rintro _ V10 ⟨Aa10, cc10, Bb10, kk10, N10, D10, rfl, R10, S10, hb10, G10⟩
  have T10 := (HS9.out.after hb10).more R10 S10
  clear p0 p1 p2 p3 q0 q1 q2 q3 HS9
  go_upto_region 13 with fail
  obtain ⟨U10, hU⟩ : ∃ U10, U10 = V10.alloc (.cells #[.bool (decide (N10 < 0)), .slice Aa10 (digs N10.natAbs).length cc10, .bool false, .slice Bb10 (digs D10).length kk10] 50) := ⟨_, rfl⟩
  rw [← hU] at T10 ⊢
  clear hU R10 S10 hb10
  generalize V10.heap.size = g10 at *
  have HS10 := Lib.hid T10
  clear T10
  -- q := mul a b
  have p0 := HS10.out.all.tail.tail.tail.tail.tail.tail.tail.tail.head.c0
  have p1 := HS10.out.all.tail.tail.tail.tail.tail.tail.tail.tail.head.c1
  have p2 := HS10.out.all.tail.tail.tail.tail.tail.tail.tail.tail.head.c2
  have p3 := HS10.out.all.tail.tail.tail.tail.tail.tail.tail.tail.head.c3
  have q0 := HS10.out.all.tail.tail.tail.tail.tail.tail.tail.head.c0
  have q1 := HS10.out.all.tail.tail.tail.tail.tail.tail.tail.head.c1
  have q2 := HS10.out.all.tail.tail.tail.tail.tail.tail.tail.head.c2
  have q3 := HS10.out.all.tail.tail.tail.tail.tail.tail.tail.head.c3
  go_wp2_with fail
  refine (mul_good 4 4 _ _ _ HS10.out.all.tail.tail.tail.tail.tail.tail.tail.tail.head.frac HS10.out.all.tail.tail.tail.tail.tail.tail.tail.head.frac HX.out.1 HX.out.2.1 (by omega) (hT.below HS10.out.bel)).mono ?_
  rintro _ V11 ⟨Aa11, cc11, Bb11, kk11, N11, D11, rfl, R11, S11, hb11, G11⟩
  have T11 := (HS10.out.after hb11).more R11 S11
  clear p0 p1 p2 p3 q0 q1 q2 q3 HS10
  go_upto_region 14 with fail
  obtain ⟨U11, hU⟩ : ∃ U11, U11 = V11.alloc (.cells #[.bool (decide (N11 < 0)), .slice Aa11 (digs N11.natAbs).length cc11, .bool false, .slice Bb11 (digs D11).length kk11] 50) := ⟨_, rfl⟩
  rw [← hU] at T11 ⊢
  clear hU R11 S11 hb11
  generalize V11.heap.size = g11 at *
  have HS11 := Lib.hid T11
  clear T11
  -- r := mul a c
  have p0 := HS11.out.all.tail.tail.tail.tail.tail.tail.tail.tail.tail.head.c0
  have p1 := HS11.out.all.tail.tail.tail.tail.tail.tail.tail.tail.tail.head.c1
  have p2 := HS11.out.all.tail.tail.tail.tail.tail.tail.tail.tail.tail.head.c2
  have p3 := HS11.out.all.tail.tail.tail.tail.tail.tail.tail.tail.tail.head.c3
  have q0 := HS11.out.all.tail.tail.tail.tail.tail.tail.tail.head.c0
  have q1 := HS11.out.all.tail.tail.tail.tail.tail.tail.tail.head.c1
  have q2 := HS11.out.all.tail.tail.tail.tail.tail.tail.tail.head.c2
  have q3 := HS11.out.all.tail.tail.tail.tail.tail.tail.tail.head.c3
  go_wp2_with fail
  refine (mul_good 4 4 _ _ _ HS11.out.all.tail.tail.tail.tail.tail.tail.tail.tail.tail.head.frac HS11.out.all.tail.tail.tail.tail.tail.tail.tail.head.frac HX.out.1 HX.out.2.2 (by omega) (hT.below HS11.out.bel)).mono ?_
  rintro _ V12 ⟨Aa12, cc12, Bb12, kk12, N12, D12, rfl, R12, S12, hb12, G12⟩
  have T12 := (HS11.out.after hb12).more R12 S12
  clear p0 p1 p2 p3 q0 q1 q2 q3 HS11
  go_upto_region 15 with fail
  obtain ⟨U12, hU⟩ : ∃ U12, U12 = V12.alloc (.cells #[.bool (decide (N12 < 0)), .slice Aa12 (digs N12.natAbs).length cc12, .bool false, .slice Bb12 (digs D12).length kk12] 50) := ⟨_, rfl⟩
  rw [← hU] at T12 ⊢
  clear hU R12 S12 hb12
  generalize V12.heap.size = g12 at *
  have HS12 := Lib.hid T12
  clear T12
  -- t := add q r
  have p0 := HS12.out.all.tail.head.c0
  have p1 := HS12.out.all.tail.head.c1
  have p2 := HS12.out.all.tail.head.c2
  have p3 := HS12.out.all.tail.head.c3
  have q0 := HS12.out.all.head.c0
  have q1 := HS12.out.all.head.c1
  have q2 := HS12.out.all.head.c2
  have q3 := HS12.out.all.head.c3
  go_wp2_with fail
  refine (add_good 8 8 _ _ _ HS12.out.all.tail.head.frac HS12.out.all.head.frac G11.out.1 G12.out.1 (by omega) (hT.below HS12.out.bel)).mono ?_
  rintro _ V13 ⟨Aa13, cc13, Bb13, kk13, N13, D13, rfl, R13, S13, hb13, G13⟩
  have T13 := (HS12.out.after hb13).more R13 S13
  clear p0 p1 p2 p3 q0 q1 q2 q3 HS12
  go_upto_region 16 with fail
  obtain ⟨U13, hU⟩ : ∃ U13, U13 = V13.alloc (.cells #[.bool (decide (N13 < 0)), .slice Aa13 (digs N13.natAbs).length cc13, .bool false, .slice Bb13 (digs D13).length kk13] 50) := ⟨_, rfl⟩
  rw [← hU] at T13 ⊢
  clear hU R13 S13 hb13
  generalize V13.heap.size = g13 at *
  have HS13 := Lib.hid T13
  clear T13
  -- zz := sub x b
  have p0 := HS13.out.all.tail.tail.tail.tail.tail.tail.tail.tail.head.c0
  have p1 := HS13.out.all.tail.tail.tail.tail.tail.tail.tail.tail.head.c1
  have p2 := HS13.out.all.tail.tail.tail.tail.tail.tail.tail.tail.head.c2
  have p3 := HS13.out.all.tail.tail.tail.tail.tail.tail.tail.tail.head.c3
  have q0 := HS13.out.all.tail.tail.tail.tail.tail.tail.tail.tail.tail.tail.head.c0
  have q1 := HS13.out.all.tail.tail.tail.tail.tail.tail.tail.tail.tail.tail.head.c1
  have q2 := HS13.out.all.tail.tail.tail.tail.tail.tail.tail.tail.tail.tail.head.c2
  have q3 := HS13.out.all.tail.tail.tail.tail.tail.tail.tail.tail.tail.tail.head.c3
  go_wp2_with fail
  refine (sub_good 9 4 _ _ _ HS13.out.all.tail.tail.tail.tail.tail.tail.tail.tail.head.frac HS13.out.all.tail.tail.tail.tail.tail.tail.tail.tail.tail.tail.head.frac G1.out.1 HX.out.2.1 (by omega) (hT.below HS13.out.bel)).mono ?_
  rintro _ V14 ⟨Aa14, cc14, Bb14, kk14, N14, D14, rfl, R14, S14, hb14, G14⟩
  have T14 := (HS13.out.after hb14).more R14 S14
  clear p0 p1 p2 p3 q0 q1 q2 q3 HS13
  go_upto_region 17 with fail
  obtain ⟨U14, hU⟩ : ∃ U14, U14 = V14.alloc (.cells #[.bool (decide (N14 < 0)), .slice Aa14 (digs N14.natAbs).length cc14, .bool false, .slice Bb14 (digs D14).length kk14] 50) := ⟨_, rfl⟩
  rw [← hU] at T14 ⊢
  clear hU R14 S14 hb14
  generalize V14.heap.size = g14 at *
  have HS14 := Lib.hid T14
  clear T14
  have hpt : fw.order (N10 * D13) (N13 * D10) = 0 := by
    obtain ⟨e1, e2⟩ := q_inj G10.out.1 G13.out.1 (by rw [G10.out.2, G13.out.2, G11.out.2, G12.out.2, G4.out.2]; exact Rat.mul_add _ _ _)
    rw [e1, e2]
    exact order_self _
  have hza : N14 = x ∧ D14 = a := q_inj G14.out.1 HX.out.1 (by rw [G14.out.2, G1.out.2]; grind)
  obtain ⟨s2, hs2⟩ : ∃ s2, s2 = hc.ba (textOf x a) := ⟨_, rfl⟩
  have HT2 := Lib.hid (And.intro (show s2 = hc.ba (textOf N14 D14) by rw [hs2, hza.1, hza.2]) hs2)
  have HPT := Lib.hid hpt
  obtain ⟨Q, hQ⟩ : ∃ Q : World → Prop, Q = fun wx => St w wx [(g14, N14, D14, Aa14, cc14, Bb14, kk14), (g13, N13, D13, Aa13, cc13, Bb13, kk13), (g12, N12, D12, Aa12, cc12, Bb12, kk12), (g11, N11, D11, Aa11, cc11, Bb11, kk11), (g10, N10, D10, Aa10, cc10, Bb10, kk10), (g5, N5, D5, Aa5, cc5, Bb5, kk5), (g4, N4, D4, Aa4, cc4, Bb4, kk4), (g3, N3, D3, Aa3, cc3, Bb3, kk3), (g2, N2, D2, Aa2, cc2, Bb2, kk2), (g1, N1, D1, Aa1, cc1, Bb1, kk1), (gt + 1 + 1, z, d, A3, c3, B3, e3), (gt + 1, y, b, A2, c2, B2, e2), (gt, x, a, A1, c1, B1, e1)] := ⟨_, rfl⟩
  have HQ := Lib.hid hQ
  clear hpt hza hs2 hQ
  go_cut [159] (fun s159 wx => s159 = .bool false ∧ Q wx)
  case first =>
    have p0 := HS14.out.all.tail.tail.tail.tail.head.c0
    have p1 := HS14.out.all.tail.tail.tail.tail.head.c1
    have p2 := HS14.out.all.tail.tail.tail.tail.head.c2
    have p3 := HS14.out.all.tail.tail.tail.tail.head.c3
    have q0 := HS14.out.all.tail.head.c0
    have q1 := HS14.out.all.tail.head.c1
    have q2 := HS14.out.all.tail.head.c2
    have q3 := HS14.out.all.tail.head.c3
    have r0 := HS14.out.all.head.c0
    have r1 := HS14.out.all.head.c1
    have r2 := HS14.out.all.head.c2
    have r3 := HS14.out.all.head.c3
    have s0 := HS14.out.all.tail.tail.tail.tail.tail.tail.tail.tail.tail.tail.tail.tail.head.c0
    have s1 := HS14.out.all.tail.tail.tail.tail.tail.tail.tail.tail.tail.tail.tail.tail.head.c1
    have s2 := HS14.out.all.tail.tail.tail.tail.tail.tail.tail.tail.tail.tail.tail.tail.head.c2
    have s3 := HS14.out.all.tail.tail.tail.tail.tail.tail.tail.tail.tail.tail.tail.tail.head.c3
    have HS14d := Lib.hid HS14.out.draw
    go_wp2_with fail
    go_region_held3 (fun w' => w'.cell? ⟨g10, 0, none⟩ = some (.bool (decide (N10 < 0))) ∧ w'.cell? ⟨g10, 1, none⟩ = some (.slice Aa10 (digs N10.natAbs).length cc10) ∧ w'.cell? ⟨g10, 2, none⟩ = some (.bool false) ∧ w'.cell? ⟨g10, 3, none⟩ = some (.slice Bb10 (digs D10).length kk10) ∧ w'.cell? ⟨g13, 0, none⟩ = some (.bool (decide (N13 < 0))) ∧ w'.cell? ⟨g13, 1, none⟩ = some (.slice Aa13 (digs N13.natAbs).length cc13) ∧ w'.cell? ⟨g13, 2, none⟩ = some (.bool false) ∧ w'.cell? ⟨g13, 3, none⟩ = some (.slice Bb13 (digs D13).length kk13) ∧ w'.cell? ⟨g14, 0, none⟩ = some (.bool (decide (N14 < 0))) ∧ w'.cell? ⟨g14, 1, none⟩ = some (.slice Aa14 (digs N14.natAbs).length cc14) ∧ w'.cell? ⟨g14, 2, none⟩ = some (.bool false) ∧ w'.cell? ⟨g14, 3, none⟩ = some (.slice Bb14 (digs D14).length kk14) ∧ w'.cell? ⟨gt, 0, none⟩ = some (.bool (decide (x < 0))) ∧ w'.cell? ⟨gt, 1, none⟩ = some (.slice A1 (digs x.natAbs).length c1) ∧ w'.cell? ⟨gt, 2, none⟩ = some (.bool false) ∧ w'.cell? ⟨gt, 3, none⟩ = some (.slice B1 (digs a).length e1))
      (first | with_reducible exact ⟨HS14.out.all.tail.tail.tail.tail.head.c0, HS14.out.all.tail.tail.tail.tail.head.c1, HS14.out.all.tail.tail.tail.tail.head.c2, HS14.out.all.tail.tail.tail.tail.head.c3, HS14.out.all.tail.head.c0, HS14.out.all.tail.head.c1, HS14.out.all.tail.head.c2, HS14.out.all.tail.head.c3, HS14.out.all.head.c0, HS14.out.all.head.c1, HS14.out.all.head.c2, HS14.out.all.head.c3, HS14.out.all.tail.tail.tail.tail.tail.tail.tail.tail.tail.tail.tail.tail.head.c0, HS14.out.all.tail.tail.tail.tail.tail.tail.tail.tail.tail.tail.tail.tail.head.c1, HS14.out.all.tail.tail.tail.tail.tail.tail.tail.tail.tail.tail.tail.tail.head.c2, HS14.out.all.tail.tail.tail.tail.tail.tail.tail.tail.tail.tail.tail.tail.head.c3⟩ | with_reducible exact ⟨HS14d.out.all.tail.tail.tail.tail.head.c0, HS14d.out.all.tail.tail.tail.tail.head.c1, HS14d.out.all.tail.tail.tail.tail.head.c2, HS14d.out.all.tail.tail.tail.tail.head.c3, HS14d.out.all.tail.head.c0, HS14d.out.all.tail.head.c1, HS14d.out.all.tail.head.c2, HS14d.out.all.tail.head.c3, HS14d.out.all.head.c0, HS14d.out.all.head.c1, HS14d.out.all.head.c2, HS14d.out.all.head.c3, HS14d.out.all.tail.tail.tail.tail.tail.tail.tail.tail.tail.tail.tail.tail.head.c0, HS14d.out.all.tail.tail.tail.tail.tail.tail.tail.tail.tail.tail.tail.tail.head.c1, HS14d.out.all.tail.tail.tail.tail.tail.tail.tail.tail.tail.tail.tail.tail.head.c2, HS14d.out.all.tail.tail.tail.tail.tail.tail.tail.tail.tail.tail.tail.tail.head.c3⟩ | with_reducible exact ⟨HS15.out.all.tail.tail.tail.tail.head.c0, HS15.out.all.tail.tail.tail.tail.head.c1, HS15.out.all.tail.tail.tail.tail.head.c2, HS15.out.all.tail.tail.tail.tail.head.c3, HS15.out.all.tail.head.c0, HS15.out.all.tail.head.c1, HS15.out.all.tail.head.c2, HS15.out.all.tail.head.c3, HS15.out.all.head.c0, HS15.out.all.head.c1, HS15.out.all.head.c2, HS15.out.all.head.c3, HS15.out.all.tail.tail.tail.tail.tail.tail.tail.tail.tail.tail.tail.tail.head.c0, HS15.out.all.tail.tail.tail.tail.tail.tail.tail.tail.tail.tail.tail.tail.head.c1, HS15.out.all.tail.tail.tail.tail.tail.tail.tail.tail.tail.tail.tail.tail.head.c2, HS15.out.all.tail.tail.tail.tail.tail.tail.tail.tail.tail.tail.tail.tail.head.c3⟩ | with_reducible exact ⟨HS16.out.all.tail.tail.tail.tail.head.c0, HS16.out.all.tail.tail.tail.tail.head.c1, HS16.out.all.tail.tail.tail.tail.head.c2, HS16.out.all.tail.tail.tail.tail.head.c3, HS16.out.all.tail.head.c0, HS16.out.all.tail.head.c1, HS16.out.all.tail.head.c2, HS16.out.all.tail.head.c3, HS16.out.all.head.c0, HS16.out.all.head.c1, HS16.out.all.head.c2, HS16.out.all.head.c3, HS16.out.all.tail.tail.tail.tail.tail.tail.tail.tail.tail.tail.tail.tail.head.c0, HS16.out.all.tail.tail.tail.tail.tail.tail.tail.tail.tail.tail.tail.tail.head.c1, HS16.out.all.tail.tail.tail.tail.tail.tail.tail.tail.tail.tail.tail.tail.head.c2, HS16.out.all.tail.tail.tail.tail.tail.tail.tail.tail.tail.tail.tail.tail.head.c3⟩ | with_reducible exact ⟨HS17.out.all.tail.tail.tail.tail.head.c0, HS17.out.all.tail.tail.tail.tail.head.c1, HS17.out.all.tail.tail.tail.tail.head.c2, HS17.out.all.tail.tail.tail.tail.head.c3, HS17.out.all.tail.head.c0, HS17.out.all.tail.head.c1, HS17.out.all.tail.head.c2, HS17.out.all.tail.head.c3, HS17.out.all.head.c0, HS17.out.all.head.c1, HS17.out.all.head.c2, HS17.out.all.head.c3, HS17.out.all.tail.tail.tail.tail.tail.tail.tail.tail.tail.tail.tail.tail.head.c0, HS17.out.all.tail.tail.tail.tail.tail.tail.tail.tail.tail.tail.tail.tail.head.c1, HS17.out.all.tail.tail.tail.tail.tail.tail.tail.tail.tail.tail.tail.tail.head.c2, HS17.out.all.tail.tail.tail.tail.tail.tail.tail.tail.tail.tail.tail.tail.head.c3⟩ | with_reducible exact ⟨HS18.out.all.tail.tail.tail.tail.head.c0, HS18.out.all.tail.tail.tail.tail.head.c1, HS18.out.all.tail.tail.tail.tail.head.c2, HS18.out.all.tail.tail.tail.tail.head.c3, HS18.out.all.tail.head.c0, HS18.out.all.tail.head.c1, HS18.out.all.tail.head.c2, HS18.out.all.tail.head.c3, HS18.out.all.head.c0, HS18.out.all.head.c1, HS18.out.all.head.c2, HS18.out.all.head.c3, HS18.out.all.tail.tail.tail.tail.tail.tail.tail.tail.tail.tail.tail.tail.head.c0, HS18.out.all.tail.tail.tail.tail.tail.tail.tail.tail.tail.tail.tail.tail.head.c1, HS18.out.all.tail.tail.tail.tail.tail.tail.tail.tail.tail.tail.tail.tail.head.c2, HS18.out.all.tail.tail.tail.tail.tail.tail.tail.tail.tail.tail.tail.tail.head.c3⟩)
      (first
        | (have hh := HS17; go_at_call 42; refine (valid_any _ _ N13 D13 HS17.out.all.tail.head.frac (G13.out.1.fine (by omega)) (hT.below HS17.out.bel)).mono ?_; rintro _ V18 ⟨rfl, hbt⟩
           have HS18 := Lib.hid (HS17.out.after hbt)
           clear hbt hh)
        | (have hh := HS16.out; go_at_call 39; refine (text_any _ _ x a HS16.out.all.tail.tail.tail.tail.tail.tail.tail.tail.tail.tail.tail.tail.head.frac (HX.out.1.fine (by omega)) (hT.below HS16.out.bel) (hP.below HS16.out.bel)).mono ?_; rintro _ V17 ⟨rfl, hbt⟩
           rw [← HT2.out.2]
           have HS17 := Lib.hid (HS16.out.after hbt)
           clear hbt hh)
        | (have hh := HS15.out; go_at_call 39; refine (text_any _ _ N14 D14 HS15.out.all.head.frac (G14.out.1.fine (by omega)) (hT.below HS15.out.bel) (hP.below HS15.out.bel)).mono ?_; rintro _ V16 ⟨rfl, hbt⟩
           rw [← HT2.out.1]
           have HS16 := Lib.hid (HS15.out.after hbt)
           clear hbt hh)
        | (go_at_call 38; refine (cmpFrac_any _ _ _ N10 N13 D10 D13 HS14d.out.all.tail.tail.tail.tail.head.frac HS14d.out.all.tail.head.frac (G10.out.1.fine (by omega)) (G13.out.1.fine (by omega)) (hT.below HS14d.out.bel)).mono ?_; rintro _ V15 ⟨rfl, hbt⟩
           rw [HPT.out]
           have HS15 := Lib.hid (HS14d.out.after hbt)
           clear hbt))
    all_goals (go_wp2_with fail; go_meet; exact ⟨by simp, by rw [HQ.out]; exact HS18.out⟩)
  case rest =>
  obtain ⟨rfl, hq⟩ := hcut
  rw [HQ.out] at hq
  have HS19 := Lib.hid hq
  clear hq HS14 HQ
  obtain ⟨s3, hs3⟩ : ∃ s3, s3 = hc.ba (textOf y b) := ⟨_, rfl⟩
  have HT3 := Lib.hid (And.intro hs3 (show s3.toList = [48] ↔ y = 0 by rw [hs3]; exact text_zero y b 4 HX.out.2.1))
  clear hs3
  have p0 := HS19.out.all.tail.tail.tail.tail.tail.tail.tail.tail.tail.tail.tail.head.c0
  have p1 := HS19.out.all.tail.tail.tail.tail.tail.tail.tail.tail.tail.tail.tail.head.c1
  have p2 := HS19.out.all.tail.tail.tail.tail.tail.tail.tail.tail.tail.tail.tail.head.c2
  have p3 := HS19.out.all.tail.tail.tail.tail.tail.tail.tail.tail.tail.tail.tail.head.c3
  go_wp2_with fail
  refine (text_any _ _ y b HS19.out.all.tail.tail.tail.tail.tail.tail.tail.tail.tail.tail.tail.head.frac (HX.out.2.1.fine (by omega)) (hT.below HS19.out.bel) (hP.below HS19.out.bel)).mono ?_
  rintro _ V20 ⟨rfl, hb20⟩
  rw [← HT3.out.1]
  have HS20 := Lib.hid (HS19.out.after hb20)
  clear hb20 p0 p1 p2 p3 HS19
  by_cases hy : y = 0
  · have hz : (s3.toList == [48]) = true := beq_iff_eq.2 (HT3.out.2.2 hy)
    have hy0 := Lib.hid hy
    clear hy
    have p0 := HS20.out.all.tail.tail.tail.tail.tail.tail.tail.tail.tail.tail.tail.tail.head.c0
    have p1 := HS20.out.all.tail.tail.tail.tail.tail.tail.tail.tail.tail.tail.tail.tail.head.c1
    have p2 := HS20.out.all.tail.tail.tail.tail.tail.tail.tail.tail.tail.tail.tail.tail.head.c2
    have p3 := HS20.out.all.tail.tail.tail.tail.tail.tail.tail.tail.tail.tail.tail.tail.head.c3
    have q0 := HS20.out.all.tail.tail.tail.tail.tail.tail.tail.tail.tail.tail.tail.head.c0
    have q1 := HS20.out.all.tail.tail.tail.tail.tail.tail.tail.tail.tail.tail.tail.head.c1
    have q2 := HS20.out.all.tail.tail.tail.tail.tail.tail.tail.tail.tail.tail.tail.head.c2
    have q3 := HS20.out.all.tail.tail.tail.tail.tail.tail.tail.tail.tail.tail.tail.head.c3
    go_wp2_with fail
    refine (divFrac_none _ _ _ x a b HS20.out.all.tail.tail.tail.tail.tail.tail.tail.tail.tail.tail.tail.tail.head.frac (hy0.out ▸ HS20.out.all.tail.tail.tail.tail.tail.tail.tail.tail.tail.tail.tail.head.frac) (HX.out.1.fine (by omega)) (hy0.out ▸ HX.out.2.1.fine (by omega)) (hT.below HS20.out.bel)).mono ?_
    rintro _ V21 ⟨v21, rfl, hI21, hb21⟩
    have H21 := Lib.hid (HS20.out.after hb21).bel
    obtain ⟨A9, c9, B9, k9, rfl, R9, S9⟩ := hI21
    clear hb21 p0 p1 p2 p3 q0 q1 q2 q3 R9 S9 hz
    go_wp2_with fail
    go_ret
    exact ⟨rfl, H21.out⟩
  · have hz : (s3.toList == [48]) = false := beq_eq_false_iff_ne.2 (fun e => hy (HT3.out.2.1 e))
    have hy0 := Lib.hid hy
    clear hy
    -- k := div q b
    have p0 := HS20.out.all.tail.tail.tail.head.c0
    have p1 := HS20.out.all.tail.tail.tail.head.c1
    have p2 := HS20.out.all.tail.tail.tail.head.c2
    have p3 := HS20.out.all.tail.tail.tail.head.c3
    have q0 := HS20.out.all.tail.tail.tail.tail.tail.tail.tail.tail.tail.tail.tail.head.c0
    have q1 := HS20.out.all.tail.tail.tail.tail.tail.tail.tail.tail.tail.tail.tail.head.c1
    have q2 := HS20.out.all.tail.tail.tail.tail.tail.tail.tail.tail.tail.tail.tail.head.c2
    have q3 := HS20.out.all.tail.tail.tail.tail.tail.tail.tail.tail.tail.tail.tail.head.c3
    go_wp2_with fail
    refine (div_good 8 4 _ _ _ HS20.out.all.tail.tail.tail.head.frac HS20.out.all.tail.tail.tail.tail.tail.tail.tail.tail.tail.tail.tail.head.frac G11.out.1 HX.out.2.1 (by omega) hy0.out (hT.below HS20.out.bel)).mono ?_
    rintro _ V22 ⟨Aa22, cc22, Bb22, kk22, N22, D22, rfl, R22, S22, hb22, G22⟩
    have T22 := (HS20.out.after hb22).more R22 S22
    clear p0 p1 p2 p3 q0 q1 q2 q3 HS20
    go_upto_region 23 with fail
    obtain ⟨U22, hU⟩ : ∃ U22, U22 = V22.alloc (.cells #[.bool (decide (N22 < 0)), .slice Aa22 (digs N22.natAbs).length cc22, .bool false, .slice Bb22 (digs D22).length kk22] 50) := ⟨_, rfl⟩
    rw [← hU] at T22 ⊢
    clear hU R22 S22 hb22
    generalize V22.heap.size = g22 at *
    have HS22 := Lib.hid T22
    clear T22
    have hka : N22 = x ∧ D22 = a := q_inj G22.out.1 HX.out.1 (by
      have hb := q_ne HX.out.2.1.d0 hy0.out
      rw [G22.out.2, G11.out.2]
      grind)
    have hka2 : fw.order (N22 * a) (x * D22) = 0 := by
      rw [hka.1, hka.2]
      exact order_self _
    have HT4 := Lib.hid (And.intro (show s2 = hc.ba (textOf N22 D22) by rw [hka.1, hka.2]; exact HT2.out.2) HT2.out.2)
    have HKA := Lib.hid hka2
    clear hka hka2
    have p0 := HS22.out.all.head.c0
    have p1 := HS22.out.all.head.c1
    have p2 := HS22.out.all.head.c2
    have p3 := HS22.out.all.head.c3
    have q0 := HS22.out.all.tail.tail.tail.tail.tail.tail.tail.tail.tail.tail.tail.tail.tail.head.c0
    have q1 := HS22.out.all.tail.tail.tail.tail.tail.tail.tail.tail.tail.tail.tail.tail.tail.head.c1
    have q2 := HS22.out.all.tail.tail.tail.tail.tail.tail.tail.tail.tail.tail.tail.tail.tail.head.c2
    have q3 := HS22.out.all.tail.tail.tail.tail.tail.tail.tail.tail.tail.tail.tail.tail.tail.head.c3
    have HS22d := Lib.hid HS22.out.draw
    go_wp2_with fail
    go_region_held3 (fun w' => w'.cell? ⟨g22, 0, none⟩ = some (.bool (decide (N22 < 0))) ∧ w'.cell? ⟨g22, 1, none⟩ = some (.slice Aa22 (digs N22.natAbs).length cc22) ∧ w'.cell? ⟨g22, 2, none⟩ = some (.bool false) ∧ w'.cell? ⟨g22, 3, none⟩ = some (.slice Bb22 (digs D22).length kk22) ∧ w'.cell? ⟨gt, 0, none⟩ = some (.bool (decide (x < 0))) ∧ w'.cell? ⟨gt, 1, none⟩ = some (.slice A1 (digs x.natAbs).length c1) ∧ w'.cell? ⟨gt, 2, none⟩ = some (.bool false) ∧ w'.cell? ⟨gt, 3, none⟩ = some (.slice B1 (digs a).length e1))
      (first | with_reducible exact ⟨HS22.out.all.head.c0, HS22.out.all.head.c1, HS22.out.all.head.c2, HS22.out.all.head.c3, HS22.out.all.tail.tail.tail.tail.tail.tail.tail.tail.tail.tail.tail.tail.tail.head.c0, HS22.out.all.tail.tail.tail.tail.tail.tail.tail.tail.tail.tail.tail.tail.tail.head.c1, HS22.out.all.tail.tail.tail.tail.tail.tail.tail.tail.tail.tail.tail.tail.tail.head.c2, HS22.out.all.tail.tail.tail.tail.tail.tail.tail.tail.tail.tail.tail.tail.tail.head.c3⟩ | with_reducible exact ⟨HS22d.out.all.head.c0, HS22d.out.all.head.c1, HS22d.out.all.head.c2, HS22d.out.all.head.c3, HS22d.out.all.tail.tail.tail.tail.tail.tail.tail.tail.tail.tail.tail.tail.tail.head.c0, HS22d.out.all.tail.tail.tail.tail.tail.tail.tail.tail.tail.tail.tail.tail.tail.head.c1, HS22d.out.all.tail.tail.tail.tail.tail.tail.tail.tail.tail.tail.tail.tail.tail.head.c2, HS22d.out.all.tail.tail.tail.tail.tail.tail.tail.tail.tail.tail.tail.tail.tail.head.c3⟩ | with_reducible exact ⟨HS23.out.all.head.c0, HS23.out.all.head.c1, HS23.out.all.head.c2, HS23.out.all.head.c3, HS23.out.all.tail.tail.tail.tail.tail.tail.tail.tail.tail.tail.tail.tail.tail.head.c0, HS23.out.all.tail.tail.tail.tail.tail.tail.tail.tail.tail.tail.tail.tail.tail.head.c1, HS23.out.all.tail.tail.tail.tail.tail.tail.tail.tail.tail.tail.tail.tail.tail.head.c2, HS23.out.all.tail.tail.tail.tail.tail.tail.tail.tail.tail.tail.tail.tail.tail.head.c3⟩ | with_reducible exact ⟨HS24.out.all.head.c0, HS24.out.all.head.c1, HS24.out.all.head.c2, HS24.out.all.head.c3, HS24.out.all.tail.tail.tail.tail.tail.tail.tail.tail.tail.tail.tail.tail.tail.head.c0, HS24.out.all.tail.tail.tail.tail.tail.tail.tail.tail.tail.tail.tail.tail.tail.head.c1, HS24.out.all.tail.tail.tail.tail.tail.tail.tail.tail.tail.tail.tail.tail.tail.head.c2, HS24.out.all.tail.tail.tail.tail.tail.tail.tail.tail.tail.tail.tail.tail.tail.head.c3⟩ | with_reducible exact ⟨HS25.out.all.head.c0, HS25.out.all.head.c1, HS25.out.all.head.c2, HS25.out.all.head.c3, HS25.out.all.tail.tail.tail.tail.tail.tail.tail.tail.tail.tail.tail.tail.tail.head.c0, HS25.out.all.tail.tail.tail.tail.tail.tail.tail.tail.tail.tail.tail.tail.tail.head.c1, HS25.out.all.tail.tail.tail.tail.tail.tail.tail.tail.tail.tail.tail.tail.tail.head.c2, HS25.out.all.tail.tail.tail.tail.tail.tail.tail.tail.tail.tail.tail.tail.tail.head.c3⟩)
      (first
        | (have hh := HS24.out; go_at_call 39; refine (text_any _ _ x a HS24.out.all.tail.tail.tail.tail.tail.tail.tail.tail.tail.tail.tail.tail.tail.head.frac (HX.out.1.fine (by omega)) (hT.below HS24.out.bel) (hP.below HS24.out.bel)).mono ?_; rintro _ V25 ⟨rfl, hbt⟩
           rw [← HT4.out.2]
           have HS25 := Lib.hid (HS24.out.after hbt)
           clear hbt hh)
        | (have hh := HS23.out; go_at_call 39; refine (text_any _ _ N22 D22 HS23.out.all.head.frac (G22.out.1.fine (by omega)) (hT.below HS23.out.bel) (hP.below HS23.out.bel)).mono ?_; rintro _ V24 ⟨rfl, hbt⟩
           rw [← HT4.out.1]
           have HS24 := Lib.hid (HS23.out.after hbt)
           clear hbt hh)
        | (go_at_call 38; refine (cmpFrac_any _ _ _ N22 x D22 a HS22d.out.all.head.frac HS22d.out.all.tail.tail.tail.tail.tail.tail.tail.tail.tail.tail.tail.tail.tail.head.frac (G22.out.1.fine (by omega)) (HX.out.1.fine (by omega)) (hT.below HS22d.out.bel)).mono ?_; rintro _ V23 ⟨rfl, hbt⟩
           rw [HKA.out]
           have HS23 := Lib.hid (HS22d.out.after hbt)
           clear hbt))
    all_goals (go_wp2_with fail; go_ret; exact ⟨by simp, HS25.out.bel⟩)

end Go.Proofs.YtfnfnagdecpobaaDoor.nc
