/- law 01: FractionBigs. -/
import Derived.Test.YtfnfnagdecpobaaDoorRh
import Derived.Test.YtfnfnagdecpobaaDoorRn
import Derived.Test.YtfnfnagdecpobaaDoorRk
import Derived.Test.YtfnfnagdecpobaaDoorRo
set_option linter.unusedSimpArgs false
set_option linter.unusedVariables false
namespace Go.Proofs.YtfnfnagdecpobaaDoor.ri
open Go.RowKit Go.Proofs.YtfnfnagdecpobaaDoor.fm Go.Proofs.YtfnfnagdecpobaaDoor.mem Go.Proofs.YtfnfnagdecpobaaDoor.fa Go.Proofs.YtfnfnagdecpobaaDoor.fb Go.Proofs.YtfnfnagdecpobaaDoor.fj Go.Proofs.YtfnfnagdecpobaaDoor.fu Go.Proofs.YtfnfnagdecpobaaDoor.fv Go.Proofs.YtfnfnagdecpobaaDoor.fw Go.Proofs.YtfnfnagdecpobaaDoor.fx Go.Proofs.YtfnfnagdecpobaaDoor.fy Go.Proofs.YtfnfnagdecpobaaDoor.fz Go.Proofs.YtfnfnagdecpobaaDoor.gc Go.Proofs.YtfnfnagdecpobaaDoor.gf Go.Proofs.YtfnfnagdecpobaaDoor.hb Go.Proofs.YtfnfnagdecpobaaDoor.hf Go.Proofs.YtfnfnagdecpobaaDoor.hg Go.Proofs.YtfnfnagdecpobaaDoor.hh Go.Proofs.YtfnfnagdecpobaaDoor.mill Go.Proofs.YtfnfnagdecpobaaDoor.jh Go.Proofs.YtfnfnagdecpobaaDoor.pc Go.Proofs.YtfnfnagdecpobaaDoor.rf Go.Proofs.YtfnfnagdecpobaaDoor.rg Go.Proofs.YtfnfnagdecpobaaDoor.rh


set_option maxRecDepth 100000 in
set_option maxHeartbeats 20000000 in
theorem bigs_any (w : World) (A : Option Addr) (c : Nat) (l : List Nat) (S : Seeds w w.heap.size A c l) (hl : l.length ≤ maxLen) (what n : Int) (hn1 : -9223372036854775808 ≤ what) (hn2 : what < 9223372036854775808) (hm1 : -9223372036854775808 ≤ n) (hm2 : n < 9223372036854775808) (hT : Tabs w) (hP : Pow w) :
    Calls Tryd.prog 3 #[.slice A l.length c, .int .i64 what, .int .i64 n] w fun e w' => e = .returned (.bool true) ∧ Below w.heap.size w w' := by
  go_enter Tryd.func3, Tryd.ntmps3
  have HS := Lib.hid S
  have HI := Lib.hid (And.intro (And.intro hn1 hn2) (And.intro hm1 hm2))
  clear S hn1 hn2 hm1 hm2
  go_wp2_with fail
  refine (sane_any w hT hP).mono ?_
  rintro _ W1 ⟨rfl, hb1⟩
  go_wp2_with fail
  refine (new_any W1 A c l ((HS.out.below hb1).more hb1.size) hl).mono ?_
  rintro _ W2 ⟨rfl, hD2, hb2⟩
  obtain ⟨l2, hl2⟩ : ∃ l2, l2 = l.take 300 := ⟨_, rfl⟩
  rw [← hl2] at hD2
  clear hl2
  have H2 := Lib.hid (hb1.trans (hb2.mono hb1.size))
  have Hg : w.heap.size ≤ W1.heap.size := hb1.size
  generalize W1.heap.size = g at *
  clear hb1 hb2
  go_wp2_with fail
  refine (diceBig_any W2 g l2 0 hD2).mono ?_
  rintro _ W3 ⟨v3, z1, k3, rfl, hI3, hx0, hD3, hK3⟩
  go_wp2_with fail
  refine (diceBig_any W3 g l2 k3 hD3).mono ?_
  rintro _ W4 ⟨v4, z2, k4, rfl, hI4, hy0, hD4, hK4⟩
  have hI3' := isBig_kept hI3 hK4
  obtain ⟨A1, c1, rfl, R1⟩ := hI3'
  obtain ⟨A2, c2, rfl, R2⟩ := hI4
  have h4 : Below w.heap.size w W4 := H2.out.trans ((hK3.trans hK4).bel.mono Hg)
  have hAB := ab_new h4 R1 R2
  have HAB0 := Lib.hid hAB
  clear hI3 hK3 hK4 hD2 hD3 hD4 h4 hAB R1 R2 H2
  go_upto_region 5 with fail
  obtain ⟨W5, hW5⟩ : ∃ W5, W5 = (W4.alloc (.cells #[.bool (decide (z1 < 0)), .slice A1 (digs z1.natAbs).length c1] 28)).alloc (.cells #[.bool (decide (z2 < 0)), .slice A2 (digs z2.natAbs).length c2] 28) := ⟨_, rfl⟩
  rw [← hW5] at HAB0 ⊢
  clear hW5
  generalize W4.heap.size = g8 at *
  have HX := Lib.hid (And.intro hx0 hy0)
  clear hx0 hy0
  refine rn.reg5 _ ?hc5 HAB0 HX HI _ _ _ _ _ _ _ _ _ _ _ _ _ _ _ _ _ _ _ _ _ _ _ _ _ _ _ _ _ _ _ _ _ _ _ _ _ _ _ _ _ _ _ _ _ _ _ _ _ _ _ _ _ _ _ _ _ _ _ _ _ _ _ _ _ _ _ _ _ _ _ _ _ _ _ _ _ _ _ _ _ _ _ _ _ _ _ _ _ _ _ _ _ _ _ _ _ _ _ _ _ _ _ _ _ _ _ _ _ _ _ _ _ _ _ _ _ _ _ _ _ _ _ _ _ _ _ _ _ _ _ _ _ _ _ _ _ _ _ _ _ _ _ _ _ _ _ _ _ _ _ _ _ _ _ _ _ _ _ _ _ _ _ _ _ _ _ _ _ _ _ _ _ _ _ _ _ _ _ _ _ _ _ _ _ _ _ _ _ _ _ _ _ _ _ _ _ _ _ _ _ _ _ _ _ _ _ _ _ _ _ _ _ _ _ _ _ _ _ _ _ _ _ _ _ _ _ _ _ _ _ _ _ _ _ _ _ _ _ _ _ _ _ _ _ _ _ _ _ _ _ _ _ ?_
  case hc5 => kernel_rfl
  intro t36 t37 t38 t39 t40 t41 t42 t43 t44 t45 t46 t47 t48 t49 t50 t51 t52 t53 t54 t55 t56 t57 t58 t59 t60 t61 t62 t63 w9 gb es e1 e2 e3 P7
  subst e1 e2 e3
  clear HAB0 HX
  go_upto_region 6 with fail
  go_loopw [63] (fun i wr => ∃ k : Nat, k ≤ 6 ∧ i = .int .i64 (k : Int) ∧ Row6 w wr gb es) (fun i _ => 6 - (intOf i).toNat)
  case atStart => exact ⟨0, by decide, rfl, P7⟩
  case round =>
    clear P7
    obtain ⟨k, hk, rfl, P⟩ := hrel
    have HP := Lib.hid P
    clear P
    by_cases hk6 : k < 6
    · obtain ⟨A4, c4, A5, c5, h0, h1, h2, h3, R4, R5⟩ := HP.out.at' k hk6
      have hlen := HP.out.len k hk6
      generalize es k = ek at *
      obtain ⟨⟨n1, y1⟩, ⟨n2, y2⟩⟩ := ek
      dsimp only at h0 h1 h2 h3 R4 R5 hlen
      obtain ⟨Za, ka, la, ha⟩ := both_add n1 y1 n2 y2 (by omega) (by omega)
      obtain ⟨Zs, ks, ls, hs⟩ := both_sub n1 y1 n2 y2 (by omega) (by omega)
      obtain ⟨Zm, km, lm, hm⟩ := both_mul n1 y1 n2 y2 (by omega) (by omega)
      obtain ⟨kc, hc⟩ := both_cmp n1 y1 n2 y2 (by omega) (by omega)
      obtain ⟨ki, oi, hi⟩ := both_int n1 y1 (by omega)
      obtain ⟨ov, hv⟩ := both_valid n1 y1 (by omega)
      obtain ⟨tx, ht⟩ := both_text n1 y1 (by omega)
      obtain ⟨Zq, Zr, kd, lq, lr, hd⟩ := both_div n1 y1 n2 y2 (by omega) (by omega)
      have Ha := Lib.hid (And.intro la ha)
      have Hs := Lib.hid (And.intro ls hs)
      have Hm := Lib.hid (And.intro lm hm)
      have Hc := Lib.hid hc
      have Hi := Lib.hid hi
      have Hv := Lib.hid hv
      have Ht := Lib.hid ht
      have Hd := Lib.hid (And.intro lq (And.intro lr hd))
      have HLen := Lib.hid hlen
      clear la ha ls hs lm hm hc hi hv ht lq lr hd hlen
      have hkz : (k : Int) < 6 := by omega
      go_upto_region 8 with fail
      have hbV : Below wr.heap.size wr (wr.alloc (.cells #[.bool n1, .slice A4 y1.length c4, .bool n2, .slice A5 y2.length c5] 30)) := (Below.refl _ _).alloc (Nat.le_refl _) _
      have hRS : RS w (wr.alloc (.cells #[.bool n1, .slice A4 y1.length c4, .bool n2, .slice A5 y2.length c5] 30)) gb es wr.heap.size n1 y1 A4 c4 n2 y2 A5 c5 [] :=
        ⟨HP.out.after hbV, pairG_new R4 R5 _, HP.out.lt, fun e he => absurd he (by simp), List.Pairwise.nil⟩
      obtain ⟨V, hV⟩ : ∃ V, V = wr.alloc (.cells #[.bool n1, .slice A4 y1.length c4, .bool n2, .slice A5 y2.length c5] 30) := ⟨_, rfl⟩
      rw [← hV] at hRS ⊢
      have HR0 := Lib.hid hRS
      generalize wr.heap.size = gp at *
      clear hV hbV hRS h0 h1 h2 h3 R4 R5 HP
      obtain ⟨p0, p1, p2, p3⟩ := HR0.out.G.held
      go_wp2_with fail
      refine ((Ha.out.2 V _ _ HR0.out.G.fst HR0.out.G.snd).1).mono ?_
      rintro _ X1 ⟨v1, rfl, ⟨B1, d1, rfl, RB1⟩, hb1⟩
      have hR1 := HR0.out.new hb1 RB1
      clear p0 p1 p2 p3 HR0
      go_upto_region 9 with fail
      obtain ⟨U1, hU1⟩ : ∃ U1, U1 = X1.alloc (.cells #[.bool (decide (Za < 0)), .slice B1 (digs Za.natAbs).length d1] 28) := ⟨_, rfl⟩
      rw [← hU1] at hR1 ⊢
      generalize X1.heap.size = g1 at *
      have HR1 := Lib.hid hR1
      clear hU1 hR1 RB1 hb1
      obtain ⟨p0, p1, p2, p3⟩ := HR1.out.G.held
      go_wp2_with fail
      refine ((Ha.out.2 U1 _ _ HR1.out.G.fst HR1.out.G.snd).2).mono ?_
      rintro _ X2 ⟨v2, rfl, ⟨B2, d2, rfl, RB2⟩, hb2⟩
      have hR2 := HR1.out.new hb2 RB2
      clear p0 p1 p2 p3 HR1
      go_upto_region 10 with fail
      obtain ⟨U2, hU2⟩ : ∃ U2, U2 = X2.alloc (.cells #[.bool (decide (Za < 0)), .slice B2 (digs Za.natAbs).length d2] 28) := ⟨_, rfl⟩
      rw [← hU2] at hR2 ⊢
      generalize X2.heap.size = g2 at *
      have HR2 := Lib.hid hR2
      clear hU2 hR2 RB2 hb2
      obtain ⟨p0, p1, p2, p3⟩ := HR2.out.G.held
      go_wp2_with fail
      refine ((Hs.out.2 U2 _ _ HR2.out.G.fst HR2.out.G.snd).1).mono ?_
      rintro _ X3 ⟨v3, rfl, ⟨B3, d3, rfl, RB3⟩, hb3⟩
      have hR3 := HR2.out.new hb3 RB3
      clear p0 p1 p2 p3 HR2
      go_upto_region 11 with fail
      obtain ⟨U3, hU3⟩ : ∃ U3, U3 = X3.alloc (.cells #[.bool (decide (Zs < 0)), .slice B3 (digs Zs.natAbs).length d3] 28) := ⟨_, rfl⟩
      rw [← hU3] at hR3 ⊢
      generalize X3.heap.size = g3 at *
      have HR3 := Lib.hid hR3
      clear hU3 hR3 RB3 hb3
      obtain ⟨p0, p1, p2, p3⟩ := HR3.out.G.held
      go_wp2_with fail
      refine ((Hs.out.2 U3 _ _ HR3.out.G.fst HR3.out.G.snd).2).mono ?_
      rintro _ X4 ⟨v4, rfl, ⟨B4, d4, rfl, RB4⟩, hb4⟩
      have hR4 := HR3.out.new hb4 RB4
      clear p0 p1 p2 p3 HR3
      go_upto_region 12 with fail
      obtain ⟨U4, hU4⟩ : ∃ U4, U4 = X4.alloc (.cells #[.bool (decide (Zs < 0)), .slice B4 (digs Zs.natAbs).length d4] 28) := ⟨_, rfl⟩
      rw [← hU4] at hR4 ⊢
      generalize X4.heap.size = g4 at *
      have HR4 := Lib.hid hR4
      clear hU4 hR4 RB4 hb4
      have e1 : (ka != ka) = false := by simp
      have e2 : (ks != ks) = false := by simp
      have E12 := Lib.hid (And.intro e1 e2)
      clear e1 e2
      have x0 := HR4.out.tl.tl.tl.hd.c0
      have x1 := HR4.out.tl.tl.tl.hd.c1
      have x2 := HR4.out.tl.tl.hd.c0
      have x3 := HR4.out.tl.tl.hd.c1
      dsimp only at x0 x1 x2 x3
      go_wp2_with fail
      refine (rsame_any U4 _ _ Za HR4.out.tl.tl.tl.hd.big HR4.out.tl.tl.hd.big (Nat.le_trans Ha.out.1 (by decide))).mono ?_
      rintro _ Y1 ⟨rfl, hy1⟩
      have HQ1 := Lib.hid (HR4.out.after hy1)
      clear x0 x1 x2 x3 hy1 HR4
      have x0 := HQ1.out.tl.hd.c0
      have x1 := HQ1.out.tl.hd.c1
      have x2 := HQ1.out.hd.c0
      have x3 := HQ1.out.hd.c1
      dsimp only at x0 x1 x2 x3
      go_wp2_with fail
      refine (rsame_any Y1 _ _ Zs HQ1.out.tl.hd.big HQ1.out.hd.big (Nat.le_trans Hs.out.1 (by decide))).mono ?_
      rintro _ Y2 ⟨rfl, hy2⟩
      have HQ2 := Lib.hid ((HQ1.out.after hy2).tl.tl)
      clear x0 x1 x2 x3 hy2 HQ1
      obtain ⟨p0, p1, p2, p3⟩ := HQ2.out.G.held
      go_wp2_with fail
      refine ((Hm.out.2 Y2 _ _ HQ2.out.G.fst HQ2.out.G.snd).1).mono ?_
      rintro _ X5 ⟨v5, rfl, ⟨B5, d5, rfl, RB5⟩, hb5⟩
      have hS5 := (HQ2.out.after hb5).swap
      have x0 := hS5.hd.c0
      have x1 := hS5.hd.c1
      have f0 := hS5.fr 0
      have f1 := hS5.fr 1
      dsimp only at x0 x1 f0 f1
      have hT5 := hS5.put RB5
      clear p0 p1 p2 p3 HQ2 hS5
      go_upto_region 15 with fail
      obtain ⟨U5, hU5⟩ : ∃ U5, U5 = (X5.setCell ⟨g1, 0, none⟩ (.bool (decide (Zm < 0)))).setCell ⟨g1, 1, none⟩ (.slice B5 (digs Zm.natAbs).length d5) := ⟨_, rfl⟩
      rw [← hU5] at hT5 ⊢
      have HR5 := Lib.hid hT5
      clear hU5 hT5 RB5 hb5 x0 x1 f0 f1
      obtain ⟨p0, p1, p2, p3⟩ := HR5.out.G.held
      go_wp2_with fail
      refine ((Hm.out.2 U5 _ _ HR5.out.G.fst HR5.out.G.snd).2).mono ?_
      rintro _ X6 ⟨v6, rfl, ⟨B6, d6, rfl, RB6⟩, hb6⟩
      have hS6 := (HR5.out.after hb6).swap
      have x0 := hS6.hd.c0
      have x1 := hS6.hd.c1
      have f0 := hS6.fr 0
      have f1 := hS6.fr 1
      dsimp only at x0 x1 f0 f1
      have hT6 := (hS6.put RB6).swap
      clear p0 p1 p2 p3 HR5 hS6
      go_upto_region 16 with fail
      obtain ⟨U6, hU6⟩ : ∃ U6, U6 = (X6.setCell ⟨g2, 0, none⟩ (.bool (decide (Zm < 0)))).setCell ⟨g2, 1, none⟩ (.slice B6 (digs Zm.natAbs).length d6) := ⟨_, rfl⟩
      rw [← hU6] at hT6 ⊢
      have HR6 := Lib.hid hT6
      clear hU6 hT6 RB6 hb6 x0 x1 f0 f1
      refine rk.reg16 _ ?hc16 (Lib.hid HR6.out.swap) (Lib.hid Hm.out.1) Hc _ _ _ _ _ _ _ _ _ _ _ _ _ _ _ _ _ _ _ _ _ _ _ _ _ _ _ _ _ _ _ _ _ _ _ _ _ _ _ _ _ _ _ _ _ _ _ _ _ _ _ _ _ _ _ _ _ _ _ _ _ _ _ _ _ _ _ _ _ _ _ _ _ _ _ _ _ _ _ _ _ _ _ _ _ _ _ _ _ _ _ _ _ _ _ _ _ _ _ _ _ _ _ _ _ _ _ _ _ _ _ _ _ _ _ _ _ _ _ _ _ _ _ _ _ _ _ _ _ _ _ _ _ _ _ _ _ _ _ _ _ _ _ _ _ _ _ _ _ _ _ _ _ _ _ _ _ _ _ _ _ _ _ _ _ _ _ _ _ _ _ _ _ _ _ _ _ _ _ _ _ _ _ _ _ _ _ _ _ _ _ _ _ _ _ _ _ _ _ _ _ _ _ _ _ _ _ _ _ _ _ _ _ _ _ _ _ _ _ _ _ _ _ _ _ _ _ _ _ _ _ _ _ _ _ _ _ _ _ _ _ _ _ _ _ _ _ _ _ _ _ _ ?_
      case hc16 => kernel_rfl
      intro s135 s136 s137 s138 s139 s140 s141 s142 s143 s144 s145 s146 s147 s148 s149 s150 s151 s152 s153 s154 s155 s156 wc e1 HR7
      subst e1
      clear HR6
      obtain ⟨p0, p1, p2, p3⟩ := HR7.out.G.held
      go_upto_region 18 with fail
      go_wp2_with fail
      refine ((Hi.out wc _ HR7.out.G.fst).1).mono ?_
      rintro _ Z4 ⟨rfl, hz4⟩
      have HR8 := Lib.hid (HR7.out.after hz4)
      clear p0 p1 p2 p3 hz4 HR7
      obtain ⟨p0, p1, p2, p3⟩ := HR8.out.G.held
      go_wp2_with fail
      refine ((Hi.out Z4 _ HR8.out.G.fst).2).mono ?_
      rintro _ Z5 ⟨rfl, hz5⟩
      have HR9 := Lib.hid (HR8.out.after hz5)
      clear p0 p1 p2 p3 hz5 HR8
      have HPw := Lib.hid (And.intro HI.out.2.1 (And.intro HI.out.2.2 (Nat.le_trans (int_len HI.out.2.1 HI.out.2.2) (show 2 ≤ 100000000 by decide))))
      go_upto_region 20 with fail
      refine ro.reg20 _ ?hc20 HR9 (Lib.hid hP) HPw Hv Ht _ _ _ _ _ _ _ _ _ _ _ _ _ _ _ _ _ _ _ _ _ _ _ _ _ _ _ _ _ _ _ _ _ _ _ _ _ _ _ _ _ _ _ _ _ _ _ _ _ _ _ _ _ _ _ _ _ _ _ _ _ _ _ _ _ _ _ _ _ _ _ _ _ _ _ _ _ _ _ _ _ _ _ _ _ _ _ _ _ _ _ _ _ _ _ _ _ _ _ _ _ _ _ _ _ _ _ _ _ _ _ _ _ _ _ _ _ _ _ _ _ _ _ _ _ _ _ _ _ _ _ _ _ _ _ _ _ _ _ _ _ _ _ _ _ _ _ _ _ _ _ _ _ _ _ _ _ _ _ _ _ _ _ _ _ _ _ _ _ _ _ _ _ _ _ _ _ _ _ _ _ _ _ _ _ _ _ _ _ _ _ _ _ _ _ _ _ _ _ _ _ _ _ _ _ _ _ _ _ _ _ _ _ _ _ _ _ _ _ _ _ _ _ _ _ _ _ _ _ _ _ _ _ _ _ _ _ _ _ _ _ _ _ _ _ _ _ _ _ _ _ ?_
      case hc20 => kernel_rfl
      intro r169 r170 r171 r172 r173 r174 r175 r176 r177 r178 r179 r180 r181 r182 r183 r184 r185 r186 r187 r188 r189 r190 r191 r192 r193 r194 r195 r196 r197 r198 r199 r200 r201 r202 r203 r204 r205 r206 r207 r208 r209 wd e1 HR10
      subst e1
      clear HR9
      obtain ⟨p0, p1, p2, p3⟩ := HR10.out.G.held
      by_cases hA : 9 < y1.length
      · have hzA : (9 : Int) < (y1.length : Int) := by omega
        have HEnd := Lib.hid HR10.out.P
        go_wp2_with fail
        exact ⟨⟨k + 1, by omega, by go_num, HEnd.out⟩, by simp [intOf]; omega⟩
      · have hzA : ¬ (9 : Int) < (y1.length : Int) := by omega
        by_cases hB : 9 < y2.length
        · have hzB : (9 : Int) < (y2.length : Int) := by omega
          have HEnd := Lib.hid HR10.out.P
          go_wp2_with fail
          exact ⟨⟨k + 1, by omega, by go_num, HEnd.out⟩, by simp [intOf]; omega⟩
        · have hzB : ¬ (9 : Int) < (y2.length : Int) := by omega
          go_wp2_with fail
          refine ((Hd.out.2.2 wd _ _ HR10.out.G.fst HR10.out.G.snd).1).mono ?_
          rintro _ X7 ⟨v7, u7, rfl, ⟨B7, d7, rfl, RB7⟩, ⟨B8, d8, rfl, RB8⟩, hb7⟩
          have hR7 := HR10.out.new2 hb7 RB7 RB8
          clear p0 p1 p2 p3 HR10
          go_upto_region 24 with fail
          obtain ⟨U7, hU7⟩ : ∃ U7, U7 = (X7.alloc (.cells #[.bool (decide (Zq < 0)), .slice B7 (digs Zq.natAbs).length d7] 28)).alloc (.cells #[.bool (decide (Zr < 0)), .slice B8 (digs Zr.natAbs).length d8] 28) := ⟨_, rfl⟩
          rw [← hU7] at hR7 ⊢
          generalize X7.heap.size = gq at *
          have HR11 := Lib.hid hR7
          clear hU7 hR7 RB7 RB8 hb7
          obtain ⟨p0, p1, p2, p3⟩ := HR11.out.G.held
          go_wp2_with fail
          refine ((Hd.out.2.2 U7 _ _ HR11.out.G.fst HR11.out.G.snd).2).mono ?_
          rintro _ X8 ⟨v8, u8, rfl, ⟨B9, d9, rfl, RB9⟩, ⟨B10, d10, rfl, RB10⟩, hb8⟩
          have hR8 := HR11.out.new2 hb8 RB9 RB10
          clear p0 p1 p2 p3 HR11
          go_upto_region 25 with fail
          obtain ⟨U8, hU8⟩ : ∃ U8, U8 = (X8.alloc (.cells #[.bool (decide (Zq < 0)), .slice B9 (digs Zq.natAbs).length d9] 28)).alloc (.cells #[.bool (decide (Zr < 0)), .slice B10 (digs Zr.natAbs).length d10] 28) := ⟨_, rfl⟩
          rw [← hU8] at hR8 ⊢
          generalize X8.heap.size = gr at *
          have HR12 := Lib.hid hR8
          clear hU8 hR8 RB9 RB10 hb8
          have e1 : (kd != kd) = false := by simp
          have x0 := HR12.out.tl.tl.tl.hd.c0
          have x1 := HR12.out.tl.tl.tl.hd.c1
          have x2 := HR12.out.tl.hd.c0
          have x3 := HR12.out.tl.hd.c1
          dsimp only at x0 x1 x2 x3
          go_wp2_with fail
          refine (rsame_any U8 _ _ Zq HR12.out.tl.tl.tl.hd.big HR12.out.tl.hd.big (Nat.le_trans Hd.out.1 (by decide))).mono ?_
          rintro _ Y3 ⟨rfl, hy3⟩
          have HQ3 := Lib.hid (HR12.out.after hy3)
          clear x0 x1 x2 x3 hy3 HR12
          have x0 := HQ3.out.tl.tl.hd.c0
          have x1 := HQ3.out.tl.tl.hd.c1
          have x2 := HQ3.out.hd.c0
          have x3 := HQ3.out.hd.c1
          dsimp only at x0 x1 x2 x3
          go_wp2_with fail
          refine (rsame_any Y3 _ _ Zr HQ3.out.tl.tl.hd.big HQ3.out.hd.big (Nat.le_trans Hd.out.2.1 (by decide))).mono ?_
          rintro _ Y4 ⟨rfl, hy4⟩
          have HEnd := Lib.hid (HQ3.out.after hy4).P
          clear x0 x1 x2 x3 hy4 HQ3
          go_wp2_with fail
          exact ⟨⟨k + 1, by omega, by go_num, HEnd.out⟩, by simp [intOf]; omega⟩
    · have hkz : ¬ (k : Int) < 6 := by omega
      have HB := Lib.hid HP.out.bel
      clear HP
      go_wp2_with fail
      go_ret
      exact ⟨rfl, HB.out⟩

end Go.Proofs.YtfnfnagdecpobaaDoor.ri
