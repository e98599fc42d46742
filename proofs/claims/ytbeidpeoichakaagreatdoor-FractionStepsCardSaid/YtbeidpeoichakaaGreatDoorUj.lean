/- FractionSteps: the law. -/
import Derived.Test.YtbeidpeoichakaaGreatDoorUh
import Derived.Test.YtbeidpeoichakaaGreatDoorUm
import Derived.Test.YtbeidpeoichakaaGreatDoorJi
import Derived.Test.YtbeidpeoichakaaGreatDoorHi
import Derived.Test.YtbeidpeoichakaaGreatDoorQa
import Derived.Test.YtbeidpeoichakaaGreatDoorKa
import Derived.Test.YtbeidpeoichakaaGreatDoorRe
import Derived.Deep.Cut
import Derived.Deep.DeepCutAuto
import Derived.Deep.CutBlock
import Derived.Deep.RegionHeld3
set_option linter.unusedSimpArgs false
set_option linter.unusedVariables false
namespace Go.Proofs.YtbeidpeoichakaaGreatDoor.uj
open Go.RowKit Go.Proofs.YtbeidpeoichakaaGreatDoor.fm Go.Proofs.YtbeidpeoichakaaGreatDoor.mem Go.Proofs.YtbeidpeoichakaaGreatDoor.fa Go.Proofs.YtbeidpeoichakaaGreatDoor.fb Go.Proofs.YtbeidpeoichakaaGreatDoor.fs Go.Proofs.YtbeidpeoichakaaGreatDoor.ft Go.Proofs.YtbeidpeoichakaaGreatDoor.fu Go.Proofs.YtbeidpeoichakaaGreatDoor.fv Go.Proofs.YtbeidpeoichakaaGreatDoor.fw Go.Proofs.YtbeidpeoichakaaGreatDoor.fx Go.Proofs.YtbeidpeoichakaaGreatDoor.fy Go.Proofs.YtbeidpeoichakaaGreatDoor.fz Go.Proofs.YtbeidpeoichakaaGreatDoor.ga Go.Proofs.YtbeidpeoichakaaGreatDoor.gb Go.Proofs.YtbeidpeoichakaaGreatDoor.gc Go.Proofs.YtbeidpeoichakaaGreatDoor.gd Go.Proofs.YtbeidpeoichakaaGreatDoor.gf Go.Proofs.YtbeidpeoichakaaGreatDoor.gg Go.Proofs.YtbeidpeoichakaaGreatDoor.fj Go.Proofs.YtbeidpeoichakaaGreatDoor.ja Go.Proofs.YtbeidpeoichakaaGreatDoor.jb Go.Proofs.YtbeidpeoichakaaGreatDoor.jg Go.Proofs.YtbeidpeoichakaaGreatDoor.jh Go.Proofs.YtbeidpeoichakaaGreatDoor.jj Go.Proofs.YtbeidpeoichakaaGreatDoor.jk Go.Proofs.YtbeidpeoichakaaGreatDoor.pa Go.Proofs.YtbeidpeoichakaaGreatDoor.pb Go.Proofs.YtbeidpeoichakaaGreatDoor.pc Go.Proofs.YtbeidpeoichakaaGreatDoor.na Go.Proofs.YtbeidpeoichakaaGreatDoor.nb Go.Proofs.YtbeidpeoichakaaGreatDoor.hb Go.Proofs.YtbeidpeoichakaaGreatDoor.hc Go.Proofs.YtbeidpeoichakaaGreatDoor.hd Go.Proofs.YtbeidpeoichakaaGreatDoor.ra Go.Proofs.YtbeidpeoichakaaGreatDoor.re Go.Proofs.YtbeidpeoichakaaGreatDoor.rb Go.Proofs.YtbeidpeoichakaaGreatDoor.rg Go.Proofs.YtbeidpeoichakaaGreatDoor.sa Go.Proofs.YtbeidpeoichakaaGreatDoor.sb Go.Proofs.YtbeidpeoichakaaGreatDoor.sc Go.Proofs.YtbeidpeoichakaaGreatDoor.ta Go.Proofs.YtbeidpeoichakaaGreatDoor.tb Go.Proofs.YtbeidpeoichakaaGreatDoor.ua Go.Proofs.YtbeidpeoichakaaGreatDoor.ub Go.Proofs.YtbeidpeoichakaaGreatDoor.uc Go.Proofs.YtbeidpeoichakaaGreatDoor.ud Go.Proofs.YtbeidpeoichakaaGreatDoor.ue Go.Proofs.YtbeidpeoichakaaGreatDoor.uf Go.Proofs.YtbeidpeoichakaaGreatDoor.ug Go.Proofs.YtbeidpeoichakaaGreatDoor.uh Go.Proofs.YtbeidpeoichakaaGreatDoor.hf Go.Proofs.YtbeidpeoichakaaGreatDoor.hg Go.Proofs.YtbeidpeoichakaaGreatDoor.hh Go.Proofs.YtbeidpeoichakaaGreatDoor.ji Go.Proofs.YtbeidpeoichakaaGreatDoor.mill Go.Proofs.YtbeidpeoichakaaGreatDoor.rf Go.Proofs.YtbeidpeoichakaaGreatDoor.ui

set_option maxRecDepth 100000 in
set_option maxHeartbeats 20000000 in
theorem steps_any (w : World) (A : Option Addr) (c : Nat) (l : List Nat) (S : Seeds w w.heap.size A c l) (hl : l.length ≤ maxLen) (num den what : Int) (hn1 : -9223372036854775808 ≤ num) (hn2 : num < 9223372036854775808) (hm1 : -9223372036854775808 ≤ den) (hm2 : den < 9223372036854775808) (hq1 : -9223372036854775808 ≤ what) (hq2 : what < 9223372036854775808) (hT : Tabs w) (hP : Pow w) :
    Calls Tryz.prog 3 #[.slice A l.length c, .int .i64 num, .int .i64 den, .int .i64 what] w fun e w' => e = .returned (.bool true) ∧ Below w.heap.size w w' := by
  go_enter Tryz.func3, Tryz.ntmps3
  have HS := Lib.hid S
  have HI := Lib.hid (And.intro (And.intro hn1 hn2) (And.intro (And.intro hm1 hm2) (And.intro hq1 hq2)))
  have HT := Lib.hid (And.intro hT hP)
  clear S hn1 hn2 hm1 hm2 hq1 hq2 hT hP
  go_wp2_with fail
  refine (sane_any w HT.out.1 HT.out.2).mono ?_
  rintro _ W1 ⟨rfl, hb1⟩
  go_wp2_with fail
  refine (new_any W1 A c l ((HS.out.below hb1).more hb1.size) hl).mono ?_
  rintro _ W2 ⟨rfl, hD2, hb2⟩
  obtain ⟨l2, hl2⟩ : ∃ l2, l2 = l.take 300 := ⟨_, rfl⟩
  rw [← hl2] at hD2
  clear hl2
  have H2 := Lib.hid (hb1.trans (hb2.mono hb1.size))
  have Hg : w.heap.size ≤ W1.heap.size := hb1.size
  generalize W1.heap.size = g at *
  clear hb1 hb2 HS
  go_wp2_with fail
  refine (diceFraction_any W2 g l2 0 hD2).mono ?_
  rintro _ W3 ⟨v3, z1, d1, k3, rfl, hI3, hs1, hD3, hK3⟩
  go_wp2_with fail
  refine (diceFraction_any W3 g l2 k3 hD3).mono ?_
  rintro _ W4 ⟨v4, z2, d2, k4, rfl, hI4, hs2, hD4, hK4⟩
  have hI3' := kb.isFrac_kept hI3 hK4
  obtain ⟨A1, c1', B1, m1, rfl, R1, S1⟩ := hI3'
  obtain ⟨A2, c2', B2, m2, rfl, R2, S2⟩ := hI4
  have h4 : Below w.heap.size w W4 := H2.out.trans ((hK3.trans hK4).bel.mono Hg)
  have HSm := Lib.hid (And.intro hs1 hs2)
  clear hI3 hK3 hK4 hD2 hD3 hD4 H2 hs1 hs2
  obtain ⟨na, hna⟩ : ∃ n, n = decide (z1 < 0) := ⟨_, rfl⟩
  obtain ⟨la, hla⟩ : ∃ n, n = digs z1.natAbs := ⟨_, rfl⟩
  obtain ⟨ka, hka⟩ : ∃ n, n = digs d1 := ⟨_, rfl⟩
  obtain ⟨nb, hnb⟩ : ∃ n, n = decide (z2 < 0) := ⟨_, rfl⟩
  obtain ⟨lb, hlb⟩ : ∃ n, n = digs z2.natAbs := ⟨_, rfl⟩
  obtain ⟨kb, hkb⟩ : ∃ n, n = digs d2 := ⟨_, rfl⟩
  rw [← hna, ← hla, ← hka, ← hnb, ← hlb, ← hkb]
  rw [← hla] at R1
  rw [← hka] at S1
  rw [← hlb] at R2
  rw [← hkb] at S2
  have lla : la.length ≤ 4 := by rw [hla]; exact HSm.out.1.hz
  have lka : ka.length ≤ 4 := by rw [hka]; exact HSm.out.1.hd
  have llb : lb.length ≤ 4 := by rw [hlb]; exact HSm.out.2.hz
  have lkb : kb.length ≤ 4 := by rw [hkb]; exact HSm.out.2.hd
  have HE := Lib.hid (And.intro (And.intro hna (And.intro hla hka)) (And.intro hnb (And.intro hlb hkb)))
  clear hna hla hka hnb hlb hkb HSm
  have hx1 := box_new (f := ⟨na, la, false, ka⟩) R1 S1 30
  have hy1 : Below W4.heap.size W4 (W4.alloc (.cells #[.bool na, .slice A1 la.length c1', .bool false, .slice B1 ka.length m1] 30)) := (Below.refl _ _).alloc (Nat.le_refl _) _
  have hz1 : (W4.alloc (.cells #[.bool na, .slice A1 la.length c1', .bool false, .slice B1 ka.length m1] 30)).heap.size = W4.heap.size + 1 := by simp
  obtain ⟨V5, hV5⟩ : ∃ V, V = W4.alloc (.cells #[.bool na, .slice A1 la.length c1', .bool false, .slice B1 ka.length m1] 30) := ⟨_, rfl⟩
  dsimp only at hx1
  rw [← hV5] at hx1 hy1 hz1
  have hx2 := box_new (W := V5) (f := ⟨nb, lb, false, kb⟩) ((R2.below hy1).more hy1.size) ((S2.below hy1).more hy1.size) 30
  have hy2 : Below V5.heap.size V5 (V5.alloc (.cells #[.bool nb, .slice A2 lb.length c2', .bool false, .slice B2 kb.length m2] 30)) := (Below.refl _ _).alloc (Nat.le_refl _) _
  dsimp only at hx2
  rw [hz1] at hx2
  go_upto_region 5 with fail
  rw [← hV5]
  obtain ⟨W5, hW5⟩ : ∃ W5, W5 = V5.alloc (.cells #[.bool nb, .slice A2 lb.length c2', .bool false, .slice B2 kb.length m2] 30) := ⟨_, rfl⟩
  rw [← hW5] at hx2 hy2 ⊢
  have hz5 : W5.heap.size = W4.heap.size + 1 + 1 := by rw [hW5]; simp [hz1]
  have H5 := Lib.hid (And.intro (h4.trans ((hy1.trans (hy2.mono hy1.size)).mono h4.size)) (And.intro (hx1.after hy2) hx2))
  have hG5 : w.heap.size ≤ W4.heap.size := h4.size
  clear hV5 hW5 hx1 hx2 hy1 hy2 hz1 h4 R1 S1 R2 S2 V5
  generalize W4.heap.size = ga at *
  have a0 := H5.out.2.1.cells.1
  have a1 := H5.out.2.1.cells.2.1
  have a2 := H5.out.2.1.cells.2.2.1
  have a3 := H5.out.2.1.cells.2.2.2
  dsimp only at a0 a1 a2 a3
  have hx3 := box_new (W := W5) (f := ⟨na, la, false, ka⟩) H5.out.2.1.at'.R H5.out.2.1.at'.S 30
  have hy3 : Below W5.heap.size W5 (W5.alloc (.cells #[.bool na, .slice A1 la.length c1', .bool false, .slice B1 ka.length m1] 30)) := (Below.refl _ _).alloc (Nat.le_refl _) _
  dsimp only at hx3
  go_upto_region 6 with fail
  obtain ⟨W6, hW6⟩ : ∃ W6, W6 = W5.alloc (.cells #[.bool na, .slice A1 la.length c1', .bool false, .slice B1 ka.length m1] 30) := ⟨_, rfl⟩
  rw [← hW6] at hx3 hy3 ⊢
  rw [hz5] at hx3
  have H6 := Lib.hid (And.intro (H5.out.1.trans (hy3.mono H5.out.1.size)) (And.intro (H5.out.2.1.after hy3) (And.intro (H5.out.2.2.after hy3) hx3)))
  clear hx3 hy3 hW6 hz5 H5 a0 a1 a2 a3
  have hlta : ga + 1 + 1 < W6.heap.size := H6.out.2.2.2.at'.lt
  have c0 := H6.out.2.2.2.cells.1
  have c1 := H6.out.2.2.2.cells.2.1
  have c2 := H6.out.2.2.2.cells.2.2.1
  have c3 := H6.out.2.2.2.cells.2.2.2
  have f2 := H6.out.2.2.2.fr 2
  have f3 := H6.out.2.2.2.fr 3
  dsimp only at c0 c1 c2 c3 f2 f3
  obtain ⟨⟨hn1, hn2⟩, ⟨hm1, hm2⟩, hq1, hq2⟩ := HI.out
  refine um.reg6 _ ?hc6 H6 (Lib.hid HE.out.1.2.2) lka hq1 hq2 hG5 _ _ _ _ _ _ _ _ _ _ _ _ _ _ _ _ _ _ _ _ _ _ _ _ _ _ _ _ _ _ _ _ _ _ _ _ _ _ _ _ _ _ _ _ _ _ _ _ _ _ _ _ _ _ _ _ _ _ _ _ _ _ _ _ _ _ _ _ _ _ _ _ _ _ _ _ _ _ _ _ _ _ _ _ _ _ _ _ _ _ _ _ _ _ _ _ _ _ _ _ _ _ _ _ _ _ _ _ _ _ _ _ _ _ _ _ _ _ _ _ _ _ _ _ _ _ _ _ _ _ _ _ _ _ _ _ _ _ _ _ _ _ _ _ _ _ _ _ _ _ _ _ _ _ _ _ _ _ _ _ _ _ _ _ _ _ _ _ _ _ _ _ _ _ _ _ _ _ _ _ _ _ _ _ _ _ _ _ _ _ _ _ _ _ _ _ _ _ _ _ _ _ _ _ _ _ _ _ _ _ _ _ _ _ _ _ _ _ _ _ _ _ _ _ _ _ _ _ _ _ _ _ _ _ _ _ _ _ _ _ _ _ _ _ _ _ _ _ _ _ _ _ _ _ _ _ _ _ _ _ _ _ _ _ _ _ _ _ _ _ _ _ _ _ _ _ _ _ _ _ _ _ _ ?_
  case hc6 => kernel_rfl
  intro t39 t40 t41 t42 t43 t44 t45 t46 t47 t48 wc nc lc Bc mc HC
  clear H6 hlta c0 c1 c2 c3 f2 f3
  have llc : lc.length ≤ 257 := HC.out.1
  obtain ⟨J, hJ, hJo, KJ⟩ : ∃ J : World → Prop, Hid (Stays J) ∧ Hid (∀ W, J W → Below w.heap.size w W ∧ Box W ⟨ga, 0, ⟨na, la, false, ka⟩, A1, c1', B1, m1⟩ ∧ Box W ⟨ga + 1, 0, ⟨nb, lb, false, kb⟩, A2, c2', B2, m2⟩ ∧ Box W ⟨ga + 1 + 1, 0, ⟨na, la, nc, lc⟩, A1, c1', Bc, mc⟩) ∧ Hid (J wc) :=
    ⟨fun W => Below w.heap.size w W ∧ Box W ⟨ga, 0, ⟨na, la, false, ka⟩, A1, c1', B1, m1⟩ ∧ Box W ⟨ga + 1, 0, ⟨nb, lb, false, kb⟩, A2, c2', B2, m2⟩ ∧ Box W ⟨ga + 1 + 1, 0, ⟨na, la, nc, lc⟩, A1, c1', Bc, mc⟩, Lib.hid fun W W' h hb => ⟨h.1.trans (hb.mono h.1.size), h.2.1.after hb, h.2.2.1.after hb, h.2.2.2.after hb⟩, Lib.hid fun W h => h, Lib.hid HC.out.2⟩
  clear HC
  obtain ⟨P, hP⟩ : ∃ P : Int, P = z1 * 6 := ⟨_, rfl⟩
  obtain ⟨Q, hQ⟩ : ∃ Q : Int, Q = (d1 : Int) * 6 := ⟨_, rfl⟩
  have hPl : (digs P.natAbs).length ≤ 5 := by rw [hP]; exact len_mul 4 1 (by rw [← HE.out.1.2.1]; exact lla) (by decide)
  have hQl : (digs Q.natAbs).length ≤ 5 := by rw [hQ]; exact len_mul 4 1 (by rw [Int.natAbs_natCast, ← HE.out.1.2.2]; exact lka) (by decide)
  have HPQ := Lib.hid (And.intro hP hQ)
  have HN := Lib.hid (And.intro (show (digs z1.natAbs).length ≤ 256 by rw [← HE.out.1.2.1]; omega) (And.intro (show (digs (d1 : Int).natAbs).length ≤ 256 by rw [Int.natAbs_natCast, ← HE.out.1.2.2]; omega) (And.intro hPl hQl)))
  clear hP hQ hPl hQl
  go_upto_region 7 with fail
  refine um.reg7 _ ?hc7 hG5 (Lib.hid HE.out.1) HPQ HN hJ hJo KJ _ _ _ _ _ _ _ _ _ _ _ _ _ _ _ _ _ _ _ _ _ _ _ _ _ _ _ _ _ _ _ _ _ _ _ _ _ _ _ _ _ _ _ _ _ _ _ _ _ _ _ _ _ _ _ _ _ _ _ _ _ _ _ _ _ _ _ _ _ _ _ _ _ _ _ _ _ _ _ _ _ _ _ _ _ _ _ _ _ _ _ _ _ _ _ _ _ _ _ _ _ _ _ _ _ _ _ _ _ _ _ _ _ _ _ _ _ _ _ _ _ _ _ _ _ _ _ _ _ _ _ _ _ _ _ _ _ _ _ _ _ _ _ _ _ _ _ _ _ _ _ _ _ _ _ _ _ _ _ _ _ _ _ _ _ _ _ _ _ _ _ _ _ _ _ _ _ _ _ _ _ _ _ _ _ _ _ _ _ _ _ _ _ _ _ _ _ _ _ _ _ _ _ _ _ _ _ _ _ _ _ _ _ _ _ _ _ _ _ _ _ _ _ _ _ _ _ _ _ _ _ _ _ _ _ _ _ _ _ _ _ _ _ _ _ _ _ _ _ _ _ _ _ _ _ _ _ _ _ _ _ _ _ _ _ _ _ _ _ _ _ _ _ _ _ _ _ _ _ _ _ _ _ _ ?_
  case hc7 => kernel_rfl
  intro t13 t49 t50 t51 t52 t53 t54 t55 t56 t57 wd ge ne le me ke Ae ce Be xe e13 HC
  subst e13
  clear KJ hJ hJo HPQ HN
  have lle : le.length ≤ 5 := HC.out.2.1
  have lke : ke.length ≤ 5 := HC.out.2.2.1
  have hge : ga + 1 + 1 < ge := HC.out.1
  obtain ⟨K, hK, hKo, KK⟩ : ∃ K : World → Prop, Hid (Stays K) ∧ Hid (∀ W, K W → Below w.heap.size w W ∧ Box W ⟨ga, 0, ⟨na, la, false, ka⟩, A1, c1', B1, m1⟩ ∧ Box W ⟨ga + 1, 0, ⟨nb, lb, false, kb⟩, A2, c2', B2, m2⟩ ∧ Box W ⟨ga + 1 + 1, 0, ⟨na, la, nc, lc⟩, A1, c1', Bc, mc⟩ ∧ Box W ⟨ge, 0, ⟨ne, le, me, ke⟩, Ae, ce, Be, xe⟩) ∧ Hid (K wd) :=
    ⟨fun W => Below w.heap.size w W ∧ Box W ⟨ga, 0, ⟨na, la, false, ka⟩, A1, c1', B1, m1⟩ ∧ Box W ⟨ga + 1, 0, ⟨nb, lb, false, kb⟩, A2, c2', B2, m2⟩ ∧ Box W ⟨ga + 1 + 1, 0, ⟨na, la, nc, lc⟩, A1, c1', Bc, mc⟩ ∧ Box W ⟨ge, 0, ⟨ne, le, me, ke⟩, Ae, ce, Be, xe⟩, Lib.hid fun W W' h hb => ⟨h.1.trans (hb.mono h.1.size), h.2.1.after hb, h.2.2.1.after hb, h.2.2.2.1.after hb, h.2.2.2.2.after hb⟩, Lib.hid fun W h => h, Lib.hid ⟨HC.out.2.2.2.2.1, HC.out.2.2.2.2.2.1, HC.out.2.2.2.2.2.2.1, HC.out.2.2.2.2.2.2.2, HC.out.2.2.2.1⟩⟩
  clear HC
  go_upto_region 8 with fail
  refine um.reg8 _ ?hc8 hK hKo KK lla lka llb lkb llc lle lke _ _ _ _ _ _ _ _ _ _ _ _ _ _ _ _ _ _ _ _ _ _ _ _ _ _ _ _ _ _ _ _ _ _ _ _ _ _ _ _ _ _ _ _ _ _ _ _ _ _ _ _ _ _ _ _ _ _ _ _ _ _ _ _ _ _ _ _ _ _ _ _ _ _ _ _ _ _ _ _ _ _ _ _ _ _ _ _ _ _ _ _ _ _ _ _ _ _ _ _ _ _ _ _ _ _ _ _ _ _ _ _ _ _ _ _ _ _ _ _ _ _ _ _ _ _ _ _ _ _ _ _ _ _ _ _ _ _ _ _ _ _ _ _ _ _ _ _ _ _ _ _ _ _ _ _ _ _ _ _ _ _ _ _ _ _ _ _ _ _ _ _ _ _ _ _ _ _ _ _ _ _ _ _ _ _ _ _ _ _ _ _ _ _ _ _ _ _ _ _ _ _ _ _ _ _ _ _ _ _ _ _ _ _ _ _ _ _ _ _ _ _ _ _ _ _ _ _ _ _ _ _ _ _ _ _ _ _ _ _ _ _ _ _ _ _ _ _ _ _ _ _ _ _ _ _ _ _ _ _ _ _ _ _ _ _ _ _ _ _ _ _ _ _ _ _ _ _ _ _ _ ?_
  case hc8 => kernel_rfl
  intro t58 t59 t60 t61 t62 t63 t64 t65 t66 t67 t68 t69 t70 t71 t72 t73 t74 t75 t76 t77 t78 t79 t80 t81 t82 we gr es e80 e81 e82 HC
  subst e80 e81 e82
  obtain ⟨J, hJk, hJo, KJ⟩ : ∃ J : World → Prop, Hid (Keeps (gr + 1) J) ∧ Hid (∀ W, J W → Below w.heap.size w W ∧ Box W ⟨ga + 1, 0, ⟨nb, lb, false, kb⟩, A2, c2', B2, m2⟩ ∧ Box W ⟨ga + 1 + 1, 0, ⟨na, la, nc, lc⟩, A1, c1', Bc, mc⟩ ∧ ∀ j, j < 14 → At W (es j)) ∧ Hid (J we) :=
    ⟨fun W => Below w.heap.size w W ∧ Box W ⟨ga + 1, 0, ⟨nb, lb, false, kb⟩, A2, c2', B2, m2⟩ ∧ Box W ⟨ga + 1 + 1, 0, ⟨na, la, nc, lc⟩, A1, c1', Bc, mc⟩ ∧ ∀ j, j < 14 → At W (es j),
      Lib.hid ((keeps_below (by have := HC.out.1; omega)).and ((keeps_box (by have := HC.out.1; show ga + 1 < gr + 1; omega)).and ((keeps_box (by have := HC.out.1; show ga + 1 + 1 < gr + 1; omega)).and (Keeps.all fun j hj => by have := (HC.out.2.2.2.2 j hj).2.1; omega)))),
      Lib.hid fun W h => h, Lib.hid ⟨HC.out.2.1, HC.out.2.2.1, HC.out.2.2.2.1, fun j hj => (HC.out.2.2.2.2 j hj).1⟩⟩
  have HF := Lib.hid (show ∀ j, j < 14 → (es j).g = gr ∧ (es j).k = j ∧ (es j).f.l1.length ≤ 1000 ∧ (es j).f.l2.length ≤ 1000 from fun j hj => (HC.out.2.2.2.2 j hj).2)
  have hgr : w.heap.size ≤ gr := by have := HC.out.1; omega
  clear HC
  go_upto_region 9 with fail
  go_loopw [82] (fun i wr => ∃ k : Nat, k ≤ 7 ∧ i = .int .i64 (k : Int) ∧ Hid (J wr)) (fun i _ => 7 - (intOf i).toNat)
  case atStart => exact ⟨0, by decide, rfl, KJ⟩
  case round =>
    obtain ⟨k, hk, rfl, H⟩ := hrel
    clear KJ
    by_cases hlt : k < 7
    · refine ul.round _ ?hc hJk hJo HF HT hgr hlt H _ _ _ _ _ _ _ _ _ _ _ _ _ _ _ _ _ _ _ _ _ _ _ _ _ _ _ _ _ _ _ _ _ _ _ _ _ _ _ _ _ _ _ _ _ _ _ _ _ _ _ _ _ _ _ _ _ _ _ _ _ _ _ _ _ _ _ _ _ _ _ _ _ _ _ _ _ _ _ _ _ _ _ _ _ _ _ _ _ _ _ _ _ _ _ _ _ _ _ _ _ _ _ _ _ _ _ _ _ _ _ _ _ _ _ _ _ _ _ _ _ _ _ _ _ _ _ _ _ _ _ _ _ _ _ _ _ _ _ _ _ _ _ _ _ _ _ _ _ _ _ _ _ _ _ _ _ _ _ _ _ _ _ _ _ _ _ _ _ _ _ _ _ _ _ _ _ _ _ _ _ _ _ _ _ _ _ _ _ _ _ _ _ _ _ _ _ _ _ _ _ _ _ _ _ _ _ _ _ _ _ _ _ _ _ _ _ _ _ _ _ _ _ _ _ _ _ _ _ _ _ _ _ _ _ _ _ _ _ _ _ _ _ _ _ _ _ _ _ _ _ _ _ _ _ _ _ _ _ _ _ _ _ _ _ _ _ _ _ _ _ _ _ _ _ _ _ _ _ _ _ _ ?_
      case hc => kernel_rfl
      intro t15 t16 t17 t18 t19 t82 t83 t84 t85 t86 t87 t88 t89 t90 t91 t92 t93 t94 t95 t96 t97 t98 t99 t100 t101 t102 t103 t104 t105 t106 t107 t108 t109 t110 t111 t112 t113 t114 t115 t116 t117 t118 t119 t120 t121 t122 t123 t124 t125 t126 t127 t128 t129 t130 t131 t132 t133 t134 t135 t136 t137 t138 t139 t140 t141 t142 t143 t144 t145 t146 t147 t148 t149 t150 t151 t152 t153 t154 t155 t156 t157 t158 t159 t160 t161 t162 t163 t164 t165 t166 t167 t168 t169 t170 t171 t172 t173 t174 t175 t176 t177 t178 t179 t180 t181 t182 t183 t184 t185 t186 t187 t188 t189 t190 t191 t192 t193 t194 t195 t196 t197 t198 t199 t200 t201 t202 t203 t204 t205 t206 t207 t208 t209 t210 t211 t212 t213 t214 t215 t216 t217 w9 e82 H9
      subst e82
      go_wp2_with fail
      go_roundw
      case rel => exact ⟨k + 1, by omega, by go_num, H9⟩
      case measure => simp [intOf]; omega
    · have hkz : ¬ (k : Int) < 7 := by omega
      go_wp2_with fail
      refine (qa.mod_any wr num 60 (by omega) (by omega) (by decide) (by decide)).mono ?_
      rintro _ _ ⟨x1, rfl, hx1, rfl⟩
      have e1 : IntKind.i64.wrap ((x1 : Int) - 30) = (x1 : Int) - 30 := IntWalk.i64_in _ (by omega)
      go_wp2_with fail
      refine (qa.mod_any wr den 13 (by omega) (by omega) (by decide) (by decide)).mono ?_
      rintro _ _ ⟨x2, rfl, hx2, rfl⟩
      have e2 : IntKind.i64.wrap ((x2 : Int) - 3) = (x2 : Int) - 3 := IntWalk.i64_in _ (by omega)
      obtain ⟨gs, hgs⟩ : ∃ gs, gs = wr.heap.size := ⟨_, rfl⟩
      have hb0 : Below wr.heap.size wr (wr.alloc (.cells #[.int .i64 num, .int .i64 den, .int .i64 ((x1 : Int) - 30), .int .i64 ((x2 : Int) - 3)] 45)) := (Below.refl _ _).alloc (Nat.le_refl _) _
      have jU := hJk.out.after H.out hb0
      have hz0 : (wr.alloc (.cells #[.int .i64 num, .int .i64 den, .int .i64 ((x1 : Int) - 30), .int .i64 ((x2 : Int) - 3)] 45)).heap.size = wr.heap.size + 1 := by simp
      have v0 : (wr.alloc (.cells #[.int .i64 num, .int .i64 den, .int .i64 ((x1 : Int) - 30), .int .i64 ((x2 : Int) - 3)] 45)).cell? ⟨wr.heap.size, 0, none⟩ = some (.int .i64 num) := (World.cell?_alloc_new _ _ _ _).trans rfl
      have v1 : (wr.alloc (.cells #[.int .i64 num, .int .i64 den, .int .i64 ((x1 : Int) - 30), .int .i64 ((x2 : Int) - 3)] 45)).cell? ⟨wr.heap.size, 1, none⟩ = some (.int .i64 den) := (World.cell?_alloc_new _ _ _ _).trans rfl
      have v2 : (wr.alloc (.cells #[.int .i64 num, .int .i64 den, .int .i64 ((x1 : Int) - 30), .int .i64 ((x2 : Int) - 3)] 45)).cell? ⟨wr.heap.size, 2, none⟩ = some (.int .i64 ((x1 : Int) - 30)) := (World.cell?_alloc_new _ _ _ _).trans rfl
      have v3 : (wr.alloc (.cells #[.int .i64 num, .int .i64 den, .int .i64 ((x1 : Int) - 30), .int .i64 ((x2 : Int) - 3)] 45)).cell? ⟨wr.heap.size, 3, none⟩ = some (.int .i64 ((x2 : Int) - 3)) := (World.cell?_alloc_new _ _ _ _).trans rfl
      have HV := Lib.hid (And.intro jU (And.intro hz0 (And.intro v0 (And.intro v1 (And.intro v2 v3)))))
      clear hb0 jU hz0 v0 v1 v2 v3
      go_upto_region 29 with fail
      obtain ⟨U, hU⟩ : ∃ U, U = wr.alloc (.cells #[.int .i64 num, .int .i64 den, .int .i64 ((x1 : Int) - 30), .int .i64 ((x2 : Int) - 3)] 45) := ⟨_, rfl⟩
      rw [← hU, ← hgs] at HV
      rw [← hU, ← hgs]
      obtain ⟨ps, PS⟩ : ∃ ps : Nat → Int × Int, Hid (∀ j, j < 2 → U.cell? ⟨gs, j * 2, none⟩ = some (.int .i64 (ps j).1) ∧ U.cell? ⟨gs, j * 2 + 1, none⟩ = some (.int .i64 (ps j).2) ∧ -9223372036854775808 ≤ (ps j).1 ∧ (ps j).1 < 9223372036854775808 ∧ -9223372036854775808 ≤ (ps j).2 ∧ (ps j).2 < 9223372036854775808) :=
        ⟨fun j => match j with | 0 => (num, den) | _ => ((x1 : Int) - 30, (x2 : Int) - 3), Lib.hid fun j hj => by
          rcases j with _ | _ | j
          · exact ⟨HV.out.2.2.1, HV.out.2.2.2.1, hn1, hn2, hm1, hm2⟩
          · exact ⟨HV.out.2.2.2.2.1, HV.out.2.2.2.2.2, by show -9223372036854775808 ≤ (x1 : Int) - 30; omega, by show (x1 : Int) - 30 < 9223372036854775808; omega, by show -9223372036854775808 ≤ (x2 : Int) - 3; omega, by show (x2 : Int) - 3 < 9223372036854775808; omega⟩
          · omega⟩
      obtain ⟨N, hN, hNo, KN⟩ : ∃ N : World → Prop, Hid (∀ W W', N W → Below W.heap.size W W' → N W') ∧ Hid (∀ W, N W → J W ∧ gs < W.heap.size ∧ ∀ j, j < 2 → W.cell? ⟨gs, j * 2, none⟩ = some (.int .i64 (ps j).1) ∧ W.cell? ⟨gs, j * 2 + 1, none⟩ = some (.int .i64 (ps j).2)) ∧ Hid (N U) :=
        ⟨fun W => J W ∧ gs < W.heap.size ∧ ∀ j, j < 2 → W.cell? ⟨gs, j * 2, none⟩ = some (.int .i64 (ps j).1) ∧ W.cell? ⟨gs, j * 2 + 1, none⟩ = some (.int .i64 (ps j).2),
          Lib.hid fun W W' h hb => ⟨hJk.out.after h.1 hb, Nat.lt_of_lt_of_le h.2.1 hb.size, fun j hj => ⟨(hb.cell (p := ⟨gs, j * 2, none⟩) h.2.1).trans (h.2.2 j hj).1, (hb.cell (p := ⟨gs, j * 2 + 1, none⟩) h.2.1).trans (h.2.2 j hj).2⟩⟩,
          Lib.hid fun W h => h, Lib.hid ⟨HV.out.1, by have := HV.out.2.1; omega, fun j hj => ⟨(PS.out j hj).1, (PS.out j hj).2.1⟩⟩⟩
      have PB := Lib.hid (show ∀ j, j < 2 → -9223372036854775808 ≤ (ps j).1 ∧ (ps j).1 < 9223372036854775808 ∧ -9223372036854775808 ≤ (ps j).2 ∧ (ps j).2 < 9223372036854775808 from fun j hj => (PS.out j hj).2.2)
      have hT2 : ∀ W, N W → Tabs W := fun W h => HT.out.1.below (hJo.out _ (hNo.out _ h).1).1
      have HT2 := Lib.hid hT2
      clear hU HV PS hT2 H hgs hx1 hx2 e1 e2
      go_loopw [230] (fun i wr => ∃ k : Nat, k ≤ 2 ∧ i = .int .i64 (k : Int) ∧ Hid (N wr)) (fun i _ => 2 - (intOf i).toNat)
      case atStart => exact ⟨0, by decide, rfl, KN⟩
      case round =>
        obtain ⟨k', hk', rfl, H2⟩ := hrel
        clear KN
        by_cases hlt2 : k' < 2
        · refine un.round2 _ ?hc2 hN hNo PB HT2 hlt2 H2 _ _ _ _ _ _ _ _ _ _ _ _ _ _ _ _ _ _ _ _ _ _ _ _ _ _ _ _ _ _ _ _ _ _ _ _ _ _ _ _ _ _ _ _ _ _ _ _ _ _ _ _ _ _ _ _ _ _ _ _ _ _ _ _ _ _ _ _ _ _ _ _ _ _ _ _ _ _ _ _ _ _ _ _ _ _ _ _ _ _ _ _ _ _ _ _ _ _ _ _ _ _ _ _ _ _ _ _ _ _ _ _ _ _ _ _ _ _ _ _ _ _ _ _ _ _ _ _ _ _ _ _ _ _ _ _ _ _ _ _ _ _ _ _ _ _ _ _ _ _ _ _ _ _ _ _ _ _ _ _ _ _ _ _ _ _ _ _ _ _ _ _ _ _ _ _ _ _ _ _ _ _ _ _ _ _ _ _ _ _ _ _ _ _ _ _ _ _ _ _ _ _ _ _ _ _ _ _ _ _ _ _ _ _ _ _ _ _ _ _ _ _ _ _ _ _ _ _ _ _ _ _ _ _ _ _ _ _ _ _ _ _ _ _ _ _ _ _ _ _ _ _ _ _ _ _ _ _ _ _ _ _ _ _ _ _ _ _ _ _ _ _ _ _ _ _ _ _ _ _ _ _ ?_
          case hc2 => kernel_rfl
          intro t21 t22 t23 t24 t25 t230 t231 t232 t233 t234 t235 t236 t237 t238 t239 t240 t241 t242 t243 t244 t245 t246 t247 t248 t249 t250 t251 t252 t253 t254 t255 t256 t257 t258 t259 w9 e230 H9
          subst e230
          go_wp2_with fail
          go_roundw
          case rel => exact ⟨k' + 1, by omega, by go_num, H9⟩
          case measure => simp [intOf]; omega
        · have hkz' : ¬ (k' : Int) < 2 := by omega
          obtain ⟨Zo, Do, eo, zo, dd, Ho⟩ := both_make nc lc nb lb ⟨by omega, by omega⟩
          have HO := Lib.hid Ho
          clear Ho
          obtain ⟨I, hI, hIo, KI⟩ : ∃ I : World → Prop, Hid (∀ W W', I W → Below W.heap.size W W' → I W') ∧ Hid (∀ W, I W → N W) ∧ Hid (I wr) := ⟨fun W => N W, hN, Lib.hid fun W h => h, H2⟩
          have HC2 := Lib.hid (show ∀ W, I W → (W.cell? ⟨ga + 1 + 1, 2, none⟩ = some (.bool nc) ∧ W.cell? ⟨ga + 1 + 1, 3, none⟩ = some (.slice Bc lc.length mc)) ∧ W.cell? ⟨ga + 1, 0, none⟩ = some (.bool nb) ∧ W.cell? ⟨ga + 1, 1, none⟩ = some (.slice A2 lb.length c2') from fun W h => by
            obtain ⟨_, hB, hC, _⟩ := hJo.out _ (hNo.out _ (hIo.out _ h)).1
            exact ⟨⟨hC.cellsC.2.2.1, hC.cellsC.2.2.2⟩, hB.cellsC.1, hB.cellsC.2.1⟩)
          have HM := Lib.hid (show ∀ W, I W → Calls Tryz.prog 28 #[.agg #[.bool nc, .slice Bc lc.length mc], .agg #[.bool nb, .slice A2 lb.length c2']] W (AnsF W Zo Do eo) ∧ Calls Tryz.prog 29 #[.agg #[.bool nc, .slice Bc lc.length mc], .agg #[.bool nb, .slice A2 lb.length c2']] W (AnsF W Zo Do eo) from fun W h => by
            obtain ⟨_, hB, hC, _⟩ := hJo.out _ (hNo.out _ (hIo.out _ h)).1
            exact HO.out W _ _ ⟨Bc, mc, rfl, hC.at'.S⟩ ⟨A2, c2', rfl, hB.at'.R⟩ (HT2.out _ (hIo.out _ h)))
          clear HO H2
          obtain ⟨⟨w0, w1⟩, w2, w3⟩ := HC2.out _ (KI.out)
          go_wp2_with fail
          refine ((HM.out _ (KI.out)).1).mono ?_
          rintro _ Y1 ⟨_, rfl, ⟨X1, y1, X2, y2, rfl, RX, SX⟩, hb⟩
          have hu1 := box_new (f := ofFrac Zo Do) RX SX 30
          have hy1 : Below Y1.heap.size Y1 (Y1.alloc (.cells #[.bool (decide (Zo < 0)), .slice X1 (digs Zo.natAbs).length y1, .bool false, .slice X2 (digs Do).length y2] 30)) := (Below.refl _ _).alloc (Nat.le_refl _) _
          have i2 := hI.out _ _ (hI.out _ _ KI.out hb) hy1
          unfold ofFrac at hu1
          dsimp only at hu1
          clear hb RX SX w0 w1 w2 w3 KI
          go_upto_region 37 with fail
          obtain ⟨U1, hU⟩ : ∃ U, U = Y1.alloc (.cells #[.bool (decide (Zo < 0)), .slice X1 (digs Zo.natAbs).length y1, .bool false, .slice X2 (digs Do).length y2] 30) := ⟨_, rfl⟩
          rw [← hU] at hu1 i2 ⊢
          obtain ⟨gx, hgx'⟩ : ∃ gx, gx = Y1.heap.size := ⟨_, rfl⟩
          rw [← hgx'] at hu1 ⊢
          have K1 := Lib.hid (And.intro i2 hu1)
          clear hU hy1 i2 hu1 hgx'
          obtain ⟨⟨w0, w1⟩, w2, w3⟩ := HC2.out _ (K1.out.1)
          go_wp2_with fail
          refine ((HM.out _ (K1.out.1)).2).mono ?_
          rintro _ Y2 ⟨_, rfl, ⟨X3, y3, X4, y4, rfl, RY, SY⟩, hb⟩
          have hu2 := box_new (f := ofFrac Zo Do) RY SY 30
          have hy2 : Below Y2.heap.size Y2 (Y2.alloc (.cells #[.bool (decide (Zo < 0)), .slice X3 (digs Zo.natAbs).length y3, .bool false, .slice X4 (digs Do).length y4] 30)) := (Below.refl _ _).alloc (Nat.le_refl _) _
          have i2 := hI.out _ _ (hI.out _ _ K1.out.1 hb) hy2
          have k2 := (K1.out.2.after hb).after hy2
          have hgy : gx < Y2.heap.size := (K1.out.2.after hb).at'.lt
          unfold ofFrac at hu2
          dsimp only at hu2
          clear hb RY SY w0 w1 w2 w3 K1
          go_upto_region 38 with fail
          obtain ⟨U2, hU⟩ : ∃ U, U = Y2.alloc (.cells #[.bool (decide (Zo < 0)), .slice X3 (digs Zo.natAbs).length y3, .bool false, .slice X4 (digs Do).length y4] 30) := ⟨_, rfl⟩
          rw [← hU] at hu2 i2 k2 ⊢
          obtain ⟨gy, hgy'⟩ : ∃ gy, gy = Y2.heap.size := ⟨_, rfl⟩
          rw [← hgy'] at hu2 hgy ⊢
          have K2 := Lib.hid (And.intro i2 (And.intro k2 hu2))
          clear hU hy2 i2 k2 hu2 hgy'
          have hq : (eo != eo) = false := by simp
          have hq' : (eo == eo) = true := by simp
          obtain ⟨w0, w1, w2, w3⟩ := K2.out.2.1.cellsC
          obtain ⟨w4, w5, w6, w7⟩ := K2.out.2.2.cellsC
          go_wp2_with fail
          refine (pc.rsameFraction_any U2 _ _ Zo Do ⟨X1, y1, X2, y2, rfl, K2.out.2.1.at'.R, K2.out.2.1.at'.S⟩ ⟨X3, y3, X4, y4, rfl, K2.out.2.2.at'.R, K2.out.2.2.at'.S⟩ (by omega) (by omega)).mono ?_
          rintro _ Y3 ⟨rfl, hb⟩
          have K3 := Lib.hid (hI.out _ _ K2.out.1 hb)
          clear hb K2 w0 w1 w2 w3 w4 w5 w6 w7 hq hq'
          go_wp2_with fail
          go_ret
          exact ⟨rfl, (hJo.out _ (hNo.out _ (hIo.out _ K3.out)).1).1⟩
end Go.Proofs.YtbeidpeoichakaaGreatDoor.uj
