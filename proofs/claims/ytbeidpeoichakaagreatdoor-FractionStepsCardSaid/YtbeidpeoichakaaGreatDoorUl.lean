/- FractionSteps: a round of the first loop. -/
import Derived.Test.YtbeidpeoichakaaGreatDoorUh
import Derived.Test.YtbeidpeoichakaaGreatDoorJi
import Derived.Test.YtbeidpeoichakaaGreatDoorHi
import Derived.Test.YtbeidpeoichakaaGreatDoorQa
import Derived.Test.YtbeidpeoichakaaGreatDoorKa
import Derived.Test.YtbeidpeoichakaaGreatDoorRe
import Derived.Deep.Cut
import Derived.Deep.DeepCutAuto
import Derived.Deep.CutBlock
import Derived.Deep.RegionHeld3
set_option linter.unusedSimpArgs false
set_option linter.unusedVariables false
namespace Go.Proofs.YtbeidpeoichakaaGreatDoor.ul
open Go.RowKit Go.Proofs.YtbeidpeoichakaaGreatDoor.fm Go.Proofs.YtbeidpeoichakaaGreatDoor.mem Go.Proofs.YtbeidpeoichakaaGreatDoor.fa Go.Proofs.YtbeidpeoichakaaGreatDoor.fb Go.Proofs.YtbeidpeoichakaaGreatDoor.fs Go.Proofs.YtbeidpeoichakaaGreatDoor.ft Go.Proofs.YtbeidpeoichakaaGreatDoor.fu Go.Proofs.YtbeidpeoichakaaGreatDoor.fv Go.Proofs.YtbeidpeoichakaaGreatDoor.fw Go.Proofs.YtbeidpeoichakaaGreatDoor.fx Go.Proofs.YtbeidpeoichakaaGreatDoor.fy Go.Proofs.YtbeidpeoichakaaGreatDoor.fz Go.Proofs.YtbeidpeoichakaaGreatDoor.ga Go.Proofs.YtbeidpeoichakaaGreatDoor.gb Go.Proofs.YtbeidpeoichakaaGreatDoor.gc Go.Proofs.YtbeidpeoichakaaGreatDoor.gd Go.Proofs.YtbeidpeoichakaaGreatDoor.gf Go.Proofs.YtbeidpeoichakaaGreatDoor.gg Go.Proofs.YtbeidpeoichakaaGreatDoor.fj Go.Proofs.YtbeidpeoichakaaGreatDoor.ja Go.Proofs.YtbeidpeoichakaaGreatDoor.jb Go.Proofs.YtbeidpeoichakaaGreatDoor.jg Go.Proofs.YtbeidpeoichakaaGreatDoor.jh Go.Proofs.YtbeidpeoichakaaGreatDoor.jj Go.Proofs.YtbeidpeoichakaaGreatDoor.jk Go.Proofs.YtbeidpeoichakaaGreatDoor.pa Go.Proofs.YtbeidpeoichakaaGreatDoor.pb Go.Proofs.YtbeidpeoichakaaGreatDoor.pc Go.Proofs.YtbeidpeoichakaaGreatDoor.na Go.Proofs.YtbeidpeoichakaaGreatDoor.nb Go.Proofs.YtbeidpeoichakaaGreatDoor.hb Go.Proofs.YtbeidpeoichakaaGreatDoor.hc Go.Proofs.YtbeidpeoichakaaGreatDoor.hd Go.Proofs.YtbeidpeoichakaaGreatDoor.ra Go.Proofs.YtbeidpeoichakaaGreatDoor.re Go.Proofs.YtbeidpeoichakaaGreatDoor.rb Go.Proofs.YtbeidpeoichakaaGreatDoor.rg Go.Proofs.YtbeidpeoichakaaGreatDoor.sa Go.Proofs.YtbeidpeoichakaaGreatDoor.sb Go.Proofs.YtbeidpeoichakaaGreatDoor.sc Go.Proofs.YtbeidpeoichakaaGreatDoor.ta Go.Proofs.YtbeidpeoichakaaGreatDoor.tb Go.Proofs.YtbeidpeoichakaaGreatDoor.ua Go.Proofs.YtbeidpeoichakaaGreatDoor.ub Go.Proofs.YtbeidpeoichakaaGreatDoor.uc Go.Proofs.YtbeidpeoichakaaGreatDoor.ud Go.Proofs.YtbeidpeoichakaaGreatDoor.ue Go.Proofs.YtbeidpeoichakaaGreatDoor.uf Go.Proofs.YtbeidpeoichakaaGreatDoor.ug Go.Proofs.YtbeidpeoichakaaGreatDoor.uh Go.Proofs.YtbeidpeoichakaaGreatDoor.hf Go.Proofs.YtbeidpeoichakaaGreatDoor.hg Go.Proofs.YtbeidpeoichakaaGreatDoor.hh Go.Proofs.YtbeidpeoichakaaGreatDoor.ji Go.Proofs.YtbeidpeoichakaaGreatDoor.mill Go.Proofs.YtbeidpeoichakaaGreatDoor.rf Go.Proofs.YtbeidpeoichakaaGreatDoor.ui


def loopsOf : Code → List Code
  | .loop c => [c]
  | .seq a b => loopsOf a ++ loopsOf b
  | .block _ c => loopsOf c
  | .scope c => loopsOf c
  | .cond _ a b => loopsOf a ++ loopsOf b
  | _ => []
noncomputable def bodyOf (n : Nat) : Code := (((Tryz.f3.body.map loopsOf).getD [])[n]?).getD .skip
def regionOf (n : Nat) : Code → Option Code
  | .region k ops b => if k = n then some (.region k ops b) else none
  | .loop c => regionOf n c
  | .seq a b => match regionOf n a with
    | some c => some c
    | none => regionOf n b
  | .block _ c => regionOf n c
  | .scope c => regionOf n c
  | .cond _ a b => match regionOf n a with
    | some c => some c
    | none => regionOf n b
  | _ => none
noncomputable def reg (n : Nat) : Code := (Tryz.f3.body.bind (regionOf n)).getD .skip
set_option maxRecDepth 100000 in
set_option maxHeartbeats 20000000 in
theorem round (C : Code) (hC : C = bodyOf 0) {w wx : World} {gr k : Nat} {es : Nat → En} {J X9 Y9 : World → Prop} (hJk : Hid (Keeps (gr + 1) J)) (hJo : Hid (∀ W, J W → Below w.heap.size w W ∧ X9 W ∧ Y9 W ∧ ∀ j, j < 14 → At W (es j))) (HF : Hid (∀ j, j < 14 → (es j).g = gr ∧ (es j).k = j ∧ (es j).f.l1.length ≤ 1000 ∧ (es j).f.l2.length ≤ 1000)) (HT : Hid (Tabs w ∧ Pow w)) (hgr : w.heap.size ≤ gr) (hlt : k < 7) (H : Hid (J wx)) (Qp : Exit → Act → World → Prop) (u0 u1 u2 u3 u4 u5 u6 u7 u8 u9 u10 u11 u12 u13 u14 u15 u16 u17 u18 u19 u20 u21 u22 u23 u24 u25 u26 u27 u28 u29 u30 u31 u32 u33 u34 u35 u36 u37 u38 u39 u40 u41 u42 u43 u44 u45 u46 u47 u48 u49 u50 u51 u52 u53 u54 u55 u56 u57 u58 u59 u60 u61 u62 u63 u64 u65 u66 u67 u68 u69 u70 u71 u72 u73 u74 u75 u76 u77 u78 u79 u83 u84 u85 u86 u87 u88 u89 u90 u91 u92 u93 u94 u95 u96 u97 u98 u99 u100 u101 u102 u103 u104 u105 u106 u107 u108 u109 u110 u111 u112 u113 u114 u115 u116 u117 u118 u119 u120 u121 u122 u123 u124 u125 u126 u127 u128 u129 u130 u131 u132 u133 u134 u135 u136 u137 u138 u139 u140 u141 u142 u143 u144 u145 u146 u147 u148 u149 u150 u151 u152 u153 u154 u155 u156 u157 u158 u159 u160 u161 u162 u163 u164 u165 u166 u167 u168 u169 u170 u171 u172 u173 u174 u175 u176 u177 u178 u179 u180 u181 u182 u183 u184 u185 u186 u187 u188 u189 u190 u191 u192 u193 u194 u195 u196 u197 u198 u199 u200 u201 u202 u203 u204 u205 u206 u207 u208 u209 u210 u211 u212 u213 u214 u215 u216 u217 u218 u219 u220 u221 u222 u223 u224 u225 u226 u227 u228 u229 u230 u231 u232 u233 u234 u235 u236 u237 u238 u239 u240 u241 u242 u243 u244 u245 u246 u247 u248 u249 u250 u251 u252 u253 u254 u255 u256 u257 u258 u259 u260 u261 u262 u263 u264 u265 u266 u267 u268 u269 u270 u271 u272 u273 u274 u275 u276 u277 u278 u279 u280 u281 u282 u283 : Value)
    (hQ : ∀ (t15 t16 t17 t18 t19 t82 t83 t84 t85 t86 t87 t88 t89 t90 t91 t92 t93 t94 t95 t96 t97 t98 t99 t100 t101 t102 t103 t104 t105 t106 t107 t108 t109 t110 t111 t112 t113 t114 t115 t116 t117 t118 t119 t120 t121 t122 t123 t124 t125 t126 t127 t128 t129 t130 t131 t132 t133 t134 t135 t136 t137 t138 t139 t140 t141 t142 t143 t144 t145 t146 t147 t148 t149 t150 t151 t152 t153 t154 t155 t156 t157 t158 t159 t160 t161 t162 t163 t164 t165 t166 t167 t168 t169 t170 t171 t172 t173 t174 t175 t176 t177 t178 t179 t180 t181 t182 t183 t184 t185 t186 t187 t188 t189 t190 t191 t192 t193 t194 t195 t196 t197 t198 t199 t200 t201 t202 t203 t204 t205 t206 t207 t208 t209 t210 t211 t212 t213 t214 t215 t216 t217 : Value) (w9 : World) , t82 = .int .i64 ((k : Int) + 1) → Hid (J w9) → Qp .normal ⟨#[u0, u1, u2, u3, u4, u5, u6, u7, u8, u9, u10, u11, u12, u13, u14, t15, t16, t17, t18, t19, u20, u21, u22, u23, u24, u25, u26, u27, u28, u29, u30, u31, u32, u33, u34, u35, u36, u37, u38, u39, u40, u41, u42, u43, u44, u45, u46, u47, u48, u49, u50, u51, u52, u53, u54, u55, u56, u57, u58, u59, u60, u61, u62, u63, u64, u65, u66, u67, u68, u69, u70, u71, u72, u73, u74, u75, u76, u77, u78, u79, .slice (some ⟨gr, 0, none⟩) 7 7, .int .i64 7, t82, t83, t84, t85, t86, t87, t88, t89, t90, t91, t92, t93, t94, t95, t96, t97, t98, t99, t100, t101, t102, t103, t104, t105, t106, t107, t108, t109, t110, t111, t112, t113, t114, t115, t116, t117, t118, t119, t120, t121, t122, t123, t124, t125, t126, t127, t128, t129, t130, t131, t132, t133, t134, t135, t136, t137, t138, t139, t140, t141, t142, t143, t144, t145, t146, t147, t148, t149, t150, t151, t152, t153, t154, t155, t156, t157, t158, t159, t160, t161, t162, t163, t164, t165, t166, t167, t168, t169, t170, t171, t172, t173, t174, t175, t176, t177, t178, t179, t180, t181, t182, t183, t184, t185, t186, t187, t188, t189, t190, t191, t192, t193, t194, t195, t196, t197, t198, t199, t200, t201, t202, t203, t204, t205, t206, t207, t208, t209, t210, t211, t212, t213, t214, t215, t216, t217, u218, u219, u220, u221, u222, u223, u224, u225, u226, u227, u228, u229, u230, u231, u232, u233, u234, u235, u236, u237, u238, u239, u240, u241, u242, u243, u244, u245, u246, u247, u248, u249, u250, u251, u252, u253, u254, u255, u256, u257, u258, u259, u260, u261, u262, u263, u264, u265, u266, u267, u268, u269, u270, u271, u272, u273, u274, u275, u276, u277, u278, u279, u280, u281, u282, u283], []⟩ w9) :
    Code.wp Tryz.prog C Qp ⟨#[u0, u1, u2, u3, u4, u5, u6, u7, u8, u9, u10, u11, u12, u13, u14, u15, u16, u17, u18, u19, u20, u21, u22, u23, u24, u25, u26, u27, u28, u29, u30, u31, u32, u33, u34, u35, u36, u37, u38, u39, u40, u41, u42, u43, u44, u45, u46, u47, u48, u49, u50, u51, u52, u53, u54, u55, u56, u57, u58, u59, u60, u61, u62, u63, u64, u65, u66, u67, u68, u69, u70, u71, u72, u73, u74, u75, u76, u77, u78, u79, .slice (some ⟨gr, 0, none⟩) 7 7, .int .i64 7, .int .i64 (k : Int), u83, u84, u85, u86, u87, u88, u89, u90, u91, u92, u93, u94, u95, u96, u97, u98, u99, u100, u101, u102, u103, u104, u105, u106, u107, u108, u109, u110, u111, u112, u113, u114, u115, u116, u117, u118, u119, u120, u121, u122, u123, u124, u125, u126, u127, u128, u129, u130, u131, u132, u133, u134, u135, u136, u137, u138, u139, u140, u141, u142, u143, u144, u145, u146, u147, u148, u149, u150, u151, u152, u153, u154, u155, u156, u157, u158, u159, u160, u161, u162, u163, u164, u165, u166, u167, u168, u169, u170, u171, u172, u173, u174, u175, u176, u177, u178, u179, u180, u181, u182, u183, u184, u185, u186, u187, u188, u189, u190, u191, u192, u193, u194, u195, u196, u197, u198, u199, u200, u201, u202, u203, u204, u205, u206, u207, u208, u209, u210, u211, u212, u213, u214, u215, u216, u217, u218, u219, u220, u221, u222, u223, u224, u225, u226, u227, u228, u229, u230, u231, u232, u233, u234, u235, u236, u237, u238, u239, u240, u241, u242, u243, u244, u245, u246, u247, u248, u249, u250, u251, u252, u253, u254, u255, u256, u257, u258, u259, u260, u261, u262, u263, u264, u265, u266, u267, u268, u269, u270, u271, u272, u273, u274, u275, u276, u277, u278, u279, u280, u281, u282, u283], []⟩ wx := by
  subst hC
  conv => arg 2; whnf
  have HQ := Lib.hid hQ
  clear hQ
  have t0 := (hJo.out _ H.out).2.2.2 (2 * k) (by omega)
  have t1 := (hJo.out _ H.out).2.2.2 (2 * k + 1) (by omega)
  obtain ⟨g0, g1, g2, g3⟩ := HF.out (2 * k) (by omega)
  obtain ⟨h0, h1, h2, h3⟩ := HF.out (2 * k + 1) (by omega)
  generalize es (2 * k) = e0 at t0 g0 g1 g2 g3
  generalize es (2 * k + 1) = e1 at t1 h0 h1 h2 h3
  obtain ⟨eg, ek, ⟨n1, l1, n2, l2⟩, D1, q1, D2, q2⟩ := e0
  obtain ⟨eg', ek', ⟨m1', s1, m2', s2⟩, D3, q3, D4, q4⟩ := e1
  dsimp only at t0 t1 g0 g1 g2 g3 h0 h1 h2 h3
  subst g0 g1 h0 h1
  have hkz : (k : Int) < 7 := by omega
  have x0 := t0.c0
  have x1 := t0.c1
  have x2 := t0.c2
  have x3 := t0.c3
  have x4 := t1.c0
  have x5 := t1.c1
  have x6 := t1.c2
  have x7 := t1.c3
  dsimp only at x0 x1 x2 x3 x4 x5 x6 x7
  rw [show 2 * k * 4 = k * 8 by omega] at x0 x1 x2 x3
  rw [show (2 * k + 1) * 4 = k * 8 + 4 by omega] at x4 x5 x6 x7
  go_upto_region 11 with fail
  have hb0 : Below wx.heap.size wx (wx.alloc (.cells #[.bool n1, .slice D1 l1.length q1, .bool n2, .slice D2 l2.length q2, .bool m1', .slice D3 s1.length q3, .bool m2', .slice D4 s2.length q4] 36)) := (Below.refl _ _).alloc (Nat.le_refl _) _
  have hu := two_new (f := ⟨n1, l1, n2, l2⟩) (f' := ⟨m1', s1, m2', s2⟩) t0.R t0.S t1.R t1.S 36
  have j1 := hJk.out.after H.out hb0
  have hgl : eg' < wx.heap.size := t1.lt
  dsimp only at hu
  obtain ⟨V, hV⟩ : ∃ V, V = wx.alloc (.cells #[.bool n1, .slice D1 l1.length q1, .bool n2, .slice D2 l2.length q2, .bool m1', .slice D3 s1.length q3, .bool m2', .slice D4 s2.length q4] 36) := ⟨_, rfl⟩
  rw [← hV] at hu j1 ⊢
  clear hV hb0 t0 t1 x0 x1 x2 x3 x4 x5 x6 x7 H
  generalize wx.heap.size = gp at *
  obtain ⟨I, hI, hIo, KI⟩ : ∃ I : World → Prop, Hid (Keeps (gp + 1) I) ∧ Hid (∀ W, I W → J W ∧ At W ⟨gp, 0, ⟨n1, l1, n2, l2⟩, D1, q1, D2, q2⟩ ∧ At W ⟨gp, 1, ⟨m1', s1, m2', s2⟩, D3, q3, D4, q4⟩) ∧ Hid (I V) :=
    ⟨fun W => J W ∧ At W ⟨gp, 0, ⟨n1, l1, n2, l2⟩, D1, q1, D2, q2⟩ ∧ At W ⟨gp, 1, ⟨m1', s1, m2', s2⟩, D3, q3, D4, q4⟩, Lib.hid ((hJk.out.more (by omega)).and ((keeps_at (by show gp < gp + 1; omega)).and (keeps_at (by show gp < gp + 1; omega)))), Lib.hid fun W h => h, Lib.hid ⟨j1, hu⟩⟩
  have hT' : ∀ W, I W → Tabs W := fun W h => HT.out.1.below (hJo.out _ (hIo.out _ h).1).1
  have HTT := Lib.hid hT'
  clear j1 hu hT'
  obtain ⟨Za, Da, ea, za, da, Ha⟩ := bothF_add ⟨n1, l1, n2, l2⟩ ⟨m1', s1, m2', s2⟩ ⟨g2, g3, h2, h3⟩
  have HA := Lib.hid Ha
  clear Ha
  obtain ⟨w0, w1, w2, w3, w4, w5, w6, w7⟩ := pair_cells (hIo.out _ KI.out).2.1 (hIo.out _ KI.out).2.2
  go_wp2_with fail
  refine ((HA.out V _ _ (hIo.out _ KI.out).2.1.isF (hIo.out _ KI.out).2.2.isF (HTT.out _ KI.out)).1).mono ?_
  rintro _ Y1 ⟨_, rfl, ⟨X1, y1, X2, y2, rfl, RX, SX⟩, hb⟩
  have hu1 := box_new (f := ofFrac Za Da) RX SX 30
  have hy1 : Below Y1.heap.size Y1 (Y1.alloc (.cells #[.bool (decide (Za < 0)), .slice X1 (digs Za.natAbs).length y1, .bool false, .slice X2 (digs Da).length y2] 30)) := (Below.refl _ _).alloc (Nat.le_refl _) _
  have i1 := hI.out.after KI.out hb
  have hgx : gp < Y1.heap.size := (hIo.out _ i1).2.1.lt
  have i2 := hI.out.after i1 hy1
  unfold ofFrac at hu1
  dsimp only at hu1
  clear hb RX SX i1 w0 w1 w2 w3 w4 w5 w6 w7
  go_upto_region 12 with fail
  obtain ⟨U1, hU⟩ : ∃ U, U = Y1.alloc (.cells #[.bool (decide (Za < 0)), .slice X1 (digs Za.natAbs).length y1, .bool false, .slice X2 (digs Da).length y2] 30) := ⟨_, rfl⟩
  rw [← hU] at hu1 i2 ⊢
  obtain ⟨gx, hgx'⟩ : ∃ gx, gx = Y1.heap.size := ⟨_, rfl⟩
  rw [← hgx'] at hu1 hgx ⊢
  have K1 := Lib.hid (And.intro i2 hu1)
  clear hU hy1 i2 hu1 hgx'
  obtain ⟨w0, w1, w2, w3, w4, w5, w6, w7⟩ := pair_cells (hIo.out _ K1.out.1).2.1 (hIo.out _ K1.out.1).2.2
  go_wp2_with fail
  refine ((HA.out U1 _ _ (hIo.out _ K1.out.1).2.1.isF (hIo.out _ K1.out.1).2.2.isF (HTT.out _ K1.out.1)).2).mono ?_
  rintro _ Y2 ⟨_, rfl, ⟨X3, y3, X4, y4, rfl, RY, SY⟩, hb⟩
  have hu2 := box_new (f := ofFrac Za Da) RY SY 30
  have hy2 : Below Y2.heap.size Y2 (Y2.alloc (.cells #[.bool (decide (Za < 0)), .slice X3 (digs Za.natAbs).length y3, .bool false, .slice X4 (digs Da).length y4] 30)) := (Below.refl _ _).alloc (Nat.le_refl _) _
  have i1 := hI.out.after K1.out.1 hb
  have k1 := K1.out.2.after hb
  have hgy : gx < Y2.heap.size := k1.at'.lt
  have i2 := hI.out.after i1 hy2
  have k2 := k1.after hy2
  unfold ofFrac at hu2
  dsimp only at hu2
  clear hb RY SY i1 k1 K1 w0 w1 w2 w3 w4 w5 w6 w7
  go_upto_region 13 with fail
  obtain ⟨U2, hU⟩ : ∃ U, U = Y2.alloc (.cells #[.bool (decide (Za < 0)), .slice X3 (digs Za.natAbs).length y3, .bool false, .slice X4 (digs Da).length y4] 30) := ⟨_, rfl⟩
  rw [← hU] at hu2 i2 k2 ⊢
  obtain ⟨gy, hgy'⟩ : ∃ gy, gy = Y2.heap.size := ⟨_, rfl⟩
  rw [← hgy'] at hu2 hgy ⊢
  have K2 := Lib.hid (And.intro i2 (And.intro k2 hu2))
  clear hU hy2 i2 k2 hu2 hgy'
  have hq : (ea != ea) = false := by simp
  obtain ⟨w0, w1, w2, w3⟩ := K2.out.2.1.cellsC
  obtain ⟨w4, w5, w6, w7⟩ := K2.out.2.2.cellsC
  go_wp2_with fail
  refine (pc.rsameFraction_any U2 _ _ Za Da ⟨X1, y1, X2, y2, rfl, K2.out.2.1.at'.R, K2.out.2.1.at'.S⟩ ⟨X3, y3, X4, y4, rfl, K2.out.2.2.at'.R, K2.out.2.2.at'.S⟩ (by omega) (by omega)).mono ?_
  rintro _ Y3 ⟨rfl, hb⟩
  have K3 := Lib.hid (And.intro (hI.out.after K2.out.1 hb) (And.intro (K2.out.2.1.after hb) (K2.out.2.2.after hb)))
  clear hb K2 w0 w1 w2 w3 w4 w5 w6 w7 hq
  go_upto_region 15 with fail
  obtain ⟨Zb, Db, eb, zb, db, HBb0⟩ := bothF_sub ⟨n1, l1, n2, l2⟩ ⟨m1', s1, m2', s2⟩ ⟨g2, g3, h2, h3⟩
  have HBb := Lib.hid HBb0
  clear HBb0
  obtain ⟨w0, w1, w2, w3, w4, w5, w6, w7⟩ := pair_cells (hIo.out _ K3.out.1).2.1 (hIo.out _ K3.out.1).2.2
  go_wp2_with fail
  refine ((HBb.out _ _ _ (hIo.out _ K3.out.1).2.1.isF (hIo.out _ K3.out.1).2.2.isF (HTT.out _ K3.out.1)).1).mono ?_
  rintro _ U4' ⟨_, rfl, ⟨pP1, pP3, pP2, pP4, rfl, RX, SX⟩, hb⟩
  have bx := K3.out.2.1.after hb
  have bY := K3.out.2.2.after hb
  have iI := hI.out.after K3.out.1 hb
  have q1x := hI.out.put (x := _) iI bx (by show gp + 1 ≤ gx; omega) (ofFrac Zb Db) pP1 pP2 pP3 pP4
  have q2x := Box.put bx (f := ofFrac Zb Db) RX SX
  have q3x := Box.put_other bY bx (by show gy ≠ gx; omega) (ofFrac Zb Db) pP1 pP2 pP3 pP4
  obtain ⟨r0, r1, r2, r3⟩ := bx.cellsC
  have f0 := bx.fr 0
  have f1 := bx.fr 1
  have f2 := bx.fr 2
  have f3 := bx.fr 3
  dsimp only at f0 f1 f2 f3
  unfold ofFrac fput at q1x q2x q3x
  dsimp only at q1x q2x q3x
  clear w0 w1 w2 w3 w4 w5 w6 w7 hb RX SX bx bY iI K3
  go_upto_region 16 with fail
  obtain ⟨U4, hU⟩ : ∃ U, U = (((U4'.setCell ⟨gx, 0, none⟩ (.bool (decide (Zb < 0)))).setCell ⟨gx, 1, none⟩ (.slice pP1 (digs Zb.natAbs).length pP3)).setCell ⟨gx, 2, none⟩ (.bool false)).setCell ⟨gx, 3, none⟩ (.slice pP2 (digs Db).length pP4) := ⟨_, rfl⟩
  rw [← hU] at q1x q2x q3x ⊢
  have K4 := Lib.hid (And.intro q1x (And.intro q2x q3x))
  clear hU q1x q2x q3x r0 r1 r2 r3 f0 f1 f2 f3
  obtain ⟨w0, w1, w2, w3, w4, w5, w6, w7⟩ := pair_cells (hIo.out _ K4.out.1).2.1 (hIo.out _ K4.out.1).2.2
  go_wp2_with fail
  refine ((HBb.out _ _ _ (hIo.out _ K4.out.1).2.1.isF (hIo.out _ K4.out.1).2.2.isF (HTT.out _ K4.out.1)).2).mono ?_
  rintro _ U5' ⟨_, rfl, ⟨pQ1, pQ3, pQ2, pQ4, rfl, RX, SX⟩, hb⟩
  have bx := K4.out.2.1.after hb
  have bY := K4.out.2.2.after hb
  have iI := hI.out.after K4.out.1 hb
  have q1x := hI.out.put (x := _) iI bY (by show gp + 1 ≤ gy; omega) (ofFrac Zb Db) pQ1 pQ2 pQ3 pQ4
  have q2x := Box.put bY (f := ofFrac Zb Db) RX SX
  have q3x := Box.put_other bx bY (by show gx ≠ gy; omega) (ofFrac Zb Db) pQ1 pQ2 pQ3 pQ4
  obtain ⟨r0, r1, r2, r3⟩ := bY.cellsC
  have f0 := bY.fr 0
  have f1 := bY.fr 1
  have f2 := bY.fr 2
  have f3 := bY.fr 3
  dsimp only at f0 f1 f2 f3
  unfold ofFrac fput at q1x q2x q3x
  dsimp only at q1x q2x q3x
  clear w0 w1 w2 w3 w4 w5 w6 w7 hb RX SX bx bY iI K4
  go_upto_region 17 with fail
  obtain ⟨U5, hU⟩ : ∃ U, U = (((U5'.setCell ⟨gy, 0, none⟩ (.bool (decide (Zb < 0)))).setCell ⟨gy, 1, none⟩ (.slice pQ1 (digs Zb.natAbs).length pQ3)).setCell ⟨gy, 2, none⟩ (.bool false)).setCell ⟨gy, 3, none⟩ (.slice pQ2 (digs Db).length pQ4) := ⟨_, rfl⟩
  rw [← hU] at q1x q2x q3x ⊢
  have K5 := Lib.hid (And.intro q1x (And.intro q3x q2x))
  clear hU q1x q2x q3x r0 r1 r2 r3 f0 f1 f2 f3
  have hq : (eb != eb) = false := by simp
  obtain ⟨w0, w1, w2, w3⟩ := K5.out.2.1.cellsC
  obtain ⟨w4, w5, w6, w7⟩ := K5.out.2.2.cellsC
  go_wp2_with fail
  refine (pc.rsameFraction_any _ _ _ Zb Db ⟨pP1, pP3, pP2, pP4, rfl, K5.out.2.1.at'.R, K5.out.2.1.at'.S⟩ ⟨pQ1, pQ3, pQ2, pQ4, rfl, K5.out.2.2.at'.R, K5.out.2.2.at'.S⟩ (by omega) (by omega)).mono ?_
  rintro _ U6 ⟨rfl, hb⟩
  have K6 := Lib.hid (And.intro (hI.out.after K5.out.1 hb) (And.intro (K5.out.2.1.after hb) (K5.out.2.2.after hb)))
  clear hb K5 w0 w1 w2 w3 w4 w5 w6 w7 hq
  go_upto_region 19 with fail
  obtain ⟨Zc, Dc, ec, zc, dc, HBc0⟩ := bothF_mul ⟨n1, l1, n2, l2⟩ ⟨m1', s1, m2', s2⟩ ⟨g2, g3, h2, h3⟩
  have HBc := Lib.hid HBc0
  clear HBc0
  obtain ⟨w0, w1, w2, w3, w4, w5, w6, w7⟩ := pair_cells (hIo.out _ K6.out.1).2.1 (hIo.out _ K6.out.1).2.2
  go_wp2_with fail
  refine ((HBc.out _ _ _ (hIo.out _ K6.out.1).2.1.isF (hIo.out _ K6.out.1).2.2.isF (HTT.out _ K6.out.1)).1).mono ?_
  rintro _ U7' ⟨_, rfl, ⟨pR1, pR3, pR2, pR4, rfl, RX, SX⟩, hb⟩
  have bx := K6.out.2.1.after hb
  have bY := K6.out.2.2.after hb
  have iI := hI.out.after K6.out.1 hb
  have q1x := hI.out.put (x := _) iI bx (by show gp + 1 ≤ gx; omega) (ofFrac Zc Dc) pR1 pR2 pR3 pR4
  have q2x := Box.put bx (f := ofFrac Zc Dc) RX SX
  have q3x := Box.put_other bY bx (by show gy ≠ gx; omega) (ofFrac Zc Dc) pR1 pR2 pR3 pR4
  obtain ⟨r0, r1, r2, r3⟩ := bx.cellsC
  have f0 := bx.fr 0
  have f1 := bx.fr 1
  have f2 := bx.fr 2
  have f3 := bx.fr 3
  dsimp only at f0 f1 f2 f3
  unfold ofFrac fput at q1x q2x q3x
  dsimp only at q1x q2x q3x
  clear w0 w1 w2 w3 w4 w5 w6 w7 hb RX SX bx bY iI K6
  go_upto_region 20 with fail
  obtain ⟨U7, hU⟩ : ∃ U, U = (((U7'.setCell ⟨gx, 0, none⟩ (.bool (decide (Zc < 0)))).setCell ⟨gx, 1, none⟩ (.slice pR1 (digs Zc.natAbs).length pR3)).setCell ⟨gx, 2, none⟩ (.bool false)).setCell ⟨gx, 3, none⟩ (.slice pR2 (digs Dc).length pR4) := ⟨_, rfl⟩
  rw [← hU] at q1x q2x q3x ⊢
  have K7 := Lib.hid (And.intro q1x (And.intro q2x q3x))
  clear hU q1x q2x q3x r0 r1 r2 r3 f0 f1 f2 f3
  obtain ⟨w0, w1, w2, w3, w4, w5, w6, w7⟩ := pair_cells (hIo.out _ K7.out.1).2.1 (hIo.out _ K7.out.1).2.2
  go_wp2_with fail
  refine ((HBc.out _ _ _ (hIo.out _ K7.out.1).2.1.isF (hIo.out _ K7.out.1).2.2.isF (HTT.out _ K7.out.1)).2).mono ?_
  rintro _ U8' ⟨_, rfl, ⟨pS1, pS3, pS2, pS4, rfl, RX, SX⟩, hb⟩
  have bx := K7.out.2.1.after hb
  have bY := K7.out.2.2.after hb
  have iI := hI.out.after K7.out.1 hb
  have q1x := hI.out.put (x := _) iI bY (by show gp + 1 ≤ gy; omega) (ofFrac Zc Dc) pS1 pS2 pS3 pS4
  have q2x := Box.put bY (f := ofFrac Zc Dc) RX SX
  have q3x := Box.put_other bx bY (by show gx ≠ gy; omega) (ofFrac Zc Dc) pS1 pS2 pS3 pS4
  obtain ⟨r0, r1, r2, r3⟩ := bY.cellsC
  have f0 := bY.fr 0
  have f1 := bY.fr 1
  have f2 := bY.fr 2
  have f3 := bY.fr 3
  dsimp only at f0 f1 f2 f3
  unfold ofFrac fput at q1x q2x q3x
  dsimp only at q1x q2x q3x
  clear w0 w1 w2 w3 w4 w5 w6 w7 hb RX SX bx bY iI K7
  go_upto_region 21 with fail
  obtain ⟨U8, hU⟩ : ∃ U, U = (((U8'.setCell ⟨gy, 0, none⟩ (.bool (decide (Zc < 0)))).setCell ⟨gy, 1, none⟩ (.slice pS1 (digs Zc.natAbs).length pS3)).setCell ⟨gy, 2, none⟩ (.bool false)).setCell ⟨gy, 3, none⟩ (.slice pS2 (digs Dc).length pS4) := ⟨_, rfl⟩
  rw [← hU] at q1x q2x q3x ⊢
  have K8 := Lib.hid (And.intro q1x (And.intro q3x q2x))
  clear hU q1x q2x q3x r0 r1 r2 r3 f0 f1 f2 f3
  have hq : (ec != ec) = false := by simp
  obtain ⟨w0, w1, w2, w3⟩ := K8.out.2.1.cellsC
  obtain ⟨w4, w5, w6, w7⟩ := K8.out.2.2.cellsC
  go_wp2_with fail
  refine (pc.rsameFraction_any _ _ _ Zc Dc ⟨pR1, pR3, pR2, pR4, rfl, K8.out.2.1.at'.R, K8.out.2.1.at'.S⟩ ⟨pS1, pS3, pS2, pS4, rfl, K8.out.2.2.at'.R, K8.out.2.2.at'.S⟩ (by omega) (by omega)).mono ?_
  rintro _ U9 ⟨rfl, hb⟩
  have K9 := Lib.hid (And.intro (hI.out.after K8.out.1 hb) (And.intro (K8.out.2.1.after hb) (K8.out.2.2.after hb)))
  clear hb K8 w0 w1 w2 w3 w4 w5 w6 w7 hq
  go_upto_region 23 with fail
  obtain ⟨Zd, Dd, ed, zd, dd, HBd0⟩ := bothF_div ⟨n1, l1, n2, l2⟩ ⟨m1', s1, m2', s2⟩ ⟨g2, g3, h2, h3⟩
  have HBd := Lib.hid HBd0
  clear HBd0
  obtain ⟨w0, w1, w2, w3, w4, w5, w6, w7⟩ := pair_cells (hIo.out _ K9.out.1).2.1 (hIo.out _ K9.out.1).2.2
  go_wp2_with fail
  refine ((HBd.out _ _ _ (hIo.out _ K9.out.1).2.1.isF (hIo.out _ K9.out.1).2.2.isF (HTT.out _ K9.out.1)).1).mono ?_
  rintro _ U10' ⟨_, rfl, ⟨pT1, pT3, pT2, pT4, rfl, RX, SX⟩, hb⟩
  have bx := K9.out.2.1.after hb
  have bY := K9.out.2.2.after hb
  have iI := hI.out.after K9.out.1 hb
  have q1x := hI.out.put (x := _) iI bx (by show gp + 1 ≤ gx; omega) (ofFrac Zd Dd) pT1 pT2 pT3 pT4
  have q2x := Box.put bx (f := ofFrac Zd Dd) RX SX
  have q3x := Box.put_other bY bx (by show gy ≠ gx; omega) (ofFrac Zd Dd) pT1 pT2 pT3 pT4
  obtain ⟨r0, r1, r2, r3⟩ := bx.cellsC
  have f0 := bx.fr 0
  have f1 := bx.fr 1
  have f2 := bx.fr 2
  have f3 := bx.fr 3
  dsimp only at f0 f1 f2 f3
  unfold ofFrac fput at q1x q2x q3x
  dsimp only at q1x q2x q3x
  clear w0 w1 w2 w3 w4 w5 w6 w7 hb RX SX bx bY iI K9
  go_upto_region 24 with fail
  obtain ⟨U10, hU⟩ : ∃ U, U = (((U10'.setCell ⟨gx, 0, none⟩ (.bool (decide (Zd < 0)))).setCell ⟨gx, 1, none⟩ (.slice pT1 (digs Zd.natAbs).length pT3)).setCell ⟨gx, 2, none⟩ (.bool false)).setCell ⟨gx, 3, none⟩ (.slice pT2 (digs Dd).length pT4) := ⟨_, rfl⟩
  rw [← hU] at q1x q2x q3x ⊢
  have K10 := Lib.hid (And.intro q1x (And.intro q2x q3x))
  clear hU q1x q2x q3x r0 r1 r2 r3 f0 f1 f2 f3
  obtain ⟨w0, w1, w2, w3, w4, w5, w6, w7⟩ := pair_cells (hIo.out _ K10.out.1).2.1 (hIo.out _ K10.out.1).2.2
  go_wp2_with fail
  refine ((HBd.out _ _ _ (hIo.out _ K10.out.1).2.1.isF (hIo.out _ K10.out.1).2.2.isF (HTT.out _ K10.out.1)).2).mono ?_
  rintro _ U11' ⟨_, rfl, ⟨pU1, pU3, pU2, pU4, rfl, RX, SX⟩, hb⟩
  have bx := K10.out.2.1.after hb
  have bY := K10.out.2.2.after hb
  have iI := hI.out.after K10.out.1 hb
  have q1x := hI.out.put (x := _) iI bY (by show gp + 1 ≤ gy; omega) (ofFrac Zd Dd) pU1 pU2 pU3 pU4
  have q2x := Box.put bY (f := ofFrac Zd Dd) RX SX
  have q3x := Box.put_other bx bY (by show gx ≠ gy; omega) (ofFrac Zd Dd) pU1 pU2 pU3 pU4
  obtain ⟨r0, r1, r2, r3⟩ := bY.cellsC
  have f0 := bY.fr 0
  have f1 := bY.fr 1
  have f2 := bY.fr 2
  have f3 := bY.fr 3
  dsimp only at f0 f1 f2 f3
  unfold ofFrac fput at q1x q2x q3x
  dsimp only at q1x q2x q3x
  clear w0 w1 w2 w3 w4 w5 w6 w7 hb RX SX bx bY iI K10
  go_upto_region 25 with fail
  obtain ⟨U11, hU⟩ : ∃ U, U = (((U11'.setCell ⟨gy, 0, none⟩ (.bool (decide (Zd < 0)))).setCell ⟨gy, 1, none⟩ (.slice pU1 (digs Zd.natAbs).length pU3)).setCell ⟨gy, 2, none⟩ (.bool false)).setCell ⟨gy, 3, none⟩ (.slice pU2 (digs Dd).length pU4) := ⟨_, rfl⟩
  rw [← hU] at q1x q2x q3x ⊢
  have K11 := Lib.hid (And.intro q1x (And.intro q3x q2x))
  clear hU q1x q2x q3x r0 r1 r2 r3 f0 f1 f2 f3
  obtain ⟨L, hL, hLo, KL⟩ : ∃ L : World → Prop, Hid (∀ W W', Hid (L W) → Below W.heap.size W W' → Hid (L W')) ∧ Hid (∀ W, Hid (L W) → I W ∧ Box W ⟨gx, 0, ⟨decide (Zd < 0), digs Zd.natAbs, false, digs Dd⟩, pT1, pT3, pT2, pT4⟩ ∧ Box W ⟨gy, 0, ⟨decide (Zd < 0), digs Zd.natAbs, false, digs Dd⟩, pU1, pU3, pU2, pU4⟩) ∧ Hid (L U11) :=
    ⟨fun W => I W ∧ Box W ⟨gx, 0, ⟨decide (Zd < 0), digs Zd.natAbs, false, digs Dd⟩, pT1, pT3, pT2, pT4⟩ ∧ Box W ⟨gy, 0, ⟨decide (Zd < 0), digs Zd.natAbs, false, digs Dd⟩, pU1, pU3, pU2, pU4⟩, Lib.hid fun W W' h hb => Lib.hid ⟨hI.out.after h.out.1 hb, h.out.2.1.after hb, h.out.2.2.after hb⟩, Lib.hid fun W h => h.out, K11⟩
  clear K11
  have HHd := Lib.hid (show ∀ w', Hid (L w') → w'.cell? ⟨gx, 0, none⟩ = some (.bool (decide (Zd < 0))) ∧ w'.cell? ⟨gx, 1, none⟩ = some (.slice pT1 (digs Zd.natAbs).length pT3) ∧ w'.cell? ⟨gx, 2, none⟩ = some (.bool false) ∧ w'.cell? ⟨gx, 3, none⟩ = some (.slice pT2 (digs Dd).length pT4) ∧ w'.cell? ⟨gy, 0, none⟩ = some (.bool (decide (Zd < 0))) ∧ w'.cell? ⟨gy, 1, none⟩ = some (.slice pU1 (digs Zd.natAbs).length pU3) ∧ w'.cell? ⟨gy, 2, none⟩ = some (.bool false) ∧ w'.cell? ⟨gy, 3, none⟩ = some (.slice pU2 (digs Dd).length pU4) ∧ w'.cell? ⟨gp, 0, none⟩ = some (.bool n1) ∧ w'.cell? ⟨gp, 1, none⟩ = some (.slice D1 l1.length q1) ∧ w'.cell? ⟨gp, 2, none⟩ = some (.bool n2) ∧ w'.cell? ⟨gp, 3, none⟩ = some (.slice D2 l2.length q2) ∧ w'.cell? ⟨gp, 4, none⟩ = some (.bool m1') ∧ w'.cell? ⟨gp, 5, none⟩ = some (.slice D3 s1.length q3) ∧ w'.cell? ⟨gp, 6, none⟩ = some (.bool m2') ∧ w'.cell? ⟨gp, 7, none⟩ = some (.slice D4 s2.length q4) from fun W h => by
    obtain ⟨hi, b1, b2⟩ := hLo.out W h
    obtain ⟨x0, x1, x2, x3⟩ := b1.cellsC
    obtain ⟨y0, y1, y2, y3⟩ := b2.cellsC
    obtain ⟨z0, z1, z2, z3, z4, z5, z6, z7⟩ := pair_cells (hIo.out _ hi).2.1 (hIo.out _ hi).2.2
    exact ⟨x0, x1, x2, x3, y0, y1, y2, y3, z0, z1, z2, z3, z4, z5, z6, z7⟩)
  have hq : (ed != ed) = false := by simp
  obtain ⟨kc, Hkc⟩ := bothF_cmp ⟨n1, l1, n2, l2⟩ ⟨m1', s1, m2', s2⟩ ⟨g2, g3, h2, h3⟩
  obtain ⟨kv, Hkv⟩ := bothF_valid ⟨n1, l1, n2, l2⟩ ⟨g2, g3⟩
  obtain ⟨kt, Hkt⟩ := bothF_text ⟨n1, l1, n2, l2⟩ ⟨g2, g3⟩
  have hP' : ∀ W, I W → Pow W := fun W h => HT.out.2.below (hJo.out _ (hIo.out _ h).1).1
  have HPP := Lib.hid hP'
  clear hP'
  have C13 := Lib.hid (show ∀ W, Hid (L W) → Calls Tryz.prog 13 #[.agg #[.bool (decide (Zd < 0)), .slice pT1 (digs Zd.natAbs).length pT3, .bool false, .slice pT2 (digs Dd).length pT4], .agg #[.bool (decide (Zd < 0)), .slice pU1 (digs Zd.natAbs).length pU3, .bool false, .slice pU2 (digs Dd).length pU4]] W (fun e w' => e = .returned (.bool true) ∧ Hid (L w')) from fun W h => (pc.rsameFraction_any _ _ _ Zd Dd ⟨pT1, pT3, pT2, pT4, rfl, (hLo.out _ h).2.1.at'.R, (hLo.out _ h).2.1.at'.S⟩ ⟨pU1, pU3, pU2, pU4, rfl, (hLo.out _ h).2.2.at'.R, (hLo.out _ h).2.2.at'.S⟩ (by omega) (by omega)).mono fun e w' hh => ⟨hh.1, hL.out _ _ h hh.2⟩)
  have C20 := Lib.hid (show ∀ W, Hid (L W) → Calls Tryz.prog 20 #[.agg #[.bool n1, .slice D1 l1.length q1, .bool n2, .slice D2 l2.length q2], .agg #[.bool m1', .slice D3 s1.length q3, .bool m2', .slice D4 s2.length q4]] W (fun e w' => e = .returned (.int .i64 kc) ∧ Hid (L w')) from fun W h => ((Hkc _ _ _ (hIo.out _ (hLo.out _ h).1).2.1.isF (hIo.out _ (hLo.out _ h).1).2.2.isF (HTT.out _ (hLo.out _ h).1)).1).mono fun e w' hh => ⟨hh.1, hL.out _ _ h hh.2⟩)
  have C21 := Lib.hid (show ∀ W, Hid (L W) → Calls Tryz.prog 21 #[.agg #[.bool n1, .slice D1 l1.length q1, .bool n2, .slice D2 l2.length q2], .agg #[.bool m1', .slice D3 s1.length q3, .bool m2', .slice D4 s2.length q4]] W (fun e w' => e = .returned (.int .i64 kc) ∧ Hid (L w')) from fun W h => ((Hkc _ _ _ (hIo.out _ (hLo.out _ h).1).2.1.isF (hIo.out _ (hLo.out _ h).1).2.2.isF (HTT.out _ (hLo.out _ h).1)).2).mono fun e w' hh => ⟨hh.1, hL.out _ _ h hh.2⟩)
  have C22 := Lib.hid (show ∀ W, Hid (L W) → Calls Tryz.prog 22 #[.agg #[.bool n1, .slice D1 l1.length q1, .bool n2, .slice D2 l2.length q2]] W (fun e w' => e = .returned (.bool kv) ∧ Hid (L w')) from fun W h => ((Hkv _ _ (hIo.out _ (hLo.out _ h).1).2.1.isF (HTT.out _ (hLo.out _ h).1)).1).mono fun e w' hh => ⟨hh.1, hL.out _ _ h hh.2⟩)
  have C23 := Lib.hid (show ∀ W, Hid (L W) → Calls Tryz.prog 23 #[.agg #[.bool n1, .slice D1 l1.length q1, .bool n2, .slice D2 l2.length q2]] W (fun e w' => e = .returned (.bool kv) ∧ Hid (L w')) from fun W h => ((Hkv _ _ (hIo.out _ (hLo.out _ h).1).2.1.isF (HTT.out _ (hLo.out _ h).1)).2).mono fun e w' hh => ⟨hh.1, hL.out _ _ h hh.2⟩)
  have C24 := Lib.hid (show ∀ W, Hid (L W) → Calls Tryz.prog 24 #[.agg #[.bool n1, .slice D1 l1.length q1, .bool n2, .slice D2 l2.length q2]] W (fun e w' => e = .returned (.string kt) ∧ Hid (L w')) from fun W h => ((Hkt _ _ (hIo.out _ (hLo.out _ h).1).2.1.isF (HTT.out _ (hLo.out _ h).1) (HPP.out _ (hLo.out _ h).1)).1).mono fun e w' hh => ⟨hh.1, hL.out _ _ h hh.2⟩)
  have C25 := Lib.hid (show ∀ W, Hid (L W) → Calls Tryz.prog 25 #[.agg #[.bool n1, .slice D1 l1.length q1, .bool n2, .slice D2 l2.length q2]] W (fun e w' => e = .returned (.string kt) ∧ Hid (L w')) from fun W h => ((Hkt _ _ (hIo.out _ (hLo.out _ h).1).2.1.isF (HTT.out _ (hLo.out _ h).1) (HPP.out _ (hLo.out _ h).1)).2).mono fun e w' hh => ⟨hh.1, hL.out _ _ h hh.2⟩)
  have q1v : (kc != kc) = false := by simp
  have q2v : (kv != kv) = false := by simp
  have q3v : (kt != kt) = false := by
    have h : (kt == kt) = true := by cases kt with | mk d => first | (simp; done) | (show (d == d) = true; simp; done)
    rw [bne, h]; rfl
  clear Hkc Hkv Hkt
  have KLd := hL.out _ _ KL (Below.refl _ _).drew
  obtain ⟨w0, w1, w2, w3, w4, w5, w6, w7, w8, w9, w10, w11, w12, w13, w14, w15⟩ := HHd.out _ KL
  go_cut [216] from 177 to 217 (fun s216 wx => s216 = .bool false ∧ Hid (L wx))
  case first =>
    go_region_held3 (fun w' => w'.cell? ⟨gx, 0, none⟩ = some (.bool (decide (Zd < 0))) ∧ w'.cell? ⟨gx, 1, none⟩ = some (.slice pT1 (digs Zd.natAbs).length pT3) ∧ w'.cell? ⟨gx, 2, none⟩ = some (.bool false) ∧ w'.cell? ⟨gx, 3, none⟩ = some (.slice pT2 (digs Dd).length pT4) ∧ w'.cell? ⟨gy, 0, none⟩ = some (.bool (decide (Zd < 0))) ∧ w'.cell? ⟨gy, 1, none⟩ = some (.slice pU1 (digs Zd.natAbs).length pU3) ∧ w'.cell? ⟨gy, 2, none⟩ = some (.bool false) ∧ w'.cell? ⟨gy, 3, none⟩ = some (.slice pU2 (digs Dd).length pU4) ∧ w'.cell? ⟨gp, 0, none⟩ = some (.bool n1) ∧ w'.cell? ⟨gp, 1, none⟩ = some (.slice D1 l1.length q1) ∧ w'.cell? ⟨gp, 2, none⟩ = some (.bool n2) ∧ w'.cell? ⟨gp, 3, none⟩ = some (.slice D2 l2.length q2) ∧ w'.cell? ⟨gp, 4, none⟩ = some (.bool m1') ∧ w'.cell? ⟨gp, 5, none⟩ = some (.slice D3 s1.length q3) ∧ w'.cell? ⟨gp, 6, none⟩ = some (.bool m2') ∧ w'.cell? ⟨gp, 7, none⟩ = some (.slice D4 s2.length q4))
      (with_reducible exact HHd.out _ (by assumption))
      (first
        | (go_at_call 13; refine (C13.out _ (by assumption)).mono ?_; rintro _ V13 ⟨rfl, hk13⟩)
        | (go_at_call 20; refine (C20.out _ (by assumption)).mono ?_; rintro _ V20 ⟨rfl, hk20⟩)
        | (go_at_call 21; refine (C21.out _ (by assumption)).mono ?_; rintro _ V21 ⟨rfl, hk21⟩)
        | (go_at_call 22; refine (C22.out _ (by assumption)).mono ?_; rintro _ V22 ⟨rfl, hk22⟩)
        | (go_at_call 23; refine (C23.out _ (by assumption)).mono ?_; rintro _ V23 ⟨rfl, hk23⟩)
        | (go_at_call 24; refine (C24.out _ (by assumption)).mono ?_; rintro _ V24 ⟨rfl, hk24⟩)
        | (go_at_call 25; refine (C25.out _ (by assumption)).mono ?_; rintro _ V25 ⟨rfl, hk25⟩))
    all_goals (go_wp2_with fail)
    all_goals go_meet
    all_goals exact ⟨rfl, by assumption⟩
  case rest =>
  obtain ⟨rfl, HC⟩ := hcut
  clear KL KLd w0 w1 w2 w3 w4 w5 w6 w7 w8 w9 w10 w11 w12 w13 w14 w15 C13 C20 C21 C22 C23 C24 C25 q1v q2v q3v hq HHd HPP
  go_wp2_with fail
  exact HQ.out _ _ _ _ _ _ _ _ _ _ _ _ _ _ _ _ _ _ _ _ _ _ _ _ _ _ _ _ _ _ _ _ _ _ _ _ _ _ _ _ _ _ _ _ _ _ _ _ _ _ _ _ _ _ _ _ _ _ _ _ _ _ _ _ _ _ _ _ _ _ _ _ _ _ _ _ _ _ _ _ _ _ _ _ _ _ _ _ _ _ _ _ _ _ _ _ _ _ _ _ _ _ _ _ _ _ _ _ _ _ _ _ _ _ _ _ _ _ _ _ _ _ _ _ _ _ _ _ _ _ _ _ _ _ _ _ _ _ _ _ _ _ rfl (Lib.hid (hIo.out _ (hLo.out _ HC).1).1)

end Go.Proofs.YtbeidpeoichakaaGreatDoor.ul
