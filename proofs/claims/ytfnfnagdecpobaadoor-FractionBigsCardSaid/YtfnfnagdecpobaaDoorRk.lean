/- law 01: FractionBigs: region 16. -/
import Derived.Test.YtfnfnagdecpobaaDoorRj
set_option linter.unusedSimpArgs false
set_option linter.unusedVariables false
namespace Go.Proofs.YtfnfnagdecpobaaDoor.rk
open Go.RowKit Go.Proofs.YtfnfnagdecpobaaDoor.fm Go.Proofs.YtfnfnagdecpobaaDoor.mem Go.Proofs.YtfnfnagdecpobaaDoor.fa Go.Proofs.YtfnfnagdecpobaaDoor.fb Go.Proofs.YtfnfnagdecpobaaDoor.fj Go.Proofs.YtfnfnagdecpobaaDoor.fu Go.Proofs.YtfnfnagdecpobaaDoor.fv Go.Proofs.YtfnfnagdecpobaaDoor.fw Go.Proofs.YtfnfnagdecpobaaDoor.fx Go.Proofs.YtfnfnagdecpobaaDoor.fy Go.Proofs.YtfnfnagdecpobaaDoor.fz Go.Proofs.YtfnfnagdecpobaaDoor.gc Go.Proofs.YtfnfnagdecpobaaDoor.gf Go.Proofs.YtfnfnagdecpobaaDoor.hb Go.Proofs.YtfnfnagdecpobaaDoor.hf Go.Proofs.YtfnfnagdecpobaaDoor.hg Go.Proofs.YtfnfnagdecpobaaDoor.hh Go.Proofs.YtfnfnagdecpobaaDoor.mill Go.Proofs.YtfnfnagdecpobaaDoor.jh Go.Proofs.YtfnfnagdecpobaaDoor.pc Go.Proofs.YtfnfnagdecpobaaDoor.rf Go.Proofs.YtfnfnagdecpobaaDoor.rg Go.Proofs.YtfnfnagdecpobaaDoor.rh Go.Proofs.YtfnfnagdecpobaaDoor.rj

set_option maxRecDepth 100000 in
set_option maxHeartbeats 20000000 in
theorem reg16 (C : Code) (hC : C = reg 16) {w wx : World} {gb gp : Nat} {es : Nat → (Bool × List Nat) × (Bool × List Nat)} {n1 n2 : Bool} {y1 y2 : List Nat} {A4 A5 : Option Addr} {c4 c5 : Nat} {g1 g2 : Nat} {Zm km kc : Int} {B5 B6 : Option Addr} {d5 d6 : Nat} (HR6 : Hid (RS w wx gb es gp n1 y1 A4 c4 n2 y2 A5 c5 [(g2, Zm, B6, d6), (g1, Zm, B5, d5)]))
    (Hm : Hid ((digs Zm.natAbs).length ≤ 256)) (Hc : Hid (∀ w a b, IsAny w a n1 y1 → IsAny w b n2 y2 → Calls Tryd.prog 20 #[a, b] w (fun e w' => e = .returned (.int .i64 kc) ∧ Below w.heap.size w w') ∧ Calls Tryd.prog 21 #[a, b] w (fun e w' => e = .returned (.int .i64 kc) ∧ Below w.heap.size w w'))) (Q : Exit → Act → World → Prop) (u0 u1 u2 u3 u4 u5 u6 u7 u8 u9 u10 u16 u17 u18 u19 u20 u21 u22 u23 u24 u25 u26 u27 u28 u29 u30 u31 u32 u33 u34 u35 u36 u37 u38 u39 u40 u41 u42 u43 u44 u45 u46 u47 u48 u49 u50 u51 u52 u53 u54 u55 u56 u57 u58 u59 u60 u61 u62 u63 u64 u65 u66 u67 u68 u69 u70 u71 u72 u73 u74 u75 u76 u77 u78 u79 u80 u81 u82 u83 u84 u85 u86 u87 u88 u89 u90 u91 u92 u93 u94 u95 u96 u97 u98 u99 u100 u101 u102 u103 u104 u105 u106 u107 u108 u109 u110 u111 u112 u113 u114 u115 u116 u117 u118 u119 u120 u121 u122 u123 u124 u125 u126 u127 u128 u129 u130 u131 u132 u133 u134 u135 u136 u137 u138 u139 u140 u141 u142 u143 u144 u145 u146 u147 u148 u149 u150 u151 u152 u153 u154 u155 u156 u157 u158 u159 u160 u161 u162 u163 u164 u165 u166 u167 u168 u169 u170 u171 u172 u173 u174 u175 u176 u177 u178 u179 u180 u181 u182 u183 u184 u185 u186 u187 u188 u189 u190 u191 u192 u193 u194 u195 u196 u197 u198 u199 u200 u201 u202 u203 u204 u205 u206 u207 u208 u209 u210 u211 u212 u213 u214 u215 u216 u217 u218 u219 u220 u221 u222 u223 u224 u225 u226 u227 u228 u229 u230 u231 u232 u233 u234 u235 u236 u237 u238 u239 u240 u241 u242 u243 u244 u245 u246 u247 u248 u249 u250 u251 u252 u253 u254 u255 : Value)
    (hQ : ∀ (t135 t136 t137 t138 t139 t140 t141 t142 t143 t144 t145 t146 t147 t148 t149 t150 t151 t152 t153 t154 t155 t156 : Value) (w9 : World), t156 = .bool false → Hid (RS w w9 gb es gp n1 y1 A4 c4 n2 y2 A5 c5 []) → Q .normal ⟨#[u0, u1, u2, u3, u4, u5, u6, u7, u8, u9, u10, .pointer (some ⟨gp, 0, none⟩), .pointer (some ⟨g1, 0, none⟩), .int .i64 km, .pointer (some ⟨g2, 0, none⟩), .int .i64 km, u16, u17, u18, u19, u20, u21, u22, u23, u24, u25, u26, u27, u28, u29, u30, u31, u32, u33, u34, u35, u36, u37, u38, u39, u40, u41, u42, u43, u44, u45, u46, u47, u48, u49, u50, u51, u52, u53, u54, u55, u56, u57, u58, u59, u60, u61, u62, u63, u64, u65, u66, u67, u68, u69, u70, u71, u72, u73, u74, u75, u76, u77, u78, u79, u80, u81, u82, u83, u84, u85, u86, u87, u88, u89, u90, u91, u92, u93, u94, u95, u96, u97, u98, u99, u100, u101, u102, u103, u104, u105, u106, u107, u108, u109, u110, u111, u112, u113, u114, u115, u116, u117, u118, u119, u120, u121, u122, u123, u124, u125, u126, u127, u128, u129, u130, u131, u132, u133, u134, t135, t136, t137, t138, t139, t140, t141, t142, t143, t144, t145, t146, t147, t148, t149, t150, t151, t152, t153, t154, t155, t156, u157, u158, u159, u160, u161, u162, u163, u164, u165, u166, u167, u168, u169, u170, u171, u172, u173, u174, u175, u176, u177, u178, u179, u180, u181, u182, u183, u184, u185, u186, u187, u188, u189, u190, u191, u192, u193, u194, u195, u196, u197, u198, u199, u200, u201, u202, u203, u204, u205, u206, u207, u208, u209, u210, u211, u212, u213, u214, u215, u216, u217, u218, u219, u220, u221, u222, u223, u224, u225, u226, u227, u228, u229, u230, u231, u232, u233, u234, u235, u236, u237, u238, u239, u240, u241, u242, u243, u244, u245, u246, u247, u248, u249, u250, u251, u252, u253, u254, u255], []⟩ w9) :
    Code.wp Tryd.prog C Q ⟨#[u0, u1, u2, u3, u4, u5, u6, u7, u8, u9, u10, .pointer (some ⟨gp, 0, none⟩), .pointer (some ⟨g1, 0, none⟩), .int .i64 km, .pointer (some ⟨g2, 0, none⟩), .int .i64 km, u16, u17, u18, u19, u20, u21, u22, u23, u24, u25, u26, u27, u28, u29, u30, u31, u32, u33, u34, u35, u36, u37, u38, u39, u40, u41, u42, u43, u44, u45, u46, u47, u48, u49, u50, u51, u52, u53, u54, u55, u56, u57, u58, u59, u60, u61, u62, u63, u64, u65, u66, u67, u68, u69, u70, u71, u72, u73, u74, u75, u76, u77, u78, u79, u80, u81, u82, u83, u84, u85, u86, u87, u88, u89, u90, u91, u92, u93, u94, u95, u96, u97, u98, u99, u100, u101, u102, u103, u104, u105, u106, u107, u108, u109, u110, u111, u112, u113, u114, u115, u116, u117, u118, u119, u120, u121, u122, u123, u124, u125, u126, u127, u128, u129, u130, u131, u132, u133, u134, u135, u136, u137, u138, u139, u140, u141, u142, u143, u144, u145, u146, u147, u148, u149, u150, u151, u152, u153, u154, u155, u156, u157, u158, u159, u160, u161, u162, u163, u164, u165, u166, u167, u168, u169, u170, u171, u172, u173, u174, u175, u176, u177, u178, u179, u180, u181, u182, u183, u184, u185, u186, u187, u188, u189, u190, u191, u192, u193, u194, u195, u196, u197, u198, u199, u200, u201, u202, u203, u204, u205, u206, u207, u208, u209, u210, u211, u212, u213, u214, u215, u216, u217, u218, u219, u220, u221, u222, u223, u224, u225, u226, u227, u228, u229, u230, u231, u232, u233, u234, u235, u236, u237, u238, u239, u240, u241, u242, u243, u244, u245, u246, u247, u248, u249, u250, u251, u252, u253, u254, u255], []⟩ wx := by
  subst hC
  conv => arg 2; whnf
  have HR6d := Lib.hid HR6.out.draw
  have K6 := HR6.out.held8
  have K6d := HR6d.out.held8
  dsimp only at K6 K6d
  have HK6 := Lib.hid (And.intro K6 K6d)
  obtain ⟨p0, p1, p2, p3, x2, x3, x0, x1⟩ := K6
  clear K6d
  have e1 : (km != km) = false := by simp
  have e2 : (kc != kc) = false := by simp
  have HQ := Lib.hid hQ
  clear hQ
  first
    | (go_region_held3 (fun w' => w'.cell? ⟨gp, 0, none⟩ = some (.bool n1) ∧ w'.cell? ⟨gp, 1, none⟩ = some (.slice A4 y1.length c4) ∧ w'.cell? ⟨gp, 2, none⟩ = some (.bool n2) ∧ w'.cell? ⟨gp, 3, none⟩ = some (.slice A5 y2.length c5) ∧
        w'.cell? ⟨g2, 0, none⟩ = some (.bool (decide (Zm < 0))) ∧ w'.cell? ⟨g2, 1, none⟩ = some (.slice B6 (digs Zm.natAbs).length d6) ∧ w'.cell? ⟨g1, 0, none⟩ = some (.bool (decide (Zm < 0))) ∧ w'.cell? ⟨g1, 1, none⟩ = some (.slice B5 (digs Zm.natAbs).length d5))
        (first | with_reducible exact HK6.out.1 | with_reducible exact HK6.out.2 | with_reducible exact HK1.out | with_reducible exact HK2.out | with_reducible exact HK3.out)
        (first
          | (have h2 := H2; go_at_call 21; refine ((Hc.out _ _ _ H2.out.G.fst H2.out.G.snd).2).mono ?_; rintro _ Z3 ⟨rfl, hz3⟩
             have H3 := Lib.hid (H2.out.after hz3)
             have K3 := H3.out.held8
             dsimp only at K3
             have HK3 := Lib.hid K3
             clear K3 hz3 h2)
          | (have h1 := H1; go_at_call 20; refine ((Hc.out _ _ _ H1.out.G.fst H1.out.G.snd).1).mono ?_; rintro _ Z2 ⟨rfl, hz2⟩
             have H2 := Lib.hid (H1.out.after hz2)
             have K2 := H2.out.held8
             dsimp only at K2
             have HK2 := Lib.hid K2
             clear K2 hz2 h1)
          | (go_at_call 17; refine (rsame_any _ _ _ Zm HR6d.out.tl.hd.big HR6d.out.hd.big (Nat.le_trans Hm.out (by decide))).mono ?_; rintro _ Z1 ⟨rfl, hz1⟩
             have H1 := Lib.hid (HR6d.out.after hz1)
             have K1 := H1.out.held8
             dsimp only at K1
             have HK1 := Lib.hid K1
             clear K1 hz1)))
    | fail
  all_goals exact HQ.out _ _ _ _ _ _ _ _ _ _ _ _ _ _ _ _ _ _ _ _ _ _ _ rfl (Lib.hid H3.out.tl.tl)

end Go.Proofs.YtfnfnagdecpobaaDoor.rk
