/- law 01: FractionBigs: region 20, a number whose text is asked. -/
import Derived.Test.YtfnfnagdecpobaaDoorRj
set_option linter.unusedSimpArgs false
set_option linter.unusedVariables false
namespace Go.Proofs.YtfnfnagdecpobaaDoor.rl
open Go.RowKit Go.Proofs.YtfnfnagdecpobaaDoor.fm Go.Proofs.YtfnfnagdecpobaaDoor.mem Go.Proofs.YtfnfnagdecpobaaDoor.fa Go.Proofs.YtfnfnagdecpobaaDoor.fb Go.Proofs.YtfnfnagdecpobaaDoor.fj Go.Proofs.YtfnfnagdecpobaaDoor.fu Go.Proofs.YtfnfnagdecpobaaDoor.fv Go.Proofs.YtfnfnagdecpobaaDoor.fw Go.Proofs.YtfnfnagdecpobaaDoor.fx Go.Proofs.YtfnfnagdecpobaaDoor.fy Go.Proofs.YtfnfnagdecpobaaDoor.fz Go.Proofs.YtfnfnagdecpobaaDoor.gc Go.Proofs.YtfnfnagdecpobaaDoor.gf Go.Proofs.YtfnfnagdecpobaaDoor.hb Go.Proofs.YtfnfnagdecpobaaDoor.hf Go.Proofs.YtfnfnagdecpobaaDoor.hg Go.Proofs.YtfnfnagdecpobaaDoor.hh Go.Proofs.YtfnfnagdecpobaaDoor.mill Go.Proofs.YtfnfnagdecpobaaDoor.jh Go.Proofs.YtfnfnagdecpobaaDoor.pc Go.Proofs.YtfnfnagdecpobaaDoor.rf Go.Proofs.YtfnfnagdecpobaaDoor.rg Go.Proofs.YtfnfnagdecpobaaDoor.rh Go.Proofs.YtfnfnagdecpobaaDoor.rj

set_option maxRecDepth 100000 in
set_option maxHeartbeats 20000000 in
theorem reg20s (C : Code) (hC : C = reg 20) {w wx : World} {gb gp : Nat} {es : Nat → (Bool × List Nat) × (Bool × List Nat)} {n1 n2 : Bool} {y1 y2 : List Nat} {A4 A5 : Option Addr} {c4 c5 : Nat} {n ki : Int} {oi ov : Bool} {tx : ByteArray} (HR9 : Hid (RS w wx gb es gp n1 y1 A4 c4 n2 y2 A5 c5 [])) (hP : Hid (Pow w)) (HPw : Hid (-9223372036854775808 ≤ n ∧ n < 9223372036854775808 ∧ (digs n.natAbs).length ≤ 100000000))
    (Hv : Hid (∀ w a, IsAny w a n1 y1 → Calls Tryd.prog 24 #[a] w (fun e w' => e = .returned (.bool ov) ∧ Below w.heap.size w w') ∧ Calls Tryd.prog 25 #[a] w (fun e w' => e = .returned (.bool ov) ∧ Below w.heap.size w w')))
    (Ht : Hid (∀ w a, IsAny w a n1 y1 → Pow w → Calls Tryd.prog 27 #[a] w (fun e w' => e = .returned (.string tx) ∧ Below w.heap.size w w') ∧ Calls Tryd.prog 28 #[a] w (fun e w' => e = .returned (.string tx) ∧ Below w.heap.size w w'))) (h9 : y1.length < 9) (Q : Exit → Act → World → Prop) (u0 u1 u3 u4 u5 u6 u7 u8 u9 u10 u12 u13 u14 u15 u16 u17 u18 u19 u24 u25 u26 u27 u28 u29 u30 u31 u32 u33 u34 u35 u36 u37 u38 u39 u40 u41 u42 u43 u44 u45 u46 u47 u48 u49 u50 u51 u52 u53 u54 u55 u56 u57 u58 u59 u60 u61 u62 u63 u64 u65 u66 u67 u68 u69 u70 u71 u72 u73 u74 u75 u76 u77 u78 u79 u80 u81 u82 u83 u84 u85 u86 u87 u88 u89 u90 u91 u92 u93 u94 u95 u96 u97 u98 u99 u100 u101 u102 u103 u104 u105 u106 u107 u108 u109 u110 u111 u112 u113 u114 u115 u116 u117 u118 u119 u120 u121 u122 u123 u124 u125 u126 u127 u128 u129 u130 u131 u132 u133 u134 u135 u136 u137 u138 u139 u140 u141 u142 u143 u144 u145 u146 u147 u148 u149 u150 u151 u152 u153 u154 u155 u156 u157 u158 u159 u160 u161 u162 u163 u164 u165 u166 u167 u168 u169 u170 u171 u172 u173 u174 u175 u176 u177 u178 u179 u180 u181 u182 u183 u184 u185 u186 u187 u188 u189 u190 u191 u192 u193 u194 u195 u196 u197 u198 u199 u200 u201 u202 u203 u204 u205 u206 u207 u208 u209 u210 u211 u212 u213 u214 u215 u216 u217 u218 u219 u220 u221 u222 u223 u224 u225 u226 u227 u228 u229 u230 u231 u232 u233 u234 u235 u236 u237 u238 u239 u240 u241 u242 u243 u244 u245 u246 u247 u248 u249 u250 u251 u252 u253 u254 u255 : Value)
    (hQ : ∀ (t169 t170 t171 t172 t173 t174 t175 t176 t177 t178 t179 t180 t181 t182 t183 t184 t185 t186 t187 t188 t189 t190 t191 t192 t193 t194 t195 t196 t197 t198 t199 t200 t201 t202 t203 t204 t205 t206 t207 t208 t209 : Value) (w9 : World), t209 = .bool false → Hid (RS w w9 gb es gp n1 y1 A4 c4 n2 y2 A5 c5 []) → Q .normal ⟨#[u0, u1, .int .i64 n, u3, u4, u5, u6, u7, u8, u9, u10, .pointer (some ⟨gp, 0, none⟩), u12, u13, u14, u15, u16, u17, u18, u19, .int .i64 ki, .bool oi, .int .i64 ki, .bool oi, u24, u25, u26, u27, u28, u29, u30, u31, u32, u33, u34, u35, u36, u37, u38, u39, u40, u41, u42, u43, u44, u45, u46, u47, u48, u49, u50, u51, u52, u53, u54, u55, u56, u57, u58, u59, u60, u61, u62, u63, u64, u65, u66, u67, u68, u69, u70, u71, u72, u73, u74, u75, u76, u77, u78, u79, u80, u81, u82, u83, u84, u85, u86, u87, u88, u89, u90, u91, u92, u93, u94, u95, u96, u97, u98, u99, u100, u101, u102, u103, u104, u105, u106, u107, u108, u109, u110, u111, u112, u113, u114, u115, u116, u117, u118, u119, u120, u121, u122, u123, u124, u125, u126, u127, u128, u129, u130, u131, u132, u133, u134, u135, u136, u137, u138, u139, u140, u141, u142, u143, u144, u145, u146, u147, u148, u149, u150, u151, u152, u153, u154, u155, u156, u157, u158, u159, u160, u161, u162, u163, u164, u165, u166, u167, u168, t169, t170, t171, t172, t173, t174, t175, t176, t177, t178, t179, t180, t181, t182, t183, t184, t185, t186, t187, t188, t189, t190, t191, t192, t193, t194, t195, t196, t197, t198, t199, t200, t201, t202, t203, t204, t205, t206, t207, t208, t209, u210, u211, u212, u213, u214, u215, u216, u217, u218, u219, u220, u221, u222, u223, u224, u225, u226, u227, u228, u229, u230, u231, u232, u233, u234, u235, u236, u237, u238, u239, u240, u241, u242, u243, u244, u245, u246, u247, u248, u249, u250, u251, u252, u253, u254, u255], []⟩ w9) :
    Code.wp Tryd.prog C Q ⟨#[u0, u1, .int .i64 n, u3, u4, u5, u6, u7, u8, u9, u10, .pointer (some ⟨gp, 0, none⟩), u12, u13, u14, u15, u16, u17, u18, u19, .int .i64 ki, .bool oi, .int .i64 ki, .bool oi, u24, u25, u26, u27, u28, u29, u30, u31, u32, u33, u34, u35, u36, u37, u38, u39, u40, u41, u42, u43, u44, u45, u46, u47, u48, u49, u50, u51, u52, u53, u54, u55, u56, u57, u58, u59, u60, u61, u62, u63, u64, u65, u66, u67, u68, u69, u70, u71, u72, u73, u74, u75, u76, u77, u78, u79, u80, u81, u82, u83, u84, u85, u86, u87, u88, u89, u90, u91, u92, u93, u94, u95, u96, u97, u98, u99, u100, u101, u102, u103, u104, u105, u106, u107, u108, u109, u110, u111, u112, u113, u114, u115, u116, u117, u118, u119, u120, u121, u122, u123, u124, u125, u126, u127, u128, u129, u130, u131, u132, u133, u134, u135, u136, u137, u138, u139, u140, u141, u142, u143, u144, u145, u146, u147, u148, u149, u150, u151, u152, u153, u154, u155, u156, u157, u158, u159, u160, u161, u162, u163, u164, u165, u166, u167, u168, u169, u170, u171, u172, u173, u174, u175, u176, u177, u178, u179, u180, u181, u182, u183, u184, u185, u186, u187, u188, u189, u190, u191, u192, u193, u194, u195, u196, u197, u198, u199, u200, u201, u202, u203, u204, u205, u206, u207, u208, u209, u210, u211, u212, u213, u214, u215, u216, u217, u218, u219, u220, u221, u222, u223, u224, u225, u226, u227, u228, u229, u230, u231, u232, u233, u234, u235, u236, u237, u238, u239, u240, u241, u242, u243, u244, u245, u246, u247, u248, u249, u250, u251, u252, u253, u254, u255], []⟩ wx := by
  subst hC
  conv => arg 2; whnf
  obtain ⟨p0, p1, p2, p3⟩ := HR9.out.G.held
  have HR9d := Lib.hid HR9.out.draw
  have e1 : (ki != ki) = false := by simp
  have e2 : (oi != oi) = false := by simp
  have e3 : (ov != ov) = false := by simp
  have hz9 : (y1.length : Int) < 9 := by omega
  have hd9 : decide ((y1.length : Int) < 9) = true := decide_eq_true hz9
  have HQ := Lib.hid hQ
  clear hQ
  first
    | (go_region_held3 (fun w' => w'.cell? ⟨gp, 0, none⟩ = some (.bool n1) ∧ w'.cell? ⟨gp, 1, none⟩ = some (.slice A4 y1.length c4) ∧ w'.cell? ⟨gp, 2, none⟩ = some (.bool n2) ∧ w'.cell? ⟨gp, 3, none⟩ = some (.slice A5 y2.length c5))
        (first | with_reducible exact HR9.out.G.held | with_reducible exact HR9d.out.G.held | with_reducible exact H1.out.G.held | with_reducible exact H2.out.G.held | with_reducible exact H3.out.1.G.held | with_reducible exact H4.out.1.G.held | with_reducible exact H5.out.G.held | with_reducible exact H6.out.G.held | with_reducible exact H7.out.G.held)
        (first
          | (have h6 := H6; go_at_call 28; refine ((Ht.out _ _ H6.out.G.fst (hP.out.below H6.out.P.bel)).2).mono ?_; rintro _ Q7 ⟨rfl, hq7⟩
             have H7 := Lib.hid (H6.out.after hq7)
             clear hq7 h6)
          | (have h5 := H5; go_at_call 27; refine ((Ht.out _ _ H5.out.G.fst (hP.out.below H5.out.P.bel)).1).mono ?_; rintro _ Q6 ⟨rfl, hq6⟩
             have H6 := Lib.hid (H5.out.after hq6)
             clear hq6 h5)
          | (have h4 := H4; go_at_call 17; refine (rsame_any _ _ _ n H4.out.2.1 H4.out.2.2 HPw.out.2.2).mono ?_; rintro _ Q5 ⟨rfl, hq5⟩
             have H5 := Lib.hid (H4.out.1.after hq5)
             clear hq5 h4)
          | (have h3 := H3; go_at_call 12; refine (rfromInt_any _ n HPw.out.1 HPw.out.2.1).mono ?_; rintro _ Q4 ⟨v4, rfl, hI4, hq4⟩
             have H4 := Lib.hid (And.intro (H3.out.1.after hq4) (And.intro (H3.out.2.below hq4) hI4))
             clear hq4 hI4 h3)
          | (have h2 := H2; go_at_call 26; refine (fromInt_any _ n HPw.out.1 HPw.out.2.1).mono ?_; rintro _ Q3 ⟨v3, rfl, hI3, hq3⟩
             have H3 := Lib.hid (And.intro (H2.out.after hq3) hI3)
             clear hq3 hI3 h2)
          | (have h1 := H1; go_at_call 25; refine ((Hv.out _ _ H1.out.G.fst).2).mono ?_; rintro _ Q2 ⟨rfl, hq2⟩
             have H2 := Lib.hid (H1.out.after hq2)
             clear hq2 h1)
          | (go_at_call 24; refine ((Hv.out _ _ HR9d.out.G.fst).1).mono ?_; rintro _ Q1 ⟨rfl, hq1⟩
             have H1 := Lib.hid (HR9d.out.after hq1)
             clear hq1)))
    | fail
  all_goals exact HQ.out _ _ _ _ _ _ _ _ _ _ _ _ _ _ _ _ _ _ _ _ _ _ _ _ _ _ _ _ _ _ _ _ _ _ _ _ _ _ _ _ _ _ rfl H7

end Go.Proofs.YtfnfnagdecpobaaDoor.rl
