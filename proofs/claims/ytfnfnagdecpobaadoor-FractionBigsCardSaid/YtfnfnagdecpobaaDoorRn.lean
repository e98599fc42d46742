/- law 01: FractionBigs: region 5: the row of pairs. -/
import Derived.Test.YtfnfnagdecpobaaDoorRj
set_option linter.unusedSimpArgs false
set_option linter.unusedVariables false
namespace Go.Proofs.YtfnfnagdecpobaaDoor.rn
open Go.RowKit Go.Proofs.YtfnfnagdecpobaaDoor.fm Go.Proofs.YtfnfnagdecpobaaDoor.mem Go.Proofs.YtfnfnagdecpobaaDoor.fa Go.Proofs.YtfnfnagdecpobaaDoor.fb Go.Proofs.YtfnfnagdecpobaaDoor.fj Go.Proofs.YtfnfnagdecpobaaDoor.fu Go.Proofs.YtfnfnagdecpobaaDoor.fv Go.Proofs.YtfnfnagdecpobaaDoor.fw Go.Proofs.YtfnfnagdecpobaaDoor.fx Go.Proofs.YtfnfnagdecpobaaDoor.fy Go.Proofs.YtfnfnagdecpobaaDoor.fz Go.Proofs.YtfnfnagdecpobaaDoor.gc Go.Proofs.YtfnfnagdecpobaaDoor.gf Go.Proofs.YtfnfnagdecpobaaDoor.hb Go.Proofs.YtfnfnagdecpobaaDoor.hf Go.Proofs.YtfnfnagdecpobaaDoor.hg Go.Proofs.YtfnfnagdecpobaaDoor.hh Go.Proofs.YtfnfnagdecpobaaDoor.mill Go.Proofs.YtfnfnagdecpobaaDoor.jh Go.Proofs.YtfnfnagdecpobaaDoor.pc Go.Proofs.YtfnfnagdecpobaaDoor.rf Go.Proofs.YtfnfnagdecpobaaDoor.rg Go.Proofs.YtfnfnagdecpobaaDoor.rh Go.Proofs.YtfnfnagdecpobaaDoor.rj

set_option maxRecDepth 100000 in
set_option maxHeartbeats 20000000 in
theorem reg5 (C : Code) (hC : C = reg 5) {w wx : World} {g8 : Nat} {z1 z2 what n : Int} {A1 A2 : Option Addr} {c1 c2 : Nat} (HAB0 : Hid (AB w wx g8 z1 A1 c1 z2 A2 c2)) (HX : Hid ((digs z1.natAbs).length ≤ 4 ∧ (digs z2.natAbs).length ≤ 4)) (HI : Hid ((-9223372036854775808 ≤ what ∧ what < 9223372036854775808) ∧ -9223372036854775808 ≤ n ∧ n < 9223372036854775808)) (Q : Exit → Act → World → Prop) (u0 u3 u4 u5 u6 u7 u10 u11 u12 u13 u14 u15 u16 u17 u18 u19 u20 u21 u22 u23 u24 u25 u26 u27 u28 u29 u30 u31 u32 u33 u34 u35 u36 u37 u38 u39 u40 u41 u42 u43 u44 u45 u46 u47 u48 u49 u50 u51 u52 u53 u54 u55 u56 u57 u58 u59 u60 u61 u62 u63 u64 u65 u66 u67 u68 u69 u70 u71 u72 u73 u74 u75 u76 u77 u78 u79 u80 u81 u82 u83 u84 u85 u86 u87 u88 u89 u90 u91 u92 u93 u94 u95 u96 u97 u98 u99 u100 u101 u102 u103 u104 u105 u106 u107 u108 u109 u110 u111 u112 u113 u114 u115 u116 u117 u118 u119 u120 u121 u122 u123 u124 u125 u126 u127 u128 u129 u130 u131 u132 u133 u134 u135 u136 u137 u138 u139 u140 u141 u142 u143 u144 u145 u146 u147 u148 u149 u150 u151 u152 u153 u154 u155 u156 u157 u158 u159 u160 u161 u162 u163 u164 u165 u166 u167 u168 u169 u170 u171 u172 u173 u174 u175 u176 u177 u178 u179 u180 u181 u182 u183 u184 u185 u186 u187 u188 u189 u190 u191 u192 u193 u194 u195 u196 u197 u198 u199 u200 u201 u202 u203 u204 u205 u206 u207 u208 u209 u210 u211 u212 u213 u214 u215 u216 u217 u218 u219 u220 u221 u222 u223 u224 u225 u226 u227 u228 u229 u230 u231 u232 u233 u234 u235 u236 u237 u238 u239 u240 u241 u242 u243 u244 u245 u246 u247 u248 u249 u250 u251 u252 u253 u254 u255 : Value)
    (hQ : ∀ (t36 t37 t38 t39 t40 t41 t42 t43 t44 t45 t46 t47 t48 t49 t50 t51 t52 t53 t54 t55 t56 t57 t58 t59 t60 t61 t62 t63 : Value) (w9 : World), ∀ (gb : Nat) (es : Nat → (Bool × List Nat) × (Bool × List Nat)), t61 = .slice (some ⟨gb, 0, none⟩) 6 6 → t62 = .int .i64 6 → t63 = .int .i64 0 → Row6 w w9 gb es → Q .normal ⟨#[u0, .int .i64 what, .int .i64 n, u3, u4, u5, u6, u7, .pointer (some ⟨g8, 0, none⟩), .pointer (some ⟨g8 + 1, 0, none⟩), u10, u11, u12, u13, u14, u15, u16, u17, u18, u19, u20, u21, u22, u23, u24, u25, u26, u27, u28, u29, u30, u31, u32, u33, u34, u35, t36, t37, t38, t39, t40, t41, t42, t43, t44, t45, t46, t47, t48, t49, t50, t51, t52, t53, t54, t55, t56, t57, t58, t59, t60, t61, t62, t63, u64, u65, u66, u67, u68, u69, u70, u71, u72, u73, u74, u75, u76, u77, u78, u79, u80, u81, u82, u83, u84, u85, u86, u87, u88, u89, u90, u91, u92, u93, u94, u95, u96, u97, u98, u99, u100, u101, u102, u103, u104, u105, u106, u107, u108, u109, u110, u111, u112, u113, u114, u115, u116, u117, u118, u119, u120, u121, u122, u123, u124, u125, u126, u127, u128, u129, u130, u131, u132, u133, u134, u135, u136, u137, u138, u139, u140, u141, u142, u143, u144, u145, u146, u147, u148, u149, u150, u151, u152, u153, u154, u155, u156, u157, u158, u159, u160, u161, u162, u163, u164, u165, u166, u167, u168, u169, u170, u171, u172, u173, u174, u175, u176, u177, u178, u179, u180, u181, u182, u183, u184, u185, u186, u187, u188, u189, u190, u191, u192, u193, u194, u195, u196, u197, u198, u199, u200, u201, u202, u203, u204, u205, u206, u207, u208, u209, u210, u211, u212, u213, u214, u215, u216, u217, u218, u219, u220, u221, u222, u223, u224, u225, u226, u227, u228, u229, u230, u231, u232, u233, u234, u235, u236, u237, u238, u239, u240, u241, u242, u243, u244, u245, u246, u247, u248, u249, u250, u251, u252, u253, u254, u255], []⟩ w9) :
    Code.wp Tryd.prog C Q ⟨#[u0, .int .i64 what, .int .i64 n, u3, u4, u5, u6, u7, .pointer (some ⟨g8, 0, none⟩), .pointer (some ⟨g8 + 1, 0, none⟩), u10, u11, u12, u13, u14, u15, u16, u17, u18, u19, u20, u21, u22, u23, u24, u25, u26, u27, u28, u29, u30, u31, u32, u33, u34, u35, u36, u37, u38, u39, u40, u41, u42, u43, u44, u45, u46, u47, u48, u49, u50, u51, u52, u53, u54, u55, u56, u57, u58, u59, u60, u61, u62, u63, u64, u65, u66, u67, u68, u69, u70, u71, u72, u73, u74, u75, u76, u77, u78, u79, u80, u81, u82, u83, u84, u85, u86, u87, u88, u89, u90, u91, u92, u93, u94, u95, u96, u97, u98, u99, u100, u101, u102, u103, u104, u105, u106, u107, u108, u109, u110, u111, u112, u113, u114, u115, u116, u117, u118, u119, u120, u121, u122, u123, u124, u125, u126, u127, u128, u129, u130, u131, u132, u133, u134, u135, u136, u137, u138, u139, u140, u141, u142, u143, u144, u145, u146, u147, u148, u149, u150, u151, u152, u153, u154, u155, u156, u157, u158, u159, u160, u161, u162, u163, u164, u165, u166, u167, u168, u169, u170, u171, u172, u173, u174, u175, u176, u177, u178, u179, u180, u181, u182, u183, u184, u185, u186, u187, u188, u189, u190, u191, u192, u193, u194, u195, u196, u197, u198, u199, u200, u201, u202, u203, u204, u205, u206, u207, u208, u209, u210, u211, u212, u213, u214, u215, u216, u217, u218, u219, u220, u221, u222, u223, u224, u225, u226, u227, u228, u229, u230, u231, u232, u233, u234, u235, u236, u237, u238, u239, u240, u241, u242, u243, u244, u245, u246, u247, u248, u249, u250, u251, u252, u253, u254, u255], []⟩ wx := by
  subst hC
  conv => arg 2; whnf
  have HAB := Lib.hid HAB0.out.draw
  have hA0 : Anys wx.drew [(decide (z1 < 0), A1, c1, digs z1.natAbs), (decide (z2 < 0), A2, c2, digs z2.natAbs)] := ((anys_nil _).cons HAB.out.b.R (by have := HX.out.2; omega)).cons HAB.out.a.R (by have := HX.out.1; omega)
  have HA0 := Lib.hid hA0
  obtain ⟨p0, p1, p2, p3⟩ := HAB0.out.held
  clear hA0
  obtain ⟨m0, hm0⟩ : ∃ m0 : Int, m0 = -9223372036854775808 := ⟨_, rfl⟩
  have HM0 := Lib.hid hm0
  have HQ := Lib.hid hQ
  clear hm0 hQ
  first
    | (go_region_held3 (fun w' => w'.cell? ⟨g8, 0, none⟩ = some (.bool (decide (z1 < 0))) ∧ w'.cell? ⟨g8, 1, none⟩ = some (.slice A1 (digs z1.natAbs).length c1) ∧ w'.cell? ⟨g8 + 1, 0, none⟩ = some (.bool (decide (z2 < 0))) ∧ w'.cell? ⟨g8 + 1, 1, none⟩ = some (.slice A2 (digs z2.natAbs).length c2))
        (first | with_reducible exact HAB0.out.held | with_reducible exact HAB.out.held | with_reducible exact H1.out.1.held | with_reducible exact H2.out.1.held | with_reducible exact H3.out.1.held | with_reducible exact H4.out.1.held | with_reducible exact H5.out.1.held | with_reducible exact H6.out.1.held | with_reducible exact (H6.out.1.alloc _).held)
        (first
          | (have h5 := H5; go_at_call 12; refine (rfromInt_any _ n HI.out.2.1 HI.out.2.2).mono ?_; rintro _ X6 ⟨v6, rfl, ⟨B6, d6, rfl, RX6⟩, hbx6⟩
             have H6 := Lib.hid (And.intro (H5.out.1.after hbx6) ((H5.out.2.after hbx6).cons (n := decide (n < 0)) RX6 (Nat.le_trans (int_len HI.out.2.1 HI.out.2.2) (by decide))))
             clear hbx6 RX6 h5)
          | (have h4 := H4; go_at_call 12; refine (rfromInt_any _ (-9223372036854775808) (by decide) (by decide)).mono ?_; rintro _ X5 ⟨v5, rfl, hI5, hbx5⟩
             rw [← HM0.out] at hI5
             obtain ⟨B5, d5, rfl, RX5⟩ := hI5
             have H5 := Lib.hid (And.intro (H4.out.1.after hbx5) ((H4.out.2.after hbx5).cons (n := decide (m0 < 0)) RX5 (by rw [HM0.out]; exact Nat.le_trans (int_len (by decide) (by decide)) (by decide))))
             clear hbx5 RX5 h4)
          | (have h3 := H3; go_at_call 12; refine (rfromInt_any _ what HI.out.1.1 HI.out.1.2).mono ?_; rintro _ X4 ⟨v4, rfl, ⟨B4, d4, rfl, RX4⟩, hbx4⟩
             have H4 := Lib.hid (And.intro (H3.out.1.after hbx4) ((H3.out.2.after hbx4).cons (n := decide (what < 0)) RX4 (Nat.le_trans (int_len HI.out.1.1 HI.out.1.2) (by decide))))
             clear hbx4 RX4 h3)
          | (have h2 := H2; go_at_call 12; refine (rfromInt_any _ n HI.out.2.1 HI.out.2.2).mono ?_; rintro _ X3 ⟨v3, rfl, ⟨B3, d3, rfl, RX3⟩, hbx3⟩
             have H3 := Lib.hid (And.intro (H2.out.1.after hbx3) ((H2.out.2.after hbx3).cons (n := decide (n < 0)) RX3 (Nat.le_trans (int_len HI.out.2.1 HI.out.2.2) (by decide))))
             clear hbx3 RX3 h2)
          | (have h1 := H1; go_at_call 11; refine (odd_any _ _ z2 what H1.out.1.b.big (Nat.le_trans HX.out.2 (by decide)) HI.out.1.1 HI.out.1.2).mono ?_; rintro _ X2 hO
             obtain ⟨n2, B2, d2, x2, rfl, RX2, lx2, hbx2⟩ := oddly_open hO
             have H2 := Lib.hid (And.intro (H1.out.1.after hbx2) ((H1.out.2.after hbx2).cons (n := n2) RX2 lx2))
             clear hO hbx2 RX2 lx2 h1)
          | (go_at_call 11; refine (odd_any _ _ z1 what HAB.out.a.big (Nat.le_trans HX.out.1 (by decide)) HI.out.1.1 HI.out.1.2).mono ?_; rintro _ X1 hO
             obtain ⟨n1, B1, d1, x1, rfl, RX1, lx1, hbx1⟩ := oddly_open hO
             have H1 := Lib.hid (And.intro (HAB.out.after hbx1) ((HA0.out.after hbx1).cons (n := n1) RX1 lx1))
             clear hO hbx1 RX1 lx1)))
    | fail
  all_goals exact HQ.out _ _ _ _ _ _ _ _ _ _ _ _ _ _ _ _ _ _ _ _ _ _ _ _ _ _ _ _ _ X6.heap.size _ rfl rfl rfl (row6_new H6.out.1.bel H6.out.2 [((decide (z1 < 0), A1, c1, digs z1.natAbs), (decide (z2 < 0), A2, c2, digs z2.natAbs)), ((n1, B1, d1, x1), (decide (z2 < 0), A2, c2, digs z2.natAbs)), ((decide (z1 < 0), A1, c1, digs z1.natAbs), (n2, B2, d2, x2)), ((decide (n < 0), B3, d3, digs n.natAbs), (decide (z1 < 0), A1, c1, digs z1.natAbs)),
      ((decide (z1 < 0), A1, c1, digs z1.natAbs), (decide (what < 0), B4, d4, digs what.natAbs)), ((decide (m0 < 0), B5, d5, digs m0.natAbs), (decide (n < 0), B6, d6, digs n.natAbs))] rfl (fun p hp => by simp only [List.mem_cons, List.mem_nil_iff, or_false] at hp; rcases hp with rfl | rfl | rfl | rfl | rfl | rfl <;> exact ⟨by simp, by simp⟩) _ _ rfl)

end Go.Proofs.YtfnfnagdecpobaaDoor.rn
