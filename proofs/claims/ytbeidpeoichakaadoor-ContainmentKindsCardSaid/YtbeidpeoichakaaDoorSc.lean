/- The reference: Text of fractions. -/
import Derived.Test.YtbeidpeoichakaaDoorSb
import Derived.Test.YtbeidpeoichakaaDoorRe
import Derived.Test.YtbeidpeoichakaaDoorNb
import Derived.Deep.RegionHeld3
set_option linter.unusedSimpArgs false
set_option linter.unusedVariables false
namespace Go.Proofs.YtbeidpeoichakaaDoor.sc
open Go.RowKit Go.Proofs.YtbeidpeoichakaaDoor.fm Go.Proofs.YtbeidpeoichakaaDoor.mem Go.Proofs.YtbeidpeoichakaaDoor.fa Go.Proofs.YtbeidpeoichakaaDoor.fb Go.Proofs.YtbeidpeoichakaaDoor.fu Go.Proofs.YtbeidpeoichakaaDoor.fv Go.Proofs.YtbeidpeoichakaaDoor.fw Go.Proofs.YtbeidpeoichakaaDoor.fy Go.Proofs.YtbeidpeoichakaaDoor.ga Go.Proofs.YtbeidpeoichakaaDoor.gb Go.Proofs.YtbeidpeoichakaaDoor.gg Go.Proofs.YtbeidpeoichakaaDoor.ja Go.Proofs.YtbeidpeoichakaaDoor.jb Go.Proofs.YtbeidpeoichakaaDoor.jg Go.Proofs.YtbeidpeoichakaaDoor.jh Go.Proofs.YtbeidpeoichakaaDoor.pa Go.Proofs.YtbeidpeoichakaaDoor.pb Go.Proofs.YtbeidpeoichakaaDoor.pc Go.Proofs.YtbeidpeoichakaaDoor.nb Go.Proofs.YtbeidpeoichakaaDoor.hc Go.Proofs.YtbeidpeoichakaaDoor.hd Go.Proofs.YtbeidpeoichakaaDoor.re Go.Proofs.YtbeidpeoichakaaDoor.sa

theorem lowB_good {n : Nat} {z : Int} {d : Nat} (G : nb.Good n z d) : lowB z d = true := by
  unfold lowB
  rw [G.low]
  rfl

set_option maxRecDepth 100000 in
set_option maxHeartbeats 4000000 in
theorem rtext_any (w : World) (a : Value) (z : Int) (d n : Nat) (ha : IsFrac w a z d) (G : nb.Good n z d) (hn : n ≤ 256) :
    Calls Tryd.prog 10 #[a] w fun e w' => e = .returned (.string (ba (textOf z d))) ∧ Below w.heap.size w w' := by
  have hl : (digs z.natAbs).length ≤ 256 := Nat.le_trans G.hz hn
  have hl' : (digs d).length ≤ 256 := Nat.le_trans G.hd hn
  have HG := Lib.hid (And.intro (lowB_good G) G.d0)
  clear G hn
  obtain ⟨A, c, A', c', rfl, R, R'⟩ := ha
  go_enter Tryd.func10, Tryd.ntmps10
  have hF := sa.fat_new R R' 27
  have hB : Below w.heap.size w (w.alloc (.cells #[.bool (decide (z < 0)), .slice A (digs z.natAbs).length c, .bool false, .slice A' (digs d).length c'] 27)) := (Below.refl _ _).alloc (Nat.le_refl _) _
  obtain ⟨W, hW⟩ : ∃ W, W = w.alloc (.cells #[.bool (decide (z < 0)), .slice A (digs z.natAbs).length c, .bool false, .slice A' (digs d).length c'] 27) := ⟨_, rfl⟩
  rw [← hW] at hF hB
  have H := Lib.hid (And.intro hB hF)
  have c0 := hF.c0
  have c1 := hF.c1
  have c2 := hF.c2
  have c3 := hF.c3
  clear hF hB R R'
  go_upto_region 1 with fail
  rw [← hW]
  clear hW
  go_wp2_with fail
  refine (rvalid_any W _ z d H.out.2.frac hl hl' HG.out.2).mono ?_
  rintro _ W1 ⟨rfl, hb1⟩
  rw [HG.out.1]
  have H1 := Lib.hid (And.intro (H.out.1.trans (hb1.mono H.out.1.size)) (H.out.2.after hb1))
  clear hb1 c0 c1 c2 c3 H
  have c3 := H1.out.2.c3
  go_wp2_with fail
  have ho := one_new W1 68
  have hb3 : Below W1.heap.size W1 (W1.alloc (.cells #[.int .u32 1] 68)) := (Below.refl _ _).alloc (Nat.le_refl _) _
  obtain ⟨W2, hW2⟩ : ∃ W2, W2 = W1.alloc (.cells #[.int .u32 1] 68) := ⟨_, rfl⟩
  rw [← hW2] at ho hb3 ⊢
  refine (rcmp_any W2 _ A' _ c' 1 d 1 (H1.out.2.after hb3).R' ho (by omega) (by decide)).mono ?_
  rintro _ _ ⟨rfl, k, rfl⟩
  have hc1 := cmp_one d
  have hb4 : Below W2.heap.size W2 (W2.drewN k) := below_drewN (Below.refl _ _) k
  obtain ⟨W3, hW3⟩ : ∃ W3, W3 = W2.drewN k := ⟨_, rfl⟩
  rw [← hW3] at hb4 ⊢
  have hb5 := hb3.trans (hb4.mono hb3.size)
  have H3 := Lib.hid (And.intro (H1.out.1.trans (hb5.mono H1.out.1.size)) (H1.out.2.after hb5))
  clear hb3 hb4 hb5 hW3 hW2 ho c3 H1
  obtain ⟨q, hq⟩ : ∃ q, q = fb.cmp d 1 := ⟨_, rfl⟩
  rw [← hq] at hc1 ⊢
  clear hq
  have c0 := H3.out.2.c0
  have c1 := H3.out.2.c1
  have c2 := H3.out.2.c2
  have c3 := H3.out.2.c3
  by_cases hd1 : d = 1
  · rw [hd1] at hc1
    have hc2 : (q == 0) = true := hc1
    have HD := Lib.hid hd1
    clear hc1 hd1
    go_wp2_with fail
    refine (rtextBig_any W3 _ z H3.out.2.num hl).mono ?_
    rintro _ W4 ⟨rfl, hb4⟩
    have HB := Lib.hid (H3.out.1.trans (hb4.mono H3.out.1.size))
    clear hb4 H3 c0 c1 c2 c3
    go_wp2_with fail
    go_ret
    refine ⟨?_, HB.out⟩
    unfold textOf
    rw [if_pos HD.out]
    rfl
  · have hc2 : (q == 0) = false := by rw [hc1]; exact beq_eq_false_iff_ne.2 hd1
    have HD := Lib.hid hd1
    have H3d := Lib.hid (And.intro H3.out.1.drew (H3.out.2.after (Below.refl _ _).drew))
    clear hc1 hd1
    go_upto_region 5 with fail
    go_region_held3 (fun w' => w'.cell? ⟨w.heap.size, 0, none⟩ = some (.bool (decide (z < 0))) ∧ w'.cell? ⟨w.heap.size, 1, none⟩ = some (.slice A (digs z.natAbs).length c) ∧ w'.cell? ⟨w.heap.size, 2, none⟩ = some (.bool false) ∧ w'.cell? ⟨w.heap.size, 3, none⟩ = some (.slice A' (digs d).length c'))
      (first | with_reducible exact H3d.out.2.held | with_reducible exact H4.out.2.held | with_reducible exact H5.out.2.held)
      (first
        | (have H := H4; go_at_call 35; refine (rtextBig_any W4 _ d H4.out.2.den (by rw [Int.natAbs_natCast]; exact hl')).mono ?_; rintro _ W5 ⟨rfl, hb5⟩
           obtain ⟨s3, hs3⟩ : ∃ s, s = ba (Lib.itoa d) := ⟨_, rfl⟩
           have hz3 : s3.size ≤ 2561 := by rw [hs3, ba_size]; exact itoa_len (by rw [Int.natAbs_natCast]; exact hl')
           have hz3n : ¬ 9223372036854775807 < s2.size + 1 + s3.size := by omega
           rw [← hs3]
           have HS3 := Lib.hid hs3
           have H5 := Lib.hid (And.intro (H4.out.1.trans (hb5.mono H4.out.1.size)) (H4.out.2.after hb5))
           clear hb5 hs3 H)
        | (go_at_call 35; refine (rtextBig_any W3.drew _ z H3d.out.2.num hl).mono ?_; rintro _ W4 ⟨rfl, hb4⟩
           obtain ⟨s2, hs2⟩ : ∃ s, s = ba (Lib.itoa z) := ⟨_, rfl⟩
           have hz2 : s2.size ≤ 2561 := by rw [hs2, ba_size]; exact itoa_len hl
           have hz2n : ¬ 9223372036854775807 < s2.size + 1 := by omega
           rw [← hs2]
           have HS2 := Lib.hid hs2
           have H4 := Lib.hid (And.intro (H3d.out.1.trans (hb4.mono H3d.out.1.size)) (H3d.out.2.after hb4))
           clear hb4 hs2))
    rename_i hHeld
    have HB := Lib.hid H5.out.1
    clear hHeld c0 c1 c2 c3 H3 H3d H4 H5
    go_wp2_with fail
    go_ret
    refine ⟨?_, HB.out⟩
    unfold textOf
    rw [if_neg HD.out]
    show Ending.returned (Value.string ((s2 ++ ⟨#[47]⟩) ++ s3)) = _
    rw [HS2.out, HS3.out, itoa_nat, show (⟨#[47]⟩ : ByteArray) = ba [47] from rfl, ba_append, ba_append]
    simp
end Go.Proofs.YtbeidpeoichakaaDoor.sc
