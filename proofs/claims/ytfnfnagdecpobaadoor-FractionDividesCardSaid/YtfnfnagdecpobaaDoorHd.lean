/- fraction: Text. -/
import Derived.Test.YtfnfnagdecpobaaDoorHc
import Derived.Test.YtfnfnagdecpobaaDoorGd
import Derived.Test.YtfnfnagdecpobaaDoorGc
set_option linter.unusedSimpArgs false
namespace Go.Proofs.YtfnfnagdecpobaaDoor.hd
open Go.RowKit Go.Proofs.YtfnfnagdecpobaaDoor.fm Go.Proofs.YtfnfnagdecpobaaDoor.mem Go.Proofs.YtfnfnagdecpobaaDoor.fa Go.Proofs.YtfnfnagdecpobaaDoor.fb Go.Proofs.YtfnfnagdecpobaaDoor.fj Go.Proofs.YtfnfnagdecpobaaDoor.fu Go.Proofs.YtfnfnagdecpobaaDoor.fv Go.Proofs.YtfnfnagdecpobaaDoor.fw Go.Proofs.YtfnfnagdecpobaaDoor.fx Go.Proofs.YtfnfnagdecpobaaDoor.gb Go.Proofs.YtfnfnagdecpobaaDoor.gc Go.Proofs.YtfnfnagdecpobaaDoor.gd Go.Proofs.YtfnfnagdecpobaaDoor.ha Go.Proofs.YtfnfnagdecpobaaDoor.hb Go.Proofs.YtfnfnagdecpobaaDoor.hc

/-- The text of a fraction. -/
def textOf (z : Int) (d : Nat) : List UInt8 := if d = 1 then Lib.itoa z else Lib.itoa z ++ 47 :: Lib.decDigits d

theorem itoa_len {z : Int} (h : (digs z.natAbs).length ≤ 256) : (Lib.itoa z).length ≤ 2561 := by
  have hl : (Lib.decDigits z.natAbs).length ≤ 2560 := dec_long (k := 256) (by decide) ((lt_len_iff _ _).1 h)
  unfold Lib.itoa
  split
  · simp; omega
  · rw [show z.toNat = z.natAbs by omega]; omega

theorem itoa_nat (d : Nat) : Lib.itoa (d : Int) = Lib.decDigits d := Lib.itoa_nonneg d

theorem isBig_den {w : World} {A : Option Addr} {c d : Nat} (R : Rd w w.heap.size A c (digs d)) : IsBig w (.agg #[.bool false, .slice A (digs d).length c]) (d : Int) :=
  ⟨A, c, by rw [decide_eq_false (by omega)]; rfl, R⟩

set_option maxRecDepth 100000 in
set_option maxHeartbeats 4000000 in
theorem text_any (w : World) (a : Value) (z : Int) (d : Nat) (ha : IsFrac w a z d) (F : Fine z d) (hT : Tabs w) (hP : Pow w) :
    Calls Tryd.prog 39 #[a] w fun e w' => e = .returned (.string (ba (textOf z d))) ∧ Below w.heap.size w w' := by
  obtain ⟨A, c, B, k, rfl, R, S⟩ := ha
  go_enter Tryd.func39, Tryd.ntmps39
  have hb2 : Below w.heap.size w (w.alloc (.cells #[.bool (decide (z < 0)), .slice A (digs z.natAbs).length c, .bool false, .slice B (digs d).length k] 50)) := (Below.refl _ _).alloc (Nat.le_refl _) _
  obtain ⟨W, hW⟩ : ∃ W, W = (w.alloc (.cells #[.bool (decide (z < 0)), .slice A (digs z.natAbs).length c, .bool false, .slice B (digs d).length k] 50)) := ⟨_, rfl⟩
  have hsz : W.heap.size = w.heap.size + 1 := by rw [hW]; simp
  have k0 : W.cell? ⟨w.heap.size, 0, none⟩ = some (.bool (decide (z < 0))) := by rw [hW]; simp [go_sem]
  have k1 : W.cell? ⟨w.heap.size, 1, none⟩ = some (.slice A (digs z.natAbs).length c) := by rw [hW]; simp [go_sem]
  have k2 : W.cell? ⟨w.heap.size, 2, none⟩ = some (.bool false) := by rw [hW]; simp [go_sem]
  have k3 : W.cell? ⟨w.heap.size, 3, none⟩ = some (.slice B (digs d).length k) := by rw [hW]; simp [go_sem]
  rw [← hW] at hb2
  have HB := Lib.hid (And.intro hb2 (And.intro hsz (And.intro k0 (And.intro k1 (And.intro k2 k3)))))
  clear hb2 hsz k0 k1 k2 k3
  go_wp2_with fail
  rw [← hW]
  clear hW
  have hbA := HB.out.1.alloc HB.out.1.size (.cells #[.bool (decide (z < 0)), .slice A (digs z.natAbs).length c, .bool false, .slice B (digs d).length k] 50)
  refine (validAll_any (W.alloc _) (w.heap.size + 1) 1 [(z, d)] (by have := HB.out.2.1; simp; omega) (by simp) (fun j hj => ?_) (hT.below hbA)).mono ?_
  · obtain rfl : j = 0 := by simp at hj; omega
    have hg : (W.alloc (.cells #[.bool (decide (z < 0)), .slice A (digs z.natAbs).length c, .bool false, .slice B (digs d).length k] 50)).heap[w.heap.size + 1]? = some (.cells #[.bool (decide (z < 0)), .slice A (digs z.natAbs).length c, .bool false, .slice B (digs d).length k] 50 (0, 0)) := by
      rw [← HB.out.2.1]; exact heap_alloc_new W _
    exact ⟨⟨A, c, B, k, by rw [cell_of_row _ _ (0 * 4) _ _ _ hg]; rfl, by rw [cell_of_row _ _ (0 * 4 + 1) _ _ _ hg]; rfl, by rw [cell_of_row _ _ (0 * 4 + 2) _ _ _ hg]; rfl, by rw [cell_of_row _ _ (0 * 4 + 3) _ _ _ hg]; rfl, (R.below hbA).more hbA.size, (S.below hbA).more hbA.size⟩, F⟩
  rintro _ W1 ⟨rfl, hb1⟩
  have hc : Below W.heap.size W W1 := ((Below.refl _ _).alloc (Nat.le_refl _) _).trans (hb1.mono (by simp))
  have hb3 := HB.out.1.trans (hc.mono HB.out.1.size)
  have hlt : w.heap.size < W.heap.size := by have := HB.out.2.1; omega
  have a0 := (hc.cell (p := ⟨w.heap.size, 0, none⟩) hlt).trans HB.out.2.2.1
  have a1 := (hc.cell (p := ⟨w.heap.size, 1, none⟩) hlt).trans HB.out.2.2.2.1
  have a2 := (hc.cell (p := ⟨w.heap.size, 2, none⟩) hlt).trans HB.out.2.2.2.2.1
  have a3 := (hc.cell (p := ⟨w.heap.size, 3, none⟩) hlt).trans HB.out.2.2.2.2.2
  have hlt1 : w.heap.size < W1.heap.size := Nat.lt_of_lt_of_le hlt hc.size
  have H3 := Lib.hid (And.intro hb3 (And.intro hlt1 (And.intro a0 (And.intro a1 (And.intro a2 a3)))))
  have HF := Lib.hid F
  clear hb1 hc hb3 HB hbA hlt hlt1 F
  go_wp2_with fail
  refine (isOne_any W1 _ B k (digs d) ((S.below H3.out.1).more H3.out.1.size) (by have := HF.out.hd; omega)).mono ?_
  rintro _ _ ⟨rfl, rfl⟩
  by_cases hd1 : d = 1
  · have hde : digs d = [1] := by rw [hd1]; rfl
    rw [decide_eq_true hde]
    have HD := Lib.hid hd1
    clear hde hd1
    go_wp2_with fail
    refine (textBig_any W1 _ z ⟨A, c, rfl, (R.below H3.out.1).more H3.out.1.size⟩ HF.out.hz (hP.below H3.out.1)).mono ?_
    rintro _ W2 ⟨rfl, hb2⟩
    go_wp2_with fail
    go_ret
    refine ⟨?_, H3.out.1.trans (hb2.mono (Nat.le_of_lt H3.out.2.1))⟩
    unfold textOf
    rw [if_pos HD.out]
    rfl
  · have hde : ¬ digs d = [1] := fun e => hd1 (by rw [← val_digs d, e]; rfl)
    rw [decide_eq_false hde]
    have HD := Lib.hid hd1
    clear hde hd1
    have H3d := Lib.hid (show W1.drew.cell? ⟨w.heap.size, 0, none⟩ = some (.bool (decide (z < 0))) ∧ W1.drew.cell? ⟨w.heap.size, 1, none⟩ = some (.slice A (digs z.natAbs).length c) ∧ W1.drew.cell? ⟨w.heap.size, 2, none⟩ = some (.bool false) ∧ W1.drew.cell? ⟨w.heap.size, 3, none⟩ = some (.slice B (digs d).length k) from H3.out.2.2)
    have HX := Lib.hid (And.intro ((R.below H3.out.1).more H3.out.1.size) (And.intro ((S.below H3.out.1).more H3.out.1.size) (hP.below H3.out.1)))
    go_wp2_with fail
    go_region_held3 (fun w' => w'.cell? ⟨w.heap.size, 0, none⟩ = some (.bool (decide (z < 0))) ∧ w'.cell? ⟨w.heap.size, 1, none⟩ = some (.slice A (digs z.natAbs).length c) ∧ w'.cell? ⟨w.heap.size, 2, none⟩ = some (.bool false) ∧ w'.cell? ⟨w.heap.size, 3, none⟩ = some (.slice B (digs d).length k))
      (first | with_reducible exact H3.out.2.2 | with_reducible exact H3d.out | with_reducible exact H4.out.2 | with_reducible exact H5.out.2)
      (first
        | (have h4 := H4; go_at_call 27; refine (textBig_any W2 _ d (isBig_den H4.out.1.2.2.2.1) (by rw [Int.natAbs_natCast]; exact HF.out.hd) H4.out.1.2.2.2.2).mono ?_; rintro _ W3 ⟨rfl, hb3⟩
           obtain ⟨s3, hs3⟩ : ∃ s, s = ba (Lib.itoa d) := ⟨_, rfl⟩
           have hz3 : s3.size ≤ 2561 := by rw [hs3, ba_size]; exact itoa_len (by rw [Int.natAbs_natCast]; exact HF.out.hd)
           have hz3n : ¬ 9223372036854775807 < s2.size + 1 + s3.size := by omega
           rw [← hs3]
           have HS3 := Lib.hid hs3
           have hlt := H4.out.1.2.1
           have H5 := Lib.hid (And.intro (H4.out.1.1.trans (hb3.mono (Nat.le_of_lt hlt))) (And.intro ((hb3.cell (p := ⟨w.heap.size, 0, none⟩) hlt).trans H4.out.2.1) (And.intro ((hb3.cell (p := ⟨w.heap.size, 1, none⟩) hlt).trans H4.out.2.2.1) (And.intro ((hb3.cell (p := ⟨w.heap.size, 2, none⟩) hlt).trans H4.out.2.2.2.1) ((hb3.cell (p := ⟨w.heap.size, 3, none⟩) hlt).trans H4.out.2.2.2.2)))))
           clear hb3 hs3 h4 hlt)
        | (go_at_call 27; refine (textBig_any W1.drew _ z ⟨A, c, rfl, Rd.drewN HX.out.1 1⟩ HF.out.hz HX.out.2.2).mono ?_; rintro _ W2 ⟨rfl, hb2⟩
           obtain ⟨s2, hs2⟩ : ∃ s, s = ba (Lib.itoa z) := ⟨_, rfl⟩
           have hz2 : s2.size ≤ 2561 := by rw [hs2, ba_size]; exact itoa_len HF.out.hz
           have hz2n : ¬ 9223372036854775807 < s2.size + 1 := by omega
           rw [← hs2]
           have HS2 := Lib.hid hs2
           have hlt : w.heap.size < W1.drew.heap.size := H3.out.2.1
           have hbz : Below w.heap.size w W1.drew := below_drewN H3.out.1 1
           have H4 := Lib.hid (And.intro (And.intro (hbz.trans (hb2.mono (Nat.le_of_lt hlt))) (And.intro (Nat.lt_of_lt_of_le hlt hb2.size) (And.intro ((Rd.drewN HX.out.1 1).below hb2) (And.intro (((Rd.drewN HX.out.2.1 1).below hb2).more hb2.size) (Pow.below (show Pow W1.drew from HX.out.2.2) hb2))))) (And.intro ((hb2.cell (p := ⟨w.heap.size, 0, none⟩) hlt).trans H3d.out.1) (And.intro ((hb2.cell (p := ⟨w.heap.size, 1, none⟩) hlt).trans H3d.out.2.1) (And.intro ((hb2.cell (p := ⟨w.heap.size, 2, none⟩) hlt).trans H3d.out.2.2.1) ((hb2.cell (p := ⟨w.heap.size, 3, none⟩) hlt).trans H3d.out.2.2.2)))))
           clear hb2 hs2 hlt hbz))
    all_goals
      go_wp2_with fail
      go_ret
      refine ⟨?_, H5.out.1⟩
      rw [HS2.out, HS3.out, itoa_nat, show (⟨#[47]⟩ : ByteArray) = ba [47] from rfl, ba_append, ba_append]
      unfold textOf
      rw [if_neg HD.out, List.append_assoc]
      rfl

end Go.Proofs.YtfnfnagdecpobaaDoor.hd
