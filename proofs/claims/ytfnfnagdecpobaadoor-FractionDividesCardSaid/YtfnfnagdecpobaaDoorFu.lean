/- fraction: big integers as values; big, validBigs. -/
import Derived.Test.YtfnfnagdecpobaaDoorFt
import Derived.Handy
namespace Go.Proofs.YtfnfnagdecpobaaDoor.fu
open Go.RowKit Go.Proofs.YtfnfnagdecpobaaDoor.fm Go.Proofs.YtfnfnagdecpobaaDoor.mem Go.Proofs.YtfnfnagdecpobaaDoor.fa Go.Proofs.YtfnfnagdecpobaaDoor.fb Go.Proofs.YtfnfnagdecpobaaDoor.fc Go.Proofs.YtfnfnagdecpobaaDoor.fd Go.Proofs.YtfnfnagdecpobaaDoor.fh Go.Proofs.YtfnfnagdecpobaaDoor.fi Go.Proofs.YtfnfnagdecpobaaDoor.fj Go.Proofs.YtfnfnagdecpobaaDoor.fq Go.Proofs.YtfnfnagdecpobaaDoor.fr Go.Proofs.YtfnfnagdecpobaaDoor.fs

/-- A value that is the integer z, valid in form. -/
def IsBig (w : World) (v : Value) (z : Int) : Prop :=
  ∃ A c, v = .agg #[.bool (decide (z < 0)), .slice A (digs z.natAbs).length c] ∧ Rd w w.heap.size A c (digs z.natAbs)

theorem IsBig.below {w w' : World} {v : Value} {z : Int} (h : IsBig w v z) (hb : Below w.heap.size w w') : IsBig w' v z := by
  obtain ⟨A, c, e, R⟩ := h
  exact ⟨A, c, e, (R.below hb).more hb.size⟩

/-- The integer of a sign and a size. -/
def sgnd (neg : Bool) (m : Nat) : Int := if neg then -(m : Int) else m
theorem sgnd_abs (neg : Bool) (m : Nat) : (sgnd neg m).natAbs = m := by unfold sgnd; cases neg <;> simp
theorem sgnd_neg (neg : Bool) (m : Nat) (h : m ≠ 0) : decide (sgnd neg m < 0) = neg := by
  unfold sgnd
  cases neg
  · simp
  · simp; omega
theorem sgnd_zero (neg : Bool) : sgnd neg 0 = 0 := by unfold sgnd; cases neg <;> rfl

set_option maxRecDepth 100000 in
set_option maxHeartbeats 1000000 in
theorem big_any (w : World) (neg : Bool) (A : Option Addr) (c m : Nat) (R : Rd w w.heap.size A c (digs m)) :
    Calls Tryd.prog 60 #[.bool neg, .slice A (digs m).length c] w fun e w' => ∃ v, e = .returned v ∧ IsBig w' v (sgnd neg m) ∧ Below w.heap.size w w' := by
  go_enter Tryd.func60, Tryd.ntmps60
  by_cases h0 : m = 0
  · subst h0
    have hz : (digs 0).length = 0 := by rw [digs_zero]; rfl
    rw [hz]
    clear hz
    go_wp2_with fail
    go_returns
    refine ⟨_, rfl, ⟨none, 0, ?_, ?_⟩, (Below.refl _ _).alloc (Nat.le_refl _) _⟩
    · rw [sgnd_zero, show (0 : Int).natAbs = 0 from rfl, digs_zero]; rfl
    · rw [sgnd_zero, show (0 : Int).natAbs = 0 from rfl, digs_zero]; exact Rd.nil _ _ _ _
  · have hz : ¬ (digs m).length = 0 := fun e => h0 (digs_len_zero.1 e)
    go_wp2_with fail
    go_returns
    have hb : Below w.heap.size w (w.alloc (.cells #[.bool neg, .slice A (digs m).length c] 28)) := (Below.refl _ _).alloc (Nat.le_refl _) _
    refine ⟨_, rfl, ⟨A, c, ?_, ?_⟩, hb⟩
    · rw [sgnd_abs, sgnd_neg neg m h0]
    · rw [sgnd_abs]; exact (R.below hb).more hb.size

/-- Whether a sign and words are a valid big integer. -/
def good (neg : Bool) (l : List Nat) : Bool := decide (l.length ≤ 256) && !(decide (l.length = 0) && neg) && !(decide (0 < l.length) && decide (l.getD (l.length - 1) 0 = 0))

theorem good_long {neg : Bool} {l : List Nat} (h : 256 < l.length) : good neg l = false := by unfold good; rw [decide_eq_false (by omega)]; rfl

theorem good_last {neg : Bool} {l : List Nat} {t : Nat} (h : l.length = t + 1) (h1 : t < 256) (h3 : ¬ l.getD t 0 = 0) : good neg l = true := by
  unfold good
  rw [h, Nat.add_sub_cancel, decide_eq_true (show t + 1 ≤ 256 by omega), decide_eq_false (show ¬ t + 1 = 0 by omega), decide_eq_false h3]
  simp

theorem all_bad {es : List (Bool × List Nat)} {k : Nat} {x : Bool × List Nat} (hk : k < es.length) (hx : es[k] = x) (hg : good x.1 x.2 = false) : (es.all fun x => good x.1 x.2) = false := by
  rw [List.all_eq_false]
  exact ⟨x, by rw [← hx]; exact List.getElem_mem hk, by rw [hg]; decide⟩

theorem all_good {es : List (Bool × List Nat)} {k : Nat} {x : Bool × List Nat} (hk : k < es.length) (hx : es[k] = x) (h : ((es.take k).all fun x => good x.1 x.2) = true) (hg : good x.1 x.2 = true) : ((es.take (k + 1)).all fun x => good x.1 x.2) = true := by
  rw [List.take_succ_eq_append_getElem hk, List.all_append, h, hx]
  simp [hg]

/-- What lies at an entry of a row of big integers. -/
structure Ent (w : World) (B g k : Nat) (x : Bool × List Nat) : Prop where
  it : ∃ A c, w.cell? ⟨g, k * 2, none⟩ = some (.bool x.1) ∧ w.cell? ⟨g, k * 2 + 1, none⟩ = some (.slice A x.2.length c) ∧ Rd w B A c x.2

set_option maxRecDepth 100000 in
set_option maxHeartbeats 1000000 in
theorem validBigs_any (w : World) (g cap : Nat) (es : List (Bool × List Nat)) (hg : g < w.heap.size) (hes : es.length ≤ 100) (h : ∀ k, (hk : k < es.length) → Ent w w.heap.size g k es[k]) :
    Calls Tryd.prog 48 #[.slice (some ⟨g, 0, none⟩) es.length cap] w fun e w' => e = .returned (.bool (es.all fun x => good x.1 x.2)) ∧ Below w.heap.size w w' := by
  have H := Lib.hid h
  clear h
  go_enter Tryd.func48, Tryd.ntmps48
  go_wp2
  go_loopw [8] (fun i wr => ∃ k : Nat, k ≤ es.length ∧ i = .int .i64 k ∧ Below w.heap.size w wr ∧ (es.take k).all (fun x => good x.1 x.2) = true) (fun i _ => es.length - (intOf i).toNat)
  case atStart => exact ⟨0, Nat.zero_le _, rfl, Below.refl _ _, by simp⟩
  case round =>
    obtain ⟨k, hk, rfl, hb, hall⟩ := hrel
    have HB := Lib.hid (And.intro hb hall)
    clear hb hall
    by_cases hkx : k < es.length
    · obtain ⟨A, c, c1, c2, R⟩ := (H.out k hkx).it
      have c1' := (HB.out.1.cell (p := ⟨g, k * 2, none⟩) hg).trans c1
      have c2' := (HB.out.1.cell (p := ⟨g, k * 2 + 1, none⟩) hg).trans c2
      generalize hx : es[k] = x at *
      obtain ⟨neg, l⟩ := x
      dsimp only at c1' c2' R
      clear c1 c2
      have lb := R.fit
      have HE := Lib.hid (HB.out.1.alloc HB.out.1.size (.cells #[.bool neg, .slice A l.length c] 28))
      by_cases h1 : 256 < l.length
      · go_wp2_with fail
        go_returns
        exact ⟨ret_eq (congrArg Value.bool (all_bad hkx hx (good_long h1)).symm), HE.out⟩
      · by_cases h2 : l.length = 0
        · cases neg
          · have hgd : good false l = true := by unfold good; rw [h2]; simp
            have HT := Lib.hid (all_good hkx hx HB.out.2 hgd)
            rw [h2] at c2' HE
            clear h1 hx hgd h2
            go_wp2_with fail
            exact ⟨⟨k + 1, by omega, by go_num, HE.out, HT.out⟩, by simp [intOf]; omega⟩
          · have hgd : good true l = false := by unfold good; rw [h2]; simp
            rw [h2] at c2' HE
            clear h1 h2
            go_wp2_with fail
            go_returns
            exact ⟨ret_eq (congrArg Value.bool (all_bad hkx hx hgd).symm), HE.out⟩
        · obtain ⟨b, off, rfl, hbb, hc⟩ := R.cells (by omega)
          have hokk := R.ok
          clear R
          obtain ⟨t, ht⟩ : ∃ t, l.length = t + 1 := ⟨l.length - 1, by omega⟩
          have c3 := (HE.out.cell (p := ⟨b, off + t, none⟩) hbb).trans (hc t (by omega))
          rw [ht] at c3
          have hxx := ok_getD hokk t
          by_cases h3 : l.getD t 0 = 0
          · have hgd : good neg l = false := by unfold good; rw [ht, Nat.add_sub_cancel, h3]; simp
            rw [ht] at c2' HE lb
            rw [h3] at c3
            have htt : t < 256 := by omega
            clear h1 h2 hc hokk h3 ht
            go_wp2_with fail
            go_returns
            exact ⟨ret_eq (congrArg Value.bool (all_bad hkx hx hgd).symm), HE.out⟩
          · have hgd : good neg l = true := good_last ht (by omega) h3
            have HT := Lib.hid (all_good hkx hx HB.out.2 hgd)
            rw [ht] at c2' HE lb
            have htt : t < 256 := by omega
            generalize l.getD t 0 = xx at *
            have z : ((xx : Int) == 0) = false := beq_eq_false_iff_ne.2 (by omega)
            clear h1 h2 hc hokk ht hx
            go_wp2_with fail
            exact ⟨⟨k + 1, by omega, by go_num, HE.out, HT.out⟩, by simp [intOf]; omega⟩
    · obtain rfl : k = es.length := by omega
      have ha := HB.out.2
      rw [List.take_length] at ha
      have HA := Lib.hid ha
      clear ha
      go_wp2_with fail
      go_returns
      exact ⟨ret_eq (congrArg Value.bool HA.out.symm), HB.out.1⟩

end Go.Proofs.YtfnfnagdecpobaaDoor.fu
