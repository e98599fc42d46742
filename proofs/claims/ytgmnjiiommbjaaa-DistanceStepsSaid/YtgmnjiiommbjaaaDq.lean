/- The code points of good texts tell them apart. -/
import Derived.Test.YtgmnjiiommbjaaaDp
import Derived.Lib.DecodeN
set_option linter.unusedVariables false
set_option linter.unusedSimpArgs false
namespace Go.Proofs.Ytgmnjiiommbjaaa.dist
open Go.RowKit Go.Proofs.Ytgmnjiiommbjaaa.txt Go.Proofs.Ytgmnjiiommbjaaa.tx Go.Proofs.Ytgmnjiiommbjaaa.lev Go.Proofs.Ytgmnjiiommbjaaa.fold Go.Proofs.Ytgmnjiiommbjaaa.pat

theorem decode_two (s : ByteArray) (i : Nat) (hi : i + 1 < s.size) (h0 : s.get! i = 195) (h1 : s.get! (i + 1) = 188) : Utf8.decode s i = (252, 2) := by
  rw [Lib.decode_at, h0, h1]
  have e : (195 : UInt8).toNat = 195 := rfl
  have e1 : (188 : UInt8).toNat = 188 := rfl
  rw [e, e1]
  unfold Lib.decodeN
  have hn : ¬ s.size - i ≤ 1 := by omega
  simp
  omega

/-- the code points of good bytes -/
def cps : List UInt8 → List Int
  | [] => []
  | b :: r => if b.toNat < 128 then (b.toNat : Int) :: cps r else match r with
    | [] => []
    | _ :: r' => 252 :: cps r'
theorem pts_good (l : List UInt8) (f : Nat) : ∀ pos, l.length ≤ pos + f → good (l.drop pos) = true → ptsFrom ⟨l.toArray⟩ f pos = cps (l.drop pos) := by
  have hsz : (⟨l.toArray⟩ : ByteArray).size = l.length := by simp [ByteArray.size]
  induction f with
  | zero =>
    intro pos hp _
    rw [List.drop_eq_nil_of_le (by omega)]
    rfl
  | succ f ih =>
    intro pos hp hgd
    by_cases hlt : pos < l.length
    · have hg := get_of l pos hlt
      rw [List.drop_eq_getElem_cons hlt] at hgd ⊢
      rw [ptsFrom_succ _ f pos (by rw [hsz]; exact hlt)]
      unfold good at hgd
      unfold cps
      by_cases h1 : l[pos].toNat < 128
      · rw [if_pos h1] at hgd ⊢
        rw [decode_ascii ⟨l.toArray⟩ pos (by rw [hg]; exact h1), hg, ih (pos + 1) (by omega) hgd]
      · rw [if_neg h1] at hgd ⊢
        by_cases h2 : pos + 1 < l.length
        · rw [List.drop_eq_getElem_cons h2] at hgd ⊢
          simp only [Bool.and_eq_true, beq_iff_eq] at hgd
          have hd := decode_two ⟨l.toArray⟩ pos (by rw [hsz]; exact h2) (by rw [hg]; exact hgd.1) (by rw [get_of l (pos + 1) h2]; exact hgd.2.1)
          rw [hd, ih (pos + 2) (by omega) hgd.2.2]
          rfl
        · rw [List.drop_eq_nil_of_le (by omega)] at hgd
          simp at hgd
    · rw [ptsFrom_end _ _ pos (by rw [hsz]; exact hlt), List.drop_eq_nil_of_le (by omega)]
      rfl
theorem P_good (l : List UInt8) (h : good l = true) : P l = cps l := by
  have hsz : (⟨l.toArray⟩ : ByteArray).size = l.length := by simp [ByteArray.size]
  show ptsFrom _ _ _ = _
  rw [pts_good l _ 0 (by rw [hsz]; omega) (by rw [List.drop_zero]; exact h), List.drop_zero]
theorem cps_inj : ∀ (a b : List UInt8), good a = true → good b = true → cps a = cps b → a = b
  | [], [], _, _, _ => rfl
  | [], y :: b, _, hb, h => by
    unfold good at hb
    unfold cps at h
    by_cases hy : y.toNat < 128
    · rw [if_pos hy] at h; cases h
    · rw [if_neg hy] at h hb
      cases b with
      | nil => simp at hb
      | cons => cases h
  | x :: a, [], ha, _, h => by
    unfold good at ha
    unfold cps at h
    by_cases hx : x.toNat < 128
    · rw [if_pos hx] at h; cases h
    · rw [if_neg hx] at h ha
      cases a with
      | nil => simp at ha
      | cons => cases h
  | x :: a, y :: b, ha, hb, h => by
    unfold good at ha hb
    unfold cps at h
    by_cases hx : x.toNat < 128
    · rw [if_pos hx] at h ha
      by_cases hy : y.toNat < 128
      · rw [if_pos hy] at h hb
        injection h with h1 h2
        have : x.toNat = y.toNat := by omega
        rw [UInt8.toNat_inj.1 this, cps_inj a b ha hb h2]
      · rw [if_neg hy] at h hb
        cases b with
        | nil => simp at hb
        | cons c b' =>
          injection h with h1 h2
          omega
    · rw [if_neg hx] at h ha
      cases a with
      | nil => simp at ha
      | cons d a' =>
        by_cases hy : y.toNat < 128
        · rw [if_pos hy] at h hb
          injection h with h1 h2
          omega
        · rw [if_neg hy] at h hb
          cases b with
          | nil => simp at hb
          | cons c b' =>
            simp only [Bool.and_eq_true, beq_iff_eq] at ha hb
            injection h with h1 h2
            rw [ha.1, hb.1, ha.2.1, hb.2.1, cps_inj a' b' ha.2.2 hb.2.2 h2]
theorem P_inj {a b : List UInt8} (ha : good a = true) (hb : good b = true) : P a = P b ↔ a = b :=
  ⟨fun h => cps_inj a b ha hb (by rw [← P_good a ha, ← P_good b hb]; exact h), fun h => by rw [h]⟩
/-- what the law says of two texts -/
theorem E_zero {a b : List UInt8} (ha : good a = true) (hb : good b = true) : E a b = 0 ↔ a = b := (lev_zero _ _).trans (P_inj ha hb)
end Go.Proofs.Ytgmnjiiommbjaaa.dist
