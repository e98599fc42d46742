/- The reference: ValidBig, short, AddBig, SubBig, MulBig, CmpBig: of big integers, and of what is none. -/
import Derived.Test.YtbeidpeoichakaaGreatDoorPb
import Derived.Test.YtbeidpeoichakaaGreatDoorGf
import Derived.Test.YtbeidpeoichakaaGreatDoorJh
set_option linter.unusedSimpArgs false
namespace Go.Proofs.YtbeidpeoichakaaGreatDoor.rb
open Go.RowKit Go.Proofs.YtbeidpeoichakaaGreatDoor.fm Go.Proofs.YtbeidpeoichakaaGreatDoor.mem Go.Proofs.YtbeidpeoichakaaGreatDoor.fa Go.Proofs.YtbeidpeoichakaaGreatDoor.fb Go.Proofs.YtbeidpeoichakaaGreatDoor.fu Go.Proofs.YtbeidpeoichakaaGreatDoor.fv Go.Proofs.YtbeidpeoichakaaGreatDoor.fw Go.Proofs.YtbeidpeoichakaaGreatDoor.fx Go.Proofs.YtbeidpeoichakaaGreatDoor.fy Go.Proofs.YtbeidpeoichakaaGreatDoor.fz Go.Proofs.YtbeidpeoichakaaGreatDoor.gf Go.Proofs.YtbeidpeoichakaaGreatDoor.jh Go.Proofs.YtbeidpeoichakaaGreatDoor.ja Go.Proofs.YtbeidpeoichakaaGreatDoor.pb

set_option maxRecDepth 100000 in
set_option maxHeartbeats 2000000 in
theorem rvalidBig_gen (w : World) (n : Bool) (l : List Nat) (A : Option Addr) (c : Nat) (R : Rd w w.heap.size A c l) (hs : l.length ≤ 1000000) :
    Calls Tryz.prog 52 #[.agg #[.bool n, .slice A l.length c]] w fun e w' => e = .returned (.bool (good n l)) ∧ Below w.heap.size w w' := by
  obtain ⟨G, hG⟩ : ∃ G, G = good n l := ⟨_, rfl⟩
  rw [← hG]
  go_enter Tryz.func52, Tryz.ntmps52
  have hb := (Below.refl w.heap.size w).alloc (Nat.le_refl _) (.cells #[.bool n, .slice A l.length c] 28)
  have HB := Lib.hid hb
  by_cases h1 : 256 < l.length
  · rw [good_long h1] at hG
    have HG := Lib.hid hG
    have hz : ¬ (l.length : Int) ≤ 256 := by omega
    clear hb hG R
    go_wp2_with fail
    go_ret
    exact ⟨ret_eq (by first | (rw [HG.out]; done) | (rw [HG.out]; rfl)), HB.out⟩
  · by_cases h0 : l.length = 0
    · have h2 : good n l = !n := by unfold good; rw [h0]; cases n <;> rfl
      rw [h2] at hG
      have HG := Lib.hid hG
      rw [h0] at HB ⊢
      clear hb hG R h1 h2
      cases n with
      | true =>
        go_wp2_with fail
        go_ret
        exact ⟨ret_eq (by first | (rw [HG.out]; done) | (rw [HG.out]; rfl)), HB.out⟩
      | false =>
        go_wp2_with fail
        go_ret
        exact ⟨ret_eq (by first | (rw [HG.out]; done) | (rw [HG.out]; rfl)), HB.out⟩
    · obtain ⟨b, off, rfl, hbl, hc⟩ := R.cells (by omega)
      obtain ⟨t, ht⟩ : ∃ t, l.length = t + 1 := ⟨l.length - 1, by omega⟩
      have c1 := (hb.cell (p := ⟨b, off + t, none⟩) hbl).trans (hc t (by omega))
      obtain ⟨y, hy⟩ : ∃ y, y = l.getD t 0 := ⟨_, rfl⟩
      rw [← hy] at c1
      have i1 : ((t + 1 : Nat) : Int) - 1 = (t : Int) := by omega
      have i2 : (0 : Int) < ((t + 1 : Nat) : Int) := by omega
      have i3 : ((t + 1 : Nat) : Int) ≤ 256 := by omega
      have i4 : (((t + 1 : Nat) : Int) == 0) = false := beq_eq_false_iff_ne.2 (by omega)
      have hfit := R.fit
      by_cases hy0 : y = 0
      · have hgd : good n l = false := by
          subst hy0
          unfold good
          rw [ht, Nat.add_sub_cancel, ← hy]; simp
        rw [hgd] at hG
        have HG := Lib.hid hG
        subst hy0
        rw [ht] at HB hfit c1 ⊢
        clear hb hG hc hgd hy R h0 h1 ht hs
        go_wp2_with fail
        go_ret
        exact ⟨ret_eq (by first | (rw [HG.out]; done) | (rw [HG.out]; rfl)), HB.out⟩
      · have hgd : good n l = true := good_last (neg := n) ht (by omega) (by rw [← hy]; exact hy0)
        rw [hgd] at hG
        have HG := Lib.hid hG
        have hyz : (((y : Nat) : Int) == 0) = false := beq_eq_false_iff_ne.2 (by omega)
        have hyz2 : (((y : Nat) : Int) != 0) = true := by rw [bne_iff_ne]; omega
        rw [ht] at HB hfit c1 ⊢
        clear hb hG hc hgd hy R h0 h1 ht hs hy0
        go_wp2_with fail
        go_ret
        exact ⟨ret_eq (by first | (rw [HG.out]; done) | (rw [HG.out]; rfl)), HB.out⟩

end Go.Proofs.YtbeidpeoichakaaGreatDoor.rb
