/- fraction: validAll, of fractions that are valid. -/
import Derived.Test.YtfnfnagdecpobaaDoorGc
set_option linter.unusedSimpArgs false
namespace Go.Proofs.YtfnfnagdecpobaaDoor.gd
open Go.RowKit Go.Proofs.YtfnfnagdecpobaaDoor.fm Go.Proofs.YtfnfnagdecpobaaDoor.mem Go.Proofs.YtfnfnagdecpobaaDoor.fa Go.Proofs.YtfnfnagdecpobaaDoor.fb Go.Proofs.YtfnfnagdecpobaaDoor.fd Go.Proofs.YtfnfnagdecpobaaDoor.fj Go.Proofs.YtfnfnagdecpobaaDoor.fq Go.Proofs.YtfnfnagdecpobaaDoor.fr Go.Proofs.YtfnfnagdecpobaaDoor.ft Go.Proofs.YtfnfnagdecpobaaDoor.fu Go.Proofs.YtfnfnagdecpobaaDoor.fv Go.Proofs.YtfnfnagdecpobaaDoor.fw Go.Proofs.YtfnfnagdecpobaaDoor.fx Go.Proofs.YtfnfnagdecpobaaDoor.fy Go.Proofs.YtfnfnagdecpobaaDoor.fz Go.Proofs.YtfnfnagdecpobaaDoor.gb Go.Proofs.YtfnfnagdecpobaaDoor.gc

/-- A fraction in lowest terms, within the limits. -/
structure Fine (z : Int) (d : Nat) : Prop where
  hz : (digs z.natAbs).length ≤ 256
  hd : (digs d).length ≤ 256
  d0 : d ≠ 0
  low : Nat.gcd z.natAbs d = 1

/-- What lies at an entry of a row of fractions. -/
def FEnt (w : World) (B g k : Nat) (z : Int) (d : Nat) : Prop :=
  ∃ A c A' c', w.cell? ⟨g, k * 4, none⟩ = some (.bool (decide (z < 0))) ∧ w.cell? ⟨g, k * 4 + 1, none⟩ = some (.slice A (digs z.natAbs).length c) ∧ w.cell? ⟨g, k * 4 + 2, none⟩ = some (.bool false) ∧ w.cell? ⟨g, k * 4 + 3, none⟩ = some (.slice A' (digs d).length c') ∧
    Rd w B A c (digs z.natAbs) ∧ Rd w B A' c' (digs d)

theorem valid2d (W : World) (g cap : Nat) (x : Int) (d : Nat) (A A' : Option Addr) (c c' : Nat) (ty : TypeId) (fr : Nat × Nat)
    (hg : W.heap[g]? = some (.cells #[.bool (decide (x < 0)), .slice A (digs x.natAbs).length c, .bool false, .slice A' (digs d).length c'] ty fr))
    (R : Rd W W.heap.size A c (digs x.natAbs)) (R' : Rd W W.heap.size A' c' (digs d)) (hl : (digs x.natAbs).length ≤ 256) (hl' : (digs d).length ≤ 256) :
    Calls Tryd.prog 48 #[.slice (some ⟨g, 0, none⟩) 2 cap] W fun e w' => e = .returned (.bool true) ∧ Below W.heap.size W w' :=
  valid2 W g cap x (d : Int) A A' c c' ty fr (by rw [decide_eq_false (show ¬ (d : Int) < 0 by omega), Int.natAbs_natCast]; exact hg) R (by rw [Int.natAbs_natCast]; exact R') hl (by rw [Int.natAbs_natCast]; exact hl')

set_option maxRecDepth 100000 in
set_option maxHeartbeats 8000000 in
theorem validAll_any (w : World) (g cap : Nat) (es : List (Int × Nat)) (hg : g < w.heap.size) (hes : es.length ≤ 100) (h : ∀ k, (hk : k < es.length) → FEnt w w.heap.size g k es[k].1 es[k].2 ∧ Fine es[k].1 es[k].2) (hT : Tabs w) :
    Calls Tryd.prog 77 #[.slice (some ⟨g, 0, none⟩) es.length cap] w fun e w' => e = .returned (.bool true) ∧ Below w.heap.size w w' := by
  have H := Lib.hid h
  clear h
  go_enter Tryd.func77, Tryd.ntmps77
  go_wp2
  go_loopw [7] (fun i wr => ∃ k : Nat, k ≤ es.length ∧ i = .int .i64 k ∧ Below w.heap.size w wr) (fun i _ => es.length - (intOf i).toNat)
  case atStart => exact ⟨0, Nat.zero_le _, rfl, Below.refl _ _⟩
  case round =>
    obtain ⟨k, hk, rfl, hb⟩ := hrel
    have HB := Lib.hid hb
    clear hb
    by_cases hkx : k < es.length
    · obtain ⟨⟨A, c, A', c', c1, c2, c3, c4, R, R'⟩, hF⟩ := H.out k hkx
      have c1' := (HB.out.cell (p := ⟨g, k * 4, none⟩) hg).trans c1
      have c2' := (HB.out.cell (p := ⟨g, k * 4 + 1, none⟩) hg).trans c2
      have c3' := (HB.out.cell (p := ⟨g, k * 4 + 2, none⟩) hg).trans c3
      have c4' := (HB.out.cell (p := ⟨g, k * 4 + 3, none⟩) hg).trans c4
      generalize es[k].1 = z at *
      generalize es[k].2 = d at *
      clear c1 c2 c3 c4
      have HF := Lib.hid hF
      have hz1 : ¬ (digs d).length = 0 := fun e => hF.d0 (digs_len_zero.1 e)
      have z1 : (((digs d).length : Int) == 0) = false := beq_eq_false_iff_ne.2 (by omega)
      clear hz1 hF
      have lb := R.fit
      have lb' := R'.fit
      have hA := HB.out.alloc HB.out.size (.cells #[.bool (decide (z < 0)), .slice A (digs z.natAbs).length c, .bool false, .slice A' (digs d).length c'] 50)
      have HA := Lib.hid hA
      clear hA
      have RA := (R.below HA.out).more HA.out.size
      have RA' := (R'.below HA.out).more HA.out.size
      obtain ⟨Wa, hWa⟩ : ∃ Wa, Wa = wr.alloc (.cells #[.bool (decide (z < 0)), .slice A (digs z.natAbs).length c, .bool false, .slice A' (digs d).length c'] 50) := ⟨_, rfl⟩
      have hsz : Wa.heap.size = wr.heap.size + 1 := by rw [hWa]; simp
      have k0 : Wa.cell? ⟨wr.heap.size, 0, none⟩ = some (.bool (decide (z < 0))) := by rw [hWa]; simp [go_sem]
      have k1 : Wa.cell? ⟨wr.heap.size, 1, none⟩ = some (.slice A (digs z.natAbs).length c) := by rw [hWa]; simp [go_sem]
      have k2 : Wa.cell? ⟨wr.heap.size, 2, none⟩ = some (.bool false) := by rw [hWa]; simp [go_sem]
      have k3 : Wa.cell? ⟨wr.heap.size, 3, none⟩ = some (.slice A' (digs d).length c') := by rw [hWa]; simp [go_sem]
      rw [← hWa] at HA RA RA'
      have HC := Lib.hid (And.intro (And.intro RA RA') (And.intro hsz (And.intro k0 (And.intro k1 (And.intro k2 k3)))))
      clear RA RA' hsz k0 k1 k2 k3 R R'
      go_wp2_with fail
      rw [← hWa]
      clear hWa
      refine (valid2d (Wa.alloc _) (wr.heap.size + 1) 2 z d A A' c c' 28 (0, 0) (by rw [← HC.out.2.1]; exact heap_alloc_new Wa _) ?_ ?_ HF.out.hz HF.out.hd).mono ?_
      · exact (HC.out.1.1.below ((Below.refl _ _).alloc (Nat.le_refl _) _)).more (by simp)
      · exact (HC.out.1.2.below ((Below.refl _ _).alloc (Nat.le_refl _) _)).more (by simp)
      rintro _ W1 ⟨rfl, hb1⟩
      have hc : Below Wa.heap.size Wa W1 := ((Below.refl _ _).alloc (Nat.le_refl _) _).trans (hb1.mono (by simp))
      have hlt : wr.heap.size < Wa.heap.size := by have := HC.out.2.1; omega
      have k0 := (hc.cell (p := ⟨wr.heap.size, 0, none⟩) hlt).trans HC.out.2.2.1
      have k1 := (hc.cell (p := ⟨wr.heap.size, 1, none⟩) hlt).trans HC.out.2.2.2.1
      have k2 := (hc.cell (p := ⟨wr.heap.size, 2, none⟩) hlt).trans HC.out.2.2.2.2.1
      have k3 := (hc.cell (p := ⟨wr.heap.size, 3, none⟩) hlt).trans HC.out.2.2.2.2.2
      have R1 := (HC.out.1.1.below hc).more hc.size
      have R2 := (HC.out.1.2.below hc).more hc.size
      have H1 := Lib.hid (And.intro R1 (And.intro R2 (HA.out.trans (hc.mono HA.out.size))))
      clear hb1 hc hlt HC HA R1 R2 c1' c2' c3' c4'
      go_wp2_with fail
      refine (isOne_any W1 _ A' c' (digs d) H1.out.2.1 (by have := HF.out.hd; omega)).mono ?_
      rintro _ _ ⟨rfl, rfl⟩
      by_cases hd1 : digs d = [1]
      · rw [decide_eq_true hd1]
        clear hd1
        go_wp2_with fail
        exact ⟨⟨k + 1, by omega, by go_num, H1.out.2.2⟩, by simp [intOf]; omega⟩
      · rw [decide_eq_false hd1]
        have hz0 : ¬ (digs z.natAbs).length = 0 := fun e => by
          have e1 := digs_len_zero.1 e
          have e2 := HF.out.low
          rw [e1, Nat.gcd_zero_left] at e2
          exact hd1 (by rw [e2]; rfl)
        have z2 : (((digs z.natAbs).length : Int) == 0) = false := beq_eq_false_iff_ne.2 (by omega)
        have hzz : z.natAbs ≠ 0 := fun e => hz0 (digs_len_zero.2 e)
        have HZ := Lib.hid hzz
        clear hd1 hz0 hzz
        go_wp2_with fail
        refine (gcdWords_any W1 A A' c c' z.natAbs d H1.out.1 H1.out.2.1 (by have := HF.out.hz; omega) (by have := HF.out.hd; omega) HZ.out HF.out.d0 (hT.below H1.out.2.2)).mono ?_
        rintro _ W2 ⟨v2, rfl, hO, hb2⟩
        rw [HF.out.low] at hO
        obtain ⟨A2, c2, rfl, R2⟩ := own_rd hO (ok_digs _)
        have H2 := Lib.hid (H1.out.2.2.trans (hb2.mono H1.out.2.2.size))
        clear hO hb2
        go_wp2_with fail
        refine (isOne_any W2 _ A2 c2 (digs 1) R2 (by have := (lt_len_iff 1 1).2 (by decide); omega)).mono ?_
        rintro _ _ ⟨rfl, rfl⟩
        rw [decide_eq_true (show digs 1 = [1] by rfl)]
        clear R2
        go_wp2_with fail
        exact ⟨⟨k + 1, by omega, by go_num, H2.out⟩, by simp [intOf]; omega⟩
    · obtain rfl : k = es.length := by omega
      go_wp2_with fail
      go_returns
      exact ⟨rfl, HB.out⟩

end Go.Proofs.YtfnfnagdecpobaaDoor.gd
