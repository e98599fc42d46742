/- The reference: Valid and Whole, of fractions. -/
import Derived.Test.YtbeidpeoichakaaDoorPc
import Derived.Test.YtbeidpeoichakaaDoorJh
set_option linter.unusedSimpArgs false
set_option linter.unusedVariables false
namespace Go.Proofs.YtbeidpeoichakaaDoor.sa
open Go.RowKit Go.Proofs.YtbeidpeoichakaaDoor.fm Go.Proofs.YtbeidpeoichakaaDoor.mem Go.Proofs.YtbeidpeoichakaaDoor.fa Go.Proofs.YtbeidpeoichakaaDoor.fb Go.Proofs.YtbeidpeoichakaaDoor.fu Go.Proofs.YtbeidpeoichakaaDoor.fv Go.Proofs.YtbeidpeoichakaaDoor.fw Go.Proofs.YtbeidpeoichakaaDoor.fy Go.Proofs.YtbeidpeoichakaaDoor.ga Go.Proofs.YtbeidpeoichakaaDoor.gb Go.Proofs.YtbeidpeoichakaaDoor.gg Go.Proofs.YtbeidpeoichakaaDoor.ja Go.Proofs.YtbeidpeoichakaaDoor.jb Go.Proofs.YtbeidpeoichakaaDoor.jg Go.Proofs.YtbeidpeoichakaaDoor.jh Go.Proofs.YtbeidpeoichakaaDoor.pa Go.Proofs.YtbeidpeoichakaaDoor.pb Go.Proofs.YtbeidpeoichakaaDoor.pc

/-- a fraction in a box -/
structure FAt (W : World) (g : Nat) (z : Int) (d : Nat) (A : Option Addr) (c : Nat) (A' : Option Addr) (c' : Nat) : Prop where
  lt : g < W.heap.size
  c0 : W.cell? ⟨g, 0, none⟩ = some (.bool (decide (z < 0)))
  c1 : W.cell? ⟨g, 1, none⟩ = some (.slice A (digs z.natAbs).length c)
  c2 : W.cell? ⟨g, 2, none⟩ = some (.bool false)
  c3 : W.cell? ⟨g, 3, none⟩ = some (.slice A' (digs d).length c')
  R : Rd W W.heap.size A c (digs z.natAbs)
  R' : Rd W W.heap.size A' c' (digs d)
section
variable {W W' : World} {g : Nat} {z : Int} {d : Nat} {A A' : Option Addr} {c c' : Nat}
theorem FAt.after (F : FAt W g z d A c A' c') (h : Below W.heap.size W W') : FAt W' g z d A c A' c' :=
  ⟨Nat.lt_of_lt_of_le F.lt h.size, (h.cell F.lt).trans F.c0, (h.cell F.lt).trans F.c1, (h.cell F.lt).trans F.c2, (h.cell F.lt).trans F.c3, (F.R.below h).more h.size, (F.R'.below h).more h.size⟩
theorem fat_new (R : Rd W W.heap.size A c (digs z.natAbs)) (R' : Rd W W.heap.size A' c' (digs d)) (t : TypeId) :
    FAt (W.alloc (.cells #[.bool (decide (z < 0)), .slice A (digs z.natAbs).length c, .bool false, .slice A' (digs d).length c'] t)) W.heap.size z d A c A' c' := by
  have h := (Below.refl W.heap.size W).alloc (Nat.le_refl _) (.cells #[.bool (decide (z < 0)), .slice A (digs z.natAbs).length c, .bool false, .slice A' (digs d).length c'] t)
  exact ⟨by simp, by simp [go_sem], by simp [go_sem], by simp [go_sem], by simp [go_sem], (R.below h).more h.size, (R'.below h).more h.size⟩
theorem FAt.num (F : FAt W g z d A c A' c') : IsBig W (.agg #[.bool (decide (z < 0)), .slice A (digs z.natAbs).length c]) z := ⟨A, c, rfl, F.R⟩
theorem FAt.den (F : FAt W g z d A c A' c') : IsBig W (.agg #[.bool false, .slice A' (digs d).length c']) (d : Int) :=
  ⟨A', c', by rw [decide_eq_false (by omega), Int.natAbs_natCast], by rw [Int.natAbs_natCast]; exact F.R'⟩
theorem FAt.held (F : FAt W g z d A c A' c') : W.cell? ⟨g, 0, none⟩ = some (.bool (decide (z < 0))) ∧ W.cell? ⟨g, 1, none⟩ = some (.slice A (digs z.natAbs).length c) ∧ W.cell? ⟨g, 2, none⟩ = some (.bool false) ∧ W.cell? ⟨g, 3, none⟩ = some (.slice A' (digs d).length c') := ⟨F.c0, F.c1, F.c2, F.c3⟩
theorem FAt.frac (F : FAt W g z d A c A' c') : IsFrac W (.agg #[.bool (decide (z < 0)), .slice A (digs z.natAbs).length c, .bool false, .slice A' (digs d).length c']) z d := ⟨A, c, A', c', rfl, F.R, F.R'⟩
end
/-- the word 1 in a row of its own -/
theorem one_new (W : World) (t : TypeId) : Rd (W.alloc (.cells #[.int .u32 1] 68)) (W.alloc (.cells #[.int .u32 1] 68)).heap.size (some ⟨W.heap.size, 0, none⟩) 1 (digs 1) := by
  have h := rd_new W [1] #[.int .u32 1] rfl 68 (by intro x hx; simp at hx; subst hx; decide)
  have e : (W.alloc (.cells #[.int .u32 1] 68)).heap.size = W.heap.size + 1 := by simp
  rw [e, show digs 1 = [1] by rfl]
  exact h
theorem cmp_one (m : Nat) : (fb.cmp m 1 == 0) = (m == 1) := by
  unfold fb.cmp
  rcases Nat.lt_trichotomy m 1 with h | h | h
  · rw [if_pos h, beq_eq_false_iff_ne.2 (show m ≠ 1 by omega)]; rfl
  · subst h; rfl
  · rw [if_neg (by omega), if_pos h, beq_eq_false_iff_ne.2 (show m ≠ 1 by omega)]; rfl
/-- is it in lowest terms -/
def lowB (z : Int) (d : Nat) : Bool := Nat.gcd z.natAbs d == 1

set_option maxRecDepth 100000 in
set_option maxHeartbeats 4000000 in
theorem rvalid_any (w : World) (a : Value) (z : Int) (d : Nat) (ha : IsFrac w a z d) (hl : (digs z.natAbs).length ≤ 256) (hl' : (digs d).length ≤ 256) (hd : d ≠ 0) :
    Calls Tryd.prog 30 #[a] w fun e w' => e = .returned (.bool (lowB z d)) ∧ Below w.heap.size w w' := by
  obtain ⟨A, c, A', c', rfl, R, R'⟩ := ha
  go_enter Tryd.func30, Tryd.ntmps30
  have hF := fat_new R R' 27
  have hB : Below w.heap.size w (w.alloc (.cells #[.bool (decide (z < 0)), .slice A (digs z.natAbs).length c, .bool false, .slice A' (digs d).length c'] 27)) := (Below.refl _ _).alloc (Nat.le_refl _) _
  obtain ⟨W, hW⟩ : ∃ W, W = w.alloc (.cells #[.bool (decide (z < 0)), .slice A (digs z.natAbs).length c, .bool false, .slice A' (digs d).length c'] 27) := ⟨_, rfl⟩
  rw [← hW] at hF hB
  have H := Lib.hid (And.intro hB hF)
  have c0 := hF.c0
  have c1 := hF.c1
  have hdl : (((digs d).length : Int) == 0) = false := beq_eq_false_iff_ne.2 (by have : (digs d).length ≠ 0 := fun e => hd (by have := digs_len_zero.1 e; omega); omega)
  have hz0 := @digs_len_zero z.natAbs
  clear hF hB R R'
  go_upto_region 1 with fail
  rw [← hW]
  clear hW
  go_wp2_with fail
  refine (rvalidBig_any W _ z H.out.2.num hl).mono ?_
  rintro _ W1 ⟨rfl, hb1⟩
  have H1 := Lib.hid (And.intro (H.out.1.trans (hb1.mono H.out.1.size)) (H.out.2.after hb1))
  clear hb1 c0 c1 H
  have c2 := H1.out.2.c2
  have c3 := H1.out.2.c3
  go_wp2_with fail
  refine (rvalidBig_any W1 _ d H1.out.2.den (by rw [Int.natAbs_natCast]; exact hl')).mono ?_
  rintro _ W2 ⟨rfl, hb2⟩
  have H2 := Lib.hid (And.intro (H1.out.1.trans (hb2.mono H1.out.1.size)) (H1.out.2.after hb2))
  clear hb2 c2 c3 H1
  have c1 := H2.out.2.c1
  have c2 := H2.out.2.c2
  have c3 := H2.out.2.c3
  by_cases hz : z.natAbs = 0
  · have e0 : (((digs z.natAbs).length : Int) == 0) = true := by rw [hz]; rfl
    have hgcd : Nat.gcd z.natAbs d = d := by rw [hz]; exact Nat.gcd_zero_left d
    have HG := Lib.hid hgcd
    clear hgcd hz0
    go_upto_region 4 with fail
    go_wp2_with fail
    have ho := one_new W2 68
    have hb3 : Below W2.heap.size W2 (W2.alloc (.cells #[.int .u32 1] 68)) := (Below.refl _ _).alloc (Nat.le_refl _) _
    obtain ⟨W3, hW3⟩ : ∃ W3, W3 = W2.alloc (.cells #[.int .u32 1] 68) := ⟨_, rfl⟩
    rw [← hW3] at ho hb3 ⊢
    refine (rcmp_any W3 _ A' _ c' 1 d 1 (H2.out.2.after hb3).R' ho (by omega) (by decide)).mono ?_
    rintro _ _ ⟨rfl, k, rfl⟩
    have HB := Lib.hid (H2.out.1.trans (hb3.mono H2.out.1.size))
    clear hb3 hW3 ho c1 c2 c3 H2
    go_wp2_with fail
    go_ret
    exact ⟨by show Ending.returned (Value.bool (fb.cmp d 1 == 0)) = _; rw [cmp_one]; unfold lowB; rw [HG.out], HB.out.trans ⟨rfl, rfl, rfl, Nat.le_refl _, fun _ _ => rfl⟩⟩
  · have e0 : (((digs z.natAbs).length : Int) == 0) = false := beq_eq_false_iff_ne.2 (by omega)
    clear hz0
    go_upto_region 5 with fail
    go_wp2_with fail
    refine (rgcd_any W2 A A' c c' z.natAbs d H2.out.2.R H2.out.2.R' hz hd (by omega) (by omega)).mono ?_
    rintro _ W3 ⟨A1, c1', rfl, R1, hb3⟩
    have H3 := Lib.hid (And.intro (H2.out.1.trans (hb3.mono H2.out.1.size)) R1)
    have hgl : (digs (Nat.gcd z.natAbs d)).length ≤ 256 := Nat.le_trans (len_mono (Nat.gcd_le_right _ (by omega))) hl'
    clear hb3 R1 H2 c1 c2 c3
    have hlow : lowB z d = (Nat.gcd z.natAbs d == 1) := rfl
    generalize Nat.gcd z.natAbs d = q at *
    have HL := Lib.hid hlow
    clear hlow
    go_wp2_with fail
    have ho := one_new W3 68
    have hb4 : Below W3.heap.size W3 (W3.alloc (.cells #[.int .u32 1] 68)) := (Below.refl _ _).alloc (Nat.le_refl _) _
    obtain ⟨W4, hW4⟩ : ∃ W4, W4 = W3.alloc (.cells #[.int .u32 1] 68) := ⟨_, rfl⟩
    rw [← hW4] at ho hb4 ⊢
    refine (rcmp_any W4 _ A1 _ c1' 1 q 1 ((H3.out.2.below hb4).more hb4.size) ho (by omega) (by decide)).mono ?_
    rintro _ _ ⟨rfl, k, rfl⟩
    have HB := Lib.hid (H3.out.1.trans (hb4.mono H3.out.1.size))
    clear hb4 hW4 ho H3
    go_wp2_with fail
    go_ret
    exact ⟨by show Ending.returned (Value.bool (fb.cmp q 1 == 0)) = _; rw [cmp_one, HL.out], HB.out.trans ⟨rfl, rfl, rfl, Nat.le_refl _, fun _ _ => rfl⟩⟩
end Go.Proofs.YtbeidpeoichakaaDoor.sa
