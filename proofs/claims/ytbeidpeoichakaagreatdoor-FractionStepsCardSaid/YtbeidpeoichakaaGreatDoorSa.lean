/- The reference: Valid and Whole, of fractions. -/
import Derived.Test.YtbeidpeoichakaaGreatDoorPc
import Derived.Test.YtbeidpeoichakaaGreatDoorJh
import Derived.Deep.RegionHeld3
import Derived.Deep.Cut
import Derived.Deep.DeepCutAuto
import Derived.Test.YtbeidpeoichakaaGreatDoorRe
import Derived.Test.YtbeidpeoichakaaGreatDoorNa
set_option linter.unusedSimpArgs false
set_option linter.unusedVariables false
namespace Go.Proofs.YtbeidpeoichakaaGreatDoor.sa
open Go.RowKit Go.Proofs.YtbeidpeoichakaaGreatDoor.fm Go.Proofs.YtbeidpeoichakaaGreatDoor.mem Go.Proofs.YtbeidpeoichakaaGreatDoor.fa Go.Proofs.YtbeidpeoichakaaGreatDoor.fb Go.Proofs.YtbeidpeoichakaaGreatDoor.fu Go.Proofs.YtbeidpeoichakaaGreatDoor.fv Go.Proofs.YtbeidpeoichakaaGreatDoor.fw Go.Proofs.YtbeidpeoichakaaGreatDoor.fy Go.Proofs.YtbeidpeoichakaaGreatDoor.ga Go.Proofs.YtbeidpeoichakaaGreatDoor.gb Go.Proofs.YtbeidpeoichakaaGreatDoor.gg Go.Proofs.YtbeidpeoichakaaGreatDoor.ja Go.Proofs.YtbeidpeoichakaaGreatDoor.jb Go.Proofs.YtbeidpeoichakaaGreatDoor.jg Go.Proofs.YtbeidpeoichakaaGreatDoor.jh Go.Proofs.YtbeidpeoichakaaGreatDoor.pa Go.Proofs.YtbeidpeoichakaaGreatDoor.pb Go.Proofs.YtbeidpeoichakaaGreatDoor.pc

/-- a fraction in a box -/
structure FAt (W : World) (g : Nat) (z : Int) (d : Nat) (A : Option Addr) (c : Nat) (A' : Option Addr) (c' : Nat) : Prop where
  lt : g < W.heap.size
  c0 : W.cell? ⟨g, 0, none⟩ = some (.bool (decide (z < 0)))
  c1 : W.cell? ⟨g, 1, none⟩ = some (.slice A (digs z.natAbs).length c)
  c2 : W.cell? ⟨g, 2, none⟩ = some (.bool false)
  c3 : W.cell? ⟨g, 3, none⟩ = some (.slice A' (digs d).length c')
  R : Rd W W.heap.size A c (digs z.natAbs)
  R' : Rd W W.heap.size A' c' (digs d)
section
variable {W W' : World} {g : Nat} {z : Int} {d : Nat} {A A' : Option Addr} {c c' : Nat}
theorem FAt.after (F : FAt W g z d A c A' c') (h : Below W.heap.size W W') : FAt W' g z d A c A' c' :=
  ⟨Nat.lt_of_lt_of_le F.lt h.size, (h.cell F.lt).trans F.c0, (h.cell F.lt).trans F.c1, (h.cell F.lt).trans F.c2, (h.cell F.lt).trans F.c3, (F.R.below h).more h.size, (F.R'.below h).more h.size⟩
theorem fat_new (R : Rd W W.heap.size A c (digs z.natAbs)) (R' : Rd W W.heap.size A' c' (digs d)) (t : TypeId) :
    FAt (W.alloc (.cells #[.bool (decide (z < 0)), .slice A (digs z.natAbs).length c, .bool false, .slice A' (digs d).length c'] t)) W.heap.size z d A c A' c' := by
  have h := (Below.refl W.heap.size W).alloc (Nat.le_refl _) (.cells #[.bool (decide (z < 0)), .slice A (digs z.natAbs).length c, .bool false, .slice A' (digs d).length c'] t)
  exact ⟨by simp, by simp [go_sem], by simp [go_sem], by simp [go_sem], by simp [go_sem], (R.below h).more h.size, (R'.below h).more h.size⟩
theorem FAt.num (F : FAt W g z d A c A' c') : IsBig W (.agg #[.bool (decide (z < 0)), .slice A (digs z.natAbs).length c]) z := ⟨A, c, rfl, F.R⟩
theorem FAt.den (F : FAt W g z d A c A' c') : IsBig W (.agg #[.bool false, .slice A' (digs d).length c']) (d : Int) :=
  ⟨A', c', by rw [decide_eq_false (by omega), Int.natAbs_natCast], by rw [Int.natAbs_natCast]; exact F.R'⟩
theorem FAt.held (F : FAt W g z d A c A' c') : W.cell? ⟨g, 0, none⟩ = some (.bool (decide (z < 0))) ∧ W.cell? ⟨g, 1, none⟩ = some (.slice A (digs z.natAbs).length c) ∧ W.cell? ⟨g, 2, none⟩ = some (.bool false) ∧ W.cell? ⟨g, 3, none⟩ = some (.slice A' (digs d).length c') := ⟨F.c0, F.c1, F.c2, F.c3⟩
theorem FAt.frac (F : FAt W g z d A c A' c') : IsFrac W (.agg #[.bool (decide (z < 0)), .slice A (digs z.natAbs).length c, .bool false, .slice A' (digs d).length c']) z d := ⟨A, c, A', c', rfl, F.R, F.R'⟩
end
/-- the word 1 in a row of its own -/
theorem one_new (W : World) (t : TypeId) : Rd (W.alloc (.cells #[.int .u32 1] 59)) (W.alloc (.cells #[.int .u32 1] 59)).heap.size (some ⟨W.heap.size, 0, none⟩) 1 (digs 1) := by
  have h := rd_new W [1] #[.int .u32 1] rfl 59 (by intro x hx; simp at hx; subst hx; decide)
  have e : (W.alloc (.cells #[.int .u32 1] 59)).heap.size = W.heap.size + 1 := by simp
  rw [e, show digs 1 = [1] by rfl]
  exact h
theorem cmp_one (m : Nat) : (fb.cmp m 1 == 0) = (m == 1) := by
  unfold fb.cmp
  rcases Nat.lt_trichotomy m 1 with h | h | h
  · rw [if_pos h, beq_eq_false_iff_ne.2 (show m ≠ 1 by omega)]; rfl
  · subst h; rfl
  · rw [if_neg (by omega), if_pos h, beq_eq_false_iff_ne.2 (show m ≠ 1 by omega)]; rfl
/-- is it in lowest terms -/
def lowB (z : Int) (d : Nat) : Bool := Nat.gcd z.natAbs d == 1

set_option maxRecDepth 100000 in
set_option maxHeartbeats 4000000 in
theorem rvalid_any (w : World) (a : Value) (z : Int) (d : Nat) (ha : IsFrac w a z d) (hl : (digs z.natAbs).length ≤ 256) (hl' : (digs d).length ≤ 256) (hd : d ≠ 0) :
    Calls Tryz.prog 23 #[a] w fun e w' => e = .returned (.bool (lowB z d)) ∧ Below w.heap.size w w' := by
  obtain ⟨A, c, A', c', rfl, R, R'⟩ := ha
  go_enter Tryz.func23, Tryz.ntmps23
  have hF := fat_new R R' 30
  have hB : Below w.heap.size w (w.alloc (.cells #[.bool (decide (z < 0)), .slice A (digs z.natAbs).length c, .bool false, .slice A' (digs d).length c'] 30)) := (Below.refl _ _).alloc (Nat.le_refl _) _
  obtain ⟨W, hW⟩ : ∃ W, W = w.alloc (.cells #[.bool (decide (z < 0)), .slice A (digs z.natAbs).length c, .bool false, .slice A' (digs d).length c'] 30) := ⟨_, rfl⟩
  rw [← hW] at hF hB
  have H := Lib.hid (And.intro hB hF)
  have c0 := hF.c0
  have c1 := hF.c1
  have hdl : (((digs d).length : Int) == 0) = false := beq_eq_false_iff_ne.2 (by have : (digs d).length ≠ 0 := fun e => hd (by have := digs_len_zero.1 e; omega); omega)
  have hz0 := @digs_len_zero z.natAbs
  clear hF hB R R'
  go_upto_region 1 with fail
  rw [← hW]
  clear hW
  go_wp2_with fail
  refine (rvalidBig_any W _ z H.out.2.num hl).mono ?_
  rintro _ W1 ⟨rfl, hb1⟩
  have H1 := Lib.hid (And.intro (H.out.1.trans (hb1.mono H.out.1.size)) (H.out.2.after hb1))
  clear hb1 c0 c1 H
  have c2 := H1.out.2.c2
  have c3 := H1.out.2.c3
  go_wp2_with fail
  refine (rvalidBig_any W1 _ d H1.out.2.den (by rw [Int.natAbs_natCast]; exact hl')).mono ?_
  rintro _ W2 ⟨rfl, hb2⟩
  have H2 := Lib.hid (And.intro (H1.out.1.trans (hb2.mono H1.out.1.size)) (H1.out.2.after hb2))
  clear hb2 c2 c3 H1
  have c1 := H2.out.2.c1
  have c2 := H2.out.2.c2
  have c3 := H2.out.2.c3
  by_cases hz : z.natAbs = 0
  · have e0 : (((digs z.natAbs).length : Int) == 0) = true := by rw [hz]; rfl
    have hgcd : Nat.gcd z.natAbs d = d := by rw [hz]; exact Nat.gcd_zero_left d
    have HG := Lib.hid hgcd
    clear hgcd hz0
    go_upto_region 4 with fail
    go_wp2_with fail
    have ho := one_new W2 59
    have hb3 : Below W2.heap.size W2 (W2.alloc (.cells #[.int .u32 1] 59)) := (Below.refl _ _).alloc (Nat.le_refl _) _
    obtain ⟨W3, hW3⟩ : ∃ W3, W3 = W2.alloc (.cells #[.int .u32 1] 59) := ⟨_, rfl⟩
    rw [← hW3] at ho hb3 ⊢
    refine (rcmp_any W3 _ A' _ c' 1 d 1 (H2.out.2.after hb3).R' ho (by omega) (by decide)).mono ?_
    rintro _ _ ⟨rfl, k, rfl⟩
    have HB := Lib.hid (H2.out.1.trans (hb3.mono H2.out.1.size))
    clear hb3 hW3 ho c1 c2 c3 H2
    go_wp2_with fail
    go_ret
    exact ⟨by show Ending.returned (Value.bool (fb.cmp d 1 == 0)) = _; rw [cmp_one]; unfold lowB; rw [HG.out], HB.out.trans ⟨rfl, rfl, rfl, Nat.le_refl _, fun _ _ => rfl⟩⟩
  · have e0 : (((digs z.natAbs).length : Int) == 0) = false := beq_eq_false_iff_ne.2 (by omega)
    clear hz0
    go_upto_region 5 with fail
    go_wp2_with fail
    refine (rgcd_any W2 A A' c c' z.natAbs d H2.out.2.R H2.out.2.R' hz hd (by omega) (by omega)).mono ?_
    rintro _ W3 ⟨A1, c1', rfl, R1, hb3⟩
    have H3 := Lib.hid (And.intro (H2.out.1.trans (hb3.mono H2.out.1.size)) R1)
    have hgl : (digs (Nat.gcd z.natAbs d)).length ≤ 256 := Nat.le_trans (len_mono (Nat.gcd_le_right _ (by omega))) hl'
    clear hb3 R1 H2 c1 c2 c3
    have hlow : lowB z d = (Nat.gcd z.natAbs d == 1) := rfl
    generalize Nat.gcd z.natAbs d = q at *
    have HL := Lib.hid hlow
    clear hlow
    go_wp2_with fail
    have ho := one_new W3 59
    have hb4 : Below W3.heap.size W3 (W3.alloc (.cells #[.int .u32 1] 59)) := (Below.refl _ _).alloc (Nat.le_refl _) _
    obtain ⟨W4, hW4⟩ : ∃ W4, W4 = W3.alloc (.cells #[.int .u32 1] 59) := ⟨_, rfl⟩
    rw [← hW4] at ho hb4 ⊢
    refine (rcmp_any W4 _ A1 _ c1' 1 q 1 ((H3.out.2.below hb4).more hb4.size) ho (by omega) (by decide)).mono ?_
    rintro _ _ ⟨rfl, k, rfl⟩
    have HB := Lib.hid (H3.out.1.trans (hb4.mono H3.out.1.size))
    clear hb4 hW4 ho H3
    go_wp2_with fail
    go_ret
    exact ⟨by show Ending.returned (Value.bool (fb.cmp q 1 == 0)) = _; rw [cmp_one, HL.out], HB.out.trans ⟨rfl, rfl, rfl, Nat.le_refl _, fun _ _ => rfl⟩⟩
end Go.Proofs.YtbeidpeoichakaaGreatDoor.sa

/- The reference: Cmp of fractions. -/
set_option linter.unusedSimpArgs false
set_option linter.unusedVariables false
namespace Go.Proofs.YtbeidpeoichakaaGreatDoor.sb
open Go.RowKit Go.Proofs.YtbeidpeoichakaaGreatDoor.fm Go.Proofs.YtbeidpeoichakaaGreatDoor.mem Go.Proofs.YtbeidpeoichakaaGreatDoor.fa Go.Proofs.YtbeidpeoichakaaGreatDoor.fb Go.Proofs.YtbeidpeoichakaaGreatDoor.fu Go.Proofs.YtbeidpeoichakaaGreatDoor.fv Go.Proofs.YtbeidpeoichakaaGreatDoor.fw Go.Proofs.YtbeidpeoichakaaGreatDoor.fy Go.Proofs.YtbeidpeoichakaaGreatDoor.ga Go.Proofs.YtbeidpeoichakaaGreatDoor.gb Go.Proofs.YtbeidpeoichakaaGreatDoor.gg Go.Proofs.YtbeidpeoichakaaGreatDoor.ja Go.Proofs.YtbeidpeoichakaaGreatDoor.jb Go.Proofs.YtbeidpeoichakaaGreatDoor.jg Go.Proofs.YtbeidpeoichakaaGreatDoor.jh Go.Proofs.YtbeidpeoichakaaGreatDoor.pa Go.Proofs.YtbeidpeoichakaaGreatDoor.pb Go.Proofs.YtbeidpeoichakaaGreatDoor.pc Go.Proofs.YtbeidpeoichakaaGreatDoor.sa

/-- two fractions in boxes of their own -/
structure FF (w W : World) (g : Nat) (x : Int) (d : Nat) (A : Option Addr) (c : Nat) (B : Option Addr) (k : Nat) (y : Int) (e : Nat) (A' : Option Addr) (c' : Nat) (B' : Option Addr) (k' : Nat) : Prop where
  bel : Below w.heap.size w W
  a : FAt W g x d A c B k
  b : FAt W (g + 1) y e A' c' B' k'
section
variable {w W W' : World} {g : Nat} {x y : Int} {d e : Nat} {A B A' B' : Option Addr} {c k c' k' : Nat}
theorem FF.after (F : FF w W g x d A c B k y e A' c' B' k') (h : Below W.heap.size W W') : FF w W' g x d A c B k y e A' c' B' k' := ⟨F.bel.trans (h.mono F.bel.size), F.a.after h, F.b.after h⟩
theorem FF.alloc (F : FF w W g x d A c B k y e A' c' B' k') (o : Obj) : FF w (W.alloc o) g x d A c B k y e A' c' B' k' := F.after ((Below.refl _ _).alloc (Nat.le_refl _) o)
theorem FF.made (F : FF w W g x d A c B k y e A' c' B' k') (o : Obj) (v v' : Value) : FF w (((W.alloc o).setCell ⟨W.heap.size, 0, none⟩ v).setCell ⟨W.heap.size, 1, none⟩ v') g x d A c B k y e A' c' B' k' :=
  F.after ((((Below.refl _ _).alloc (Nat.le_refl _) o).setCell (p := ⟨W.heap.size, 0, none⟩) (Nat.le_refl _) v).setCell (p := ⟨W.heap.size, 1, none⟩) (Nat.le_refl _) v')
theorem FF.draw (F : FF w W g x d A c B k y e A' c' B' k') : FF w W.drew g x d A c B k y e A' c' B' k' := F.after (Below.refl _ _).drew
theorem FF.held (F : FF w W g x d A c B k y e A' c' B' k') : W.cell? ⟨g, 0, none⟩ = some (.bool (decide (x < 0))) ∧ W.cell? ⟨g, 1, none⟩ = some (.slice A (digs x.natAbs).length c) ∧ W.cell? ⟨g, 2, none⟩ = some (.bool false) ∧ W.cell? ⟨g, 3, none⟩ = some (.slice B (digs d).length k) ∧
    W.cell? ⟨g + 1, 0, none⟩ = some (.bool (decide (y < 0))) ∧ W.cell? ⟨g + 1, 1, none⟩ = some (.slice A' (digs y.natAbs).length c') ∧ W.cell? ⟨g + 1, 2, none⟩ = some (.bool false) ∧ W.cell? ⟨g + 1, 3, none⟩ = some (.slice B' (digs e).length k') :=
  ⟨F.a.c0, F.a.c1, F.a.c2, F.a.c3, F.b.c0, F.b.c1, F.b.c2, F.b.c3⟩
theorem ff_new (RA : Rd w w.heap.size A c (digs x.natAbs)) (RB : Rd w w.heap.size B k (digs d)) (RA' : Rd w w.heap.size A' c' (digs y.natAbs)) (RB' : Rd w w.heap.size B' k' (digs e)) (t : TypeId) :
    FF w ((w.alloc (.cells #[.bool (decide (x < 0)), .slice A (digs x.natAbs).length c, .bool false, .slice B (digs d).length k] t)).alloc (.cells #[.bool (decide (y < 0)), .slice A' (digs y.natAbs).length c', .bool false, .slice B' (digs e).length k'] t)) w.heap.size x d A c B k y e A' c' B' k' := by
  have h1 := (Below.refl w.heap.size w).alloc (Nat.le_refl _) (.cells #[.bool (decide (x < 0)), .slice A (digs x.natAbs).length c, .bool false, .slice B (digs d).length k] t)
  have h2 := (Below.refl (w.alloc (.cells #[.bool (decide (x < 0)), .slice A (digs x.natAbs).length c, .bool false, .slice B (digs d).length k] t)).heap.size _).alloc (Nat.le_refl _) (.cells #[.bool (decide (y < 0)), .slice A' (digs y.natAbs).length c', .bool false, .slice B' (digs e).length k'] t)
  have hb := fat_new (W := w.alloc (.cells #[.bool (decide (x < 0)), .slice A (digs x.natAbs).length c, .bool false, .slice B (digs d).length k] t)) ((RA'.below h1).more h1.size) ((RB'.below h1).more h1.size) t
  have e1 : (w.alloc (.cells #[.bool (decide (x < 0)), .slice A (digs x.natAbs).length c, .bool false, .slice B (digs d).length k] t)).heap.size = w.heap.size + 1 := by simp
  rw [e1] at hb
  exact ⟨h1.trans (h2.mono h1.size), (fat_new RA RB t).after h2, hb⟩
end

/-- a big integer's box behind them -/
structure XB (w W : World) (j : Nat) : Prop where
  bel : Below w.heap.size w W
  lo : w.heap.size + 1 < j
  lt : j < W.heap.size
  r0 : W.cell? ⟨j, 0, none⟩ = some (.bool false)
  r1 : W.cell? ⟨j, 1, none⟩ = some (.slice none 0 0)
  fr : ∀ k, W.frozen? ⟨j, k, none⟩ = false
theorem XB.after {w W W' : World} {j : Nat} (X : XB w W j) (h : Below W.heap.size W W') : XB w W' j :=
  ⟨X.bel.trans (h.mono X.bel.size), X.lo, Nat.lt_of_lt_of_le X.lt h.size, (h.cell X.lt).trans X.r0, (h.cell X.lt).trans X.r1, fun k => (below_frozen h (p := ⟨j, k, none⟩) X.lt).trans (X.fr k)⟩
theorem xb_new {w W : World} (h : Below w.heap.size w W) (hl : w.heap.size + 1 < W.heap.size) : XB w (W.alloc (.cells #[.bool false, .slice none 0 0] 28)) W.heap.size :=
  ⟨h.trans (((Below.refl _ _).alloc (Nat.le_refl _) _).mono h.size), hl, by simp, by simp [go_sem], by simp [go_sem], fun k => by simp [go_sem]⟩
theorem XB.filled {w W : World} {j : Nat} (X : XB w W j) {z : Int} {A : Option Addr} {c : Nat} (R : Rd W W.heap.size A c (digs z.natAbs)) {W' : World} (hW : W' = (W.setCell ⟨j, 0, none⟩ (.bool (decide (z < 0)))).setCell ⟨j, 1, none⟩ (.slice A (digs z.natAbs).length c)) :
    Below w.heap.size w W' ∧ W'.cell? ⟨j, 0, none⟩ = some (.bool (decide (z < 0))) ∧ W'.cell? ⟨j, 1, none⟩ = some (.slice A (digs z.natAbs).length c) ∧ Rd W' W'.heap.size A c (digs z.natAbs) := by
  have hl := X.lo
  have hb1 := X.bel.setCell (show w.heap.size ≤ (⟨j, 0, none⟩ : Addr).block from by show w.heap.size ≤ j; omega) (.bool (decide (z < 0)))
  have hb2 := hb1.setCell (show w.heap.size ≤ (⟨j, 1, none⟩ : Addr).block from by show w.heap.size ≤ j; omega) (.slice A (digs z.natAbs).length c)
  have R1 := fv.Rd.stored (v := .bool (decide (z < 0))) R X.r0 (by intro k h; cases h)
  have r1 : (W.setCell ⟨j, 0, none⟩ (.bool (decide (z < 0)))).cell? ⟨j, 1, none⟩ = some (.slice none 0 0) := (World.cell?_setCell_other W _ _ _ (by intro h; cases h)).trans X.r1
  have R2 := fv.Rd.stored (v := .slice A (digs z.natAbs).length c) R1 r1 (by intro k h; cases h)
  rw [hW]
  refine ⟨hb2, ?_, ?_, by simpa using R2⟩
  · exact (World.cell?_setCell_other _ _ _ _ (by intro h; cases h)).trans (World.cell?_setCell_same W _ _ X.r0)
  · exact World.cell?_setCell_same _ _ _ ((World.cell?_setCell_other W _ _ _ (by intro h; cases h)).trans X.r1)
theorem held_put {w W : World} {x y : Int} {d e : Nat} {A B A' B' : Option Addr} {c k c' k' j : Nat} (F : FF w W w.heap.size x d A c B k y e A' c' B' k') (X : XB w W j) (v v' : Value) {W' : World} (hW : W' = (W.setCell ⟨j, 0, none⟩ v).setCell ⟨j, 1, none⟩ v') :
    W'.cell? ⟨w.heap.size, 0, none⟩ = some (.bool (decide (x < 0))) ∧ W'.cell? ⟨w.heap.size, 1, none⟩ = some (.slice A (digs x.natAbs).length c) ∧ W'.cell? ⟨w.heap.size, 2, none⟩ = some (.bool false) ∧ W'.cell? ⟨w.heap.size, 3, none⟩ = some (.slice B (digs d).length k) ∧
    W'.cell? ⟨w.heap.size + 1, 0, none⟩ = some (.bool (decide (y < 0))) ∧ W'.cell? ⟨w.heap.size + 1, 1, none⟩ = some (.slice A' (digs y.natAbs).length c') ∧ W'.cell? ⟨w.heap.size + 1, 2, none⟩ = some (.bool false) ∧ W'.cell? ⟨w.heap.size + 1, 3, none⟩ = some (.slice B' (digs e).length k') := by
  have hl := X.lo
  have key : ∀ b i, b ≤ w.heap.size + 1 → W'.cell? ⟨b, i, none⟩ = W.cell? ⟨b, i, none⟩ := by
    intro b i hb
    rw [hW]
    exact (World.cell?_setCell_other _ _ _ _ (by intro h; injection h with h; omega)).trans (World.cell?_setCell_other _ _ _ _ (by intro h; injection h with h; omega))
  obtain ⟨h0, h1, h2, h3, h4, h5, h6, h7⟩ := F.held
  exact ⟨(key _ _ (by omega)).trans h0, (key _ _ (by omega)).trans h1, (key _ _ (by omega)).trans h2, (key _ _ (by omega)).trans h3, (key _ _ (by omega)).trans h4, (key _ _ (by omega)).trans h5, (key _ _ (by omega)).trans h6, (key _ _ (by omega)).trans h7⟩
theorem FF.lo {w W : World} {x y : Int} {d e : Nat} {A B A' B' : Option Addr} {c k c' k' : Nat} (F : FF w W w.heap.size x d A c B k y e A' c' B' k') : w.heap.size + 1 < W.heap.size := F.b.lt

/-- the box, filled -/
structure FBx (w W : World) (j : Nat) (z : Int) (A : Option Addr) (c : Nat) : Prop where
  bel : Below w.heap.size w W
  c0 : W.cell? ⟨j, 0, none⟩ = some (.bool (decide (z < 0)))
  c1 : W.cell? ⟨j, 1, none⟩ = some (.slice A (digs z.natAbs).length c)
theorem fbx_put {w W : World} {j : Nat} {z : Int} {A : Option Addr} {c : Nat} (X : XB w W j) (R : Rd W W.heap.size A c (digs z.natAbs)) : FBx w ((W.setCell ⟨j, 0, none⟩ (.bool (decide (z < 0)))).setCell ⟨j, 1, none⟩ (.slice A (digs z.natAbs).length c)) j z A c :=
  ⟨(X.filled R rfl).1, (X.filled R rfl).2.1, (X.filled R rfl).2.2.1⟩
theorem fbx_new {w W : World} {z : Int} {A : Option Addr} {c : Nat} (h : Below w.heap.size w W) : FBx w (W.alloc (.cells #[.bool (decide (z < 0)), .slice A (digs z.natAbs).length c] 28)) W.heap.size z A c :=
  ⟨h.trans (((Below.refl _ _).alloc (Nat.le_refl _) _).mono h.size), by simp [go_sem], by simp [go_sem]⟩

set_option maxRecDepth 100000 in
set_option maxHeartbeats 4000000 in
theorem rcmpF_any (w : World) (a b : Value) (x y : Int) (d e : Nat) (ha : IsFrac w a x d) (hb : IsFrac w b y e) (lx : (digs x.natAbs).length ≤ 256) (ld : (digs d).length ≤ 256) (ly : (digs y.natAbs).length ≤ 256) (le : (digs e).length ≤ 256) (hd : d ≠ 0) (he : e ≠ 0) (ga : lowB x d = true) (gb : lowB y e = true) :
    Calls Tryz.prog 21 #[a, b] w fun r w' => r = .returned (.int .i64 (fw.order (x * e) (y * d))) ∧ Below w.heap.size w w' := by
  obtain ⟨A, c, B, k, rfl, RA, RB⟩ := ha
  obtain ⟨A', c', B', k', rfl, RA', RB'⟩ := hb
  go_enter Tryz.func21, Tryz.ntmps21
  have hF := ff_new RA RB RA' RB' 30
  obtain ⟨W, hW⟩ : ∃ W, W = ((w.alloc (.cells #[.bool (decide (x < 0)), .slice A (digs x.natAbs).length c, .bool false, .slice B (digs d).length k] 30)).alloc (.cells #[.bool (decide (y < 0)), .slice A' (digs y.natAbs).length c', .bool false, .slice B' (digs e).length k'] 30)) := ⟨_, rfl⟩
  rw [← hW] at hF
  have H := Lib.hid hF
  obtain ⟨c0, c1, c2, c3, _, _, _, _⟩ := hF.held
  clear hF RA RB RA' RB'
  go_upto_region 1 with fail
  rw [← hW]
  clear hW
  go_wp2_with fail
  refine (rvalid_any W _ x d H.out.a.frac lx ld hd).mono ?_
  rintro _ W1 ⟨rfl, hb1⟩
  rw [ga]
  have H1 := Lib.hid (H.out.after hb1)
  clear hb1 c0 c1 c2 c3 H
  obtain ⟨_, _, _, _, c0, c1, c2, c3⟩ := H1.out.held
  go_wp2_with fail
  refine (rvalid_any W1 _ y e H1.out.b.frac ly le he).mono ?_
  rintro _ W2 ⟨rfl, hb2⟩
  rw [gb]
  have H2 := Lib.hid (H1.out.after hb2)
  have H2d := Lib.hid (H1.out.after hb2).draw
  clear hb2 c0 c1 c2 c3 H1
  obtain ⟨a0, a1, a2, a3, b0, b1, b2, b3⟩ := H2.out.held
  go_upto_region 3 with fail
  have m1 : (digs (x * (e : Int)).natAbs).length ≤ 600 := Nat.le_trans (len_mul 256 256 lx (by rw [Int.natAbs_natCast]; exact le)) (by decide)
  have m2 : (digs (y * (d : Int)).natAbs).length ≤ 600 := Nat.le_trans (len_mul 256 256 ly (by rw [Int.natAbs_natCast]; exact ld)) (by decide)
  go_cut [5] (fun s5 wx => ∃ j A6 k6, s5 = .pointer (some ⟨j, 0, none⟩) ∧ Hid (FBx w wx j (x * e + -(y * d)) A6 k6))
  case first =>
    go_region_held3 (fun w' => w'.cell? ⟨w.heap.size, 0, none⟩ = some (.bool (decide (x < 0))) ∧ w'.cell? ⟨w.heap.size, 1, none⟩ = some (.slice A (digs x.natAbs).length c) ∧ w'.cell? ⟨w.heap.size, 2, none⟩ = some (.bool false) ∧ w'.cell? ⟨w.heap.size, 3, none⟩ = some (.slice B (digs d).length k) ∧
        w'.cell? ⟨w.heap.size + 1, 0, none⟩ = some (.bool (decide (y < 0))) ∧ w'.cell? ⟨w.heap.size + 1, 1, none⟩ = some (.slice A' (digs y.natAbs).length c') ∧ w'.cell? ⟨w.heap.size + 1, 2, none⟩ = some (.bool false) ∧ w'.cell? ⟨w.heap.size + 1, 3, none⟩ = some (.slice B' (digs e).length k'))
      (first | with_reducible exact H2d.out.held | with_reducible exact H3.out.1.held | with_reducible exact H4.out.1.held | with_reducible exact H5.out.1.held | with_reducible exact H6.out.1.held | with_reducible exact (FF.draw (FF.alloc H2.out _)).held | with_reducible exact (FF.alloc H3.out.1 _).held | with_reducible exact (FF.alloc H4.out.1 _).held | with_reducible exact (FF.alloc H5.out.1 _).held | with_reducible exact (FF.alloc H6.out.1 _).held | exact held_put H6.out.1 X6.out _ _ rfl | exact held_put (FF.alloc H6.out.1 _) (xb_new H6.out.1.bel (FF.lo H6.out.1)) _ _ rfl)
      (first
        | (go_at_call 46; refine (rplus_any 600 _ _ _ _ _ (by first | exact H5.out.2.1 | exact H5.out.2.1.below ((Below.refl _ _).alloc (Nat.le_refl _) _)) (by first | exact H5.out.2.2 | exact H5.out.2.2.below ((Below.refl _ _).alloc (Nat.le_refl _) _)) m1 (by rw [Int.natAbs_neg]; exact m2) (by omega)).mono ?_; rintro _ W6 ⟨_, rfl, ⟨A6, k6, rfl, R6⟩, hb6⟩
           first
             | (have H6 := Lib.hid (And.intro (H5.out.1.after hb6) R6); first | have X6 := Lib.hid (X5.out.after hb6) | skip)
             | (have H6 := Lib.hid (And.intro ((FF.alloc H5.out.1 _).after hb6) R6); have X6 := Lib.hid ((xb_new H5.out.1.bel (FF.lo H5.out.1)).after hb6))
           first | (have r0 := X6.out.r0; have r1 := X6.out.r1; have f0 := X6.out.fr 0; have f1 := X6.out.fr 1) | skip
           clear hb6 R6)
        | (go_at_call 49; refine (rminus_any _ _ _ (by first | exact H4.out.2.2 | exact H4.out.2.2.below ((Below.refl _ _).alloc (Nat.le_refl _) _)) (by omega)).mono ?_; rintro _ W5 ⟨v5, rfl, B5, hb5⟩
           first
             | (have H5 := Lib.hid (And.intro (H4.out.1.after hb5) (And.intro (H4.out.2.1.below hb5) B5)); first | have X5 := Lib.hid (X4.out.after hb5) | skip)
             | (have H5 := Lib.hid (And.intro ((FF.alloc H4.out.1 _).after hb5) (And.intro ((H4.out.2.1.below ((Below.refl _ _).alloc (Nat.le_refl _) _)).below hb5) B5)); have X5 := Lib.hid ((xb_new H4.out.1.bel (FF.lo H4.out.1)).after hb5))
           clear hb5 B5)
        | (have H := H3; go_at_call 9; refine (rtimes_any 256 _ _ _ _ _ (by first | exact H3.out.1.b.num | exact (FF.alloc H3.out.1 _).b.num) (by first | exact H3.out.1.a.den | exact (FF.alloc H3.out.1 _).a.den) ly (by rw [Int.natAbs_natCast]; exact ld) (by omega)).mono ?_; rintro _ W4 ⟨v4, rfl, B4, hb4⟩
           first
             | (have H4 := Lib.hid (And.intro (H3.out.1.after hb4) (And.intro (H3.out.2.below hb4) B4)); first | have X4 := Lib.hid (X3.out.after hb4) | skip)
             | (have H4 := Lib.hid (And.intro ((FF.alloc H3.out.1 _).after hb4) (And.intro ((H3.out.2.below ((Below.refl _ _).alloc (Nat.le_refl _) _)).below hb4) B4)); have X4 := Lib.hid ((xb_new H3.out.1.bel (FF.lo H3.out.1)).after hb4))
           clear hb4 B4 H)
        | (go_at_call 9; refine (rtimes_any 256 _ _ _ _ _ (by first | exact H2d.out.a.num | exact (FF.draw (FF.alloc H2.out _)).a.num) (by first | exact H2d.out.b.den | exact (FF.draw (FF.alloc H2.out _)).b.den) lx (by rw [Int.natAbs_natCast]; exact le) (by omega)).mono ?_; rintro _ W3 ⟨v3, rfl, B3, hb3⟩
           first
             | (have H3 := Lib.hid (And.intro (H2d.out.after hb3) B3); skip)
             | (have H3 := Lib.hid (And.intro ((FF.draw (FF.alloc H2.out _)).after hb3) B3); have X3 := Lib.hid (XB.after (XB.after (xb_new H2.out.bel (FF.lo H2.out)) (Below.refl _ _).drew) hb3))
           clear hb3 B3))
    all_goals (go_wp2_with fail)
    all_goals go_meet
    all_goals exact ⟨_, A6, k6, rfl, Lib.hid (by first | exact fbx_new H6.out.1.bel | exact fbx_put X6.out H6.out.2)⟩
  case rest =>
  obtain ⟨j, A6, k6, rfl, HX⟩ := hcut
  have x0 := HX.out.c0
  have x1 := HX.out.c1
  have HB := Lib.hid HX.out.bel
  clear HX H2 H2d a0 a1 a2 a3 b0 b1 b2 b3 m1 m2
  have ho : fw.order (x * e) (y * d) = if x * e + -(y * d) < 0 then -1 else if x * e + -(y * d) = 0 then 0 else 1 := by
    unfold fw.order
    split
    · rw [if_pos (by omega)]
    · split
      · rw [if_neg (by omega), if_neg (by omega)]
      · rw [if_neg (by omega), if_pos (by omega)]
  have hz := @digs_len_zero (x * e + -(y * d)).natAbs
  generalize x * (e : Int) + -(y * d) = P at *
  have HO := Lib.hid ho
  clear ho
  by_cases hp : P = 0
  · have e0 : (((digs P.natAbs).length : Int) == 0) = true := by rw [hp]; rfl
    have HP := Lib.hid hp
    clear hz hp
    go_wp2_with fail
    go_ret
    exact ⟨by rw [HO.out, HP.out]; rfl, HB.out⟩
  · have e0 : (((digs P.natAbs).length : Int) == 0) = false := beq_eq_false_iff_ne.2 (by omega)
    clear hz
    by_cases hn : P < 0
    · go_wp2_with fail
      go_ret
      exact ⟨by rw [HO.out, if_pos hn]; rfl, HB.out⟩
    · go_wp2_with fail
      go_ret
      exact ⟨by rw [HO.out, if_neg (by omega), if_neg hp]; rfl, HB.out⟩
end Go.Proofs.YtbeidpeoichakaaGreatDoor.sb

/- The reference: Text of fractions. -/
set_option linter.unusedSimpArgs false
set_option linter.unusedVariables false
namespace Go.Proofs.YtbeidpeoichakaaGreatDoor.sc
open Go.RowKit Go.Proofs.YtbeidpeoichakaaGreatDoor.fm Go.Proofs.YtbeidpeoichakaaGreatDoor.mem Go.Proofs.YtbeidpeoichakaaGreatDoor.fa Go.Proofs.YtbeidpeoichakaaGreatDoor.fb Go.Proofs.YtbeidpeoichakaaGreatDoor.fu Go.Proofs.YtbeidpeoichakaaGreatDoor.fv Go.Proofs.YtbeidpeoichakaaGreatDoor.fw Go.Proofs.YtbeidpeoichakaaGreatDoor.fy Go.Proofs.YtbeidpeoichakaaGreatDoor.ga Go.Proofs.YtbeidpeoichakaaGreatDoor.gb Go.Proofs.YtbeidpeoichakaaGreatDoor.gg Go.Proofs.YtbeidpeoichakaaGreatDoor.ja Go.Proofs.YtbeidpeoichakaaGreatDoor.jb Go.Proofs.YtbeidpeoichakaaGreatDoor.jg Go.Proofs.YtbeidpeoichakaaGreatDoor.jh Go.Proofs.YtbeidpeoichakaaGreatDoor.pa Go.Proofs.YtbeidpeoichakaaGreatDoor.pb Go.Proofs.YtbeidpeoichakaaGreatDoor.pc Go.Proofs.YtbeidpeoichakaaGreatDoor.nb Go.Proofs.YtbeidpeoichakaaGreatDoor.hc Go.Proofs.YtbeidpeoichakaaGreatDoor.hd Go.Proofs.YtbeidpeoichakaaGreatDoor.re Go.Proofs.YtbeidpeoichakaaGreatDoor.sa

theorem lowB_good {n : Nat} {z : Int} {d : Nat} (G : nb.Good n z d) : lowB z d = true := by
  unfold lowB
  rw [G.low]
  rfl

set_option maxRecDepth 100000 in
set_option maxHeartbeats 4000000 in
theorem rtext_any (w : World) (a : Value) (z : Int) (d n : Nat) (ha : IsFrac w a z d) (G : nb.Good n z d) (hn : n ≤ 256) :
    Calls Tryz.prog 25 #[a] w fun e w' => e = .returned (.string (ba (textOf z d))) ∧ Below w.heap.size w w' := by
  have hl : (digs z.natAbs).length ≤ 256 := Nat.le_trans G.hz hn
  have hl' : (digs d).length ≤ 256 := Nat.le_trans G.hd hn
  have HG := Lib.hid (And.intro (lowB_good G) G.d0)
  clear G hn
  obtain ⟨A, c, A', c', rfl, R, R'⟩ := ha
  go_enter Tryz.func25, Tryz.ntmps25
  have hF := sa.fat_new R R' 30
  have hB : Below w.heap.size w (w.alloc (.cells #[.bool (decide (z < 0)), .slice A (digs z.natAbs).length c, .bool false, .slice A' (digs d).length c'] 30)) := (Below.refl _ _).alloc (Nat.le_refl _) _
  obtain ⟨W, hW⟩ : ∃ W, W = w.alloc (.cells #[.bool (decide (z < 0)), .slice A (digs z.natAbs).length c, .bool false, .slice A' (digs d).length c'] 30) := ⟨_, rfl⟩
  rw [← hW] at hF hB
  have H := Lib.hid (And.intro hB hF)
  have c0 := hF.c0
  have c1 := hF.c1
  have c2 := hF.c2
  have c3 := hF.c3
  clear hF hB R R'
  go_upto_region 1 with fail
  rw [← hW]
  clear hW
  go_wp2_with fail
  refine (rvalid_any W _ z d H.out.2.frac hl hl' HG.out.2).mono ?_
  rintro _ W1 ⟨rfl, hb1⟩
  rw [HG.out.1]
  have H1 := Lib.hid (And.intro (H.out.1.trans (hb1.mono H.out.1.size)) (H.out.2.after hb1))
  clear hb1 c0 c1 c2 c3 H
  have c3 := H1.out.2.c3
  go_wp2_with fail
  have ho := one_new W1 59
  have hb3 : Below W1.heap.size W1 (W1.alloc (.cells #[.int .u32 1] 59)) := (Below.refl _ _).alloc (Nat.le_refl _) _
  obtain ⟨W2, hW2⟩ : ∃ W2, W2 = W1.alloc (.cells #[.int .u32 1] 59) := ⟨_, rfl⟩
  rw [← hW2] at ho hb3 ⊢
  refine (rcmp_any W2 _ A' _ c' 1 d 1 (H1.out.2.after hb3).R' ho (by omega) (by decide)).mono ?_
  rintro _ _ ⟨rfl, k, rfl⟩
  have hc1 := cmp_one d
  have hb4 : Below W2.heap.size W2 (W2.drewN k) := below_drewN (Below.refl _ _) k
  obtain ⟨W3, hW3⟩ : ∃ W3, W3 = W2.drewN k := ⟨_, rfl⟩
  rw [← hW3] at hb4 ⊢
  have hb5 := hb3.trans (hb4.mono hb3.size)
  have H3 := Lib.hid (And.intro (H1.out.1.trans (hb5.mono H1.out.1.size)) (H1.out.2.after hb5))
  clear hb3 hb4 hb5 hW3 hW2 ho c3 H1
  obtain ⟨q, hq⟩ : ∃ q, q = fb.cmp d 1 := ⟨_, rfl⟩
  rw [← hq] at hc1 ⊢
  clear hq
  have c0 := H3.out.2.c0
  have c1 := H3.out.2.c1
  have c2 := H3.out.2.c2
  have c3 := H3.out.2.c3
  by_cases hd1 : d = 1
  · rw [hd1] at hc1
    have hc2 : (q == 0) = true := hc1
    have HD := Lib.hid hd1
    clear hc1 hd1
    go_wp2_with fail
    refine (rtextBig_any W3 _ z H3.out.2.num hl).mono ?_
    rintro _ W4 ⟨rfl, hb4⟩
    have HB := Lib.hid (H3.out.1.trans (hb4.mono H3.out.1.size))
    clear hb4 H3 c0 c1 c2 c3
    go_wp2_with fail
    go_ret
    refine ⟨?_, HB.out⟩
    unfold textOf
    rw [if_pos HD.out]
    rfl
  · have hc2 : (q == 0) = false := by rw [hc1]; exact beq_eq_false_iff_ne.2 hd1
    have HD := Lib.hid hd1
    have H3d := Lib.hid (And.intro H3.out.1.drew (H3.out.2.after (Below.refl _ _).drew))
    clear hc1 hd1
    go_upto_region 5 with fail
    go_region_held3 (fun w' => w'.cell? ⟨w.heap.size, 0, none⟩ = some (.bool (decide (z < 0))) ∧ w'.cell? ⟨w.heap.size, 1, none⟩ = some (.slice A (digs z.natAbs).length c) ∧ w'.cell? ⟨w.heap.size, 2, none⟩ = some (.bool false) ∧ w'.cell? ⟨w.heap.size, 3, none⟩ = some (.slice A' (digs d).length c'))
      (first | with_reducible exact H3d.out.2.held | with_reducible exact H4.out.2.held | with_reducible exact H5.out.2.held)
      (first
        | (have H := H4; go_at_call 56; refine (rtextBig_any W4 _ d H4.out.2.den (by rw [Int.natAbs_natCast]; exact hl')).mono ?_; rintro _ W5 ⟨rfl, hb5⟩
           obtain ⟨s3, hs3⟩ : ∃ s, s = ba (Lib.itoa d) := ⟨_, rfl⟩
           have hz3 : s3.size ≤ 2561 := by rw [hs3, ba_size]; exact itoa_len (by rw [Int.natAbs_natCast]; exact hl')
           have hz3n : ¬ 9223372036854775807 < s2.size + 1 + s3.size := by omega
           rw [← hs3]
           have HS3 := Lib.hid hs3
           have H5 := Lib.hid (And.intro (H4.out.1.trans (hb5.mono H4.out.1.size)) (H4.out.2.after hb5))
           clear hb5 hs3 H)
        | (go_at_call 56; refine (rtextBig_any W3.drew _ z H3d.out.2.num hl).mono ?_; rintro _ W4 ⟨rfl, hb4⟩
           obtain ⟨s2, hs2⟩ : ∃ s, s = ba (Lib.itoa z) := ⟨_, rfl⟩
           have hz2 : s2.size ≤ 2561 := by rw [hs2, ba_size]; exact itoa_len hl
           have hz2n : ¬ 9223372036854775807 < s2.size + 1 := by omega
           rw [← hs2]
           have HS2 := Lib.hid hs2
           have H4 := Lib.hid (And.intro (H3d.out.1.trans (hb4.mono H3d.out.1.size)) (H3d.out.2.after hb4))
           clear hb4 hs2))
    rename_i hHeld
    have HB := Lib.hid H5.out.1
    clear hHeld c0 c1 c2 c3 H3 H3d H4 H5
    go_wp2_with fail
    go_ret
    refine ⟨?_, HB.out⟩
    unfold textOf
    rw [if_neg HD.out]
    show Ending.returned (Value.string ((s2 ++ ⟨#[47]⟩) ++ s3)) = _
    rw [HS2.out, HS3.out, itoa_nat, show (⟨#[47]⟩ : ByteArray) = ba [47] from rfl, ba_append, ba_append]
    simp
end Go.Proofs.YtbeidpeoichakaaGreatDoor.sc
