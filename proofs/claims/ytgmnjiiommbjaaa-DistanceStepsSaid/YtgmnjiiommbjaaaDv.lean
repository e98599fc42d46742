/- DistanceRules: similarity is symmetric and holds of every text itself; a weaker rule makes more texts similar; similar texts have the lengths that are told. -/
import Derived.Test.YtgmnjiiommbjaaaDu
import Derived.Test.YtgmnjiiommbjaaaDr
import Derived.Deep.Cut
import Derived.Deep.DeepCutAuto
import Derived.Deep.RegionHeld3
import Derived.Deep.CutBlock
set_option linter.unusedVariables false
set_option linter.unusedSimpArgs false
namespace Go.Proofs.Ytgmnjiiommbjaaa.dist
open Go.RowKit Go.Proofs.Ytgmnjiiommbjaaa.txt Go.Proofs.Ytgmnjiiommbjaaa.tx Go.Proofs.Ytgmnjiiommbjaaa.mill Go.Proofs.Ytgmnjiiommbjaaa.lev Go.Proofs.Ytgmnjiiommbjaaa.fold Go.Proofs.Ytgmnjiiommbjaaa.pat

/-- a rule in a box of its own -/
structure RuleC (w : World) (r : Nat) (a b c d : Int) : Prop where
  c0 : w.cell? ⟨r, 0, none⟩ = some (.int .i64 a)
  c1 : w.cell? ⟨r, 1, none⟩ = some (.int .i64 b)
  c2 : w.cell? ⟨r, 2, none⟩ = some (.int .i64 c)
  c3 : w.cell? ⟨r, 3, none⟩ = some (.int .i64 d)
  f0 : w.frozen? ⟨r, 0, none⟩ = false
  f1 : w.frozen? ⟨r, 1, none⟩ = false
  f2 : w.frozen? ⟨r, 2, none⟩ = false
  f3 : w.frozen? ⟨r, 3, none⟩ = false
  lt : r < w.heap.size
theorem RuleC.block {w w' : World} {r : Nat} {a b c d : Int} (h : RuleC w r a b c d) (hb : w'.heap[r]? = w.heap[r]?) (hs : w.heap.size ≤ w'.heap.size) : RuleC w' r a b c d :=
  ⟨(World.cell?_of_block (a := ⟨r, 0, none⟩) hb).trans h.c0, (World.cell?_of_block (a := ⟨r, 1, none⟩) hb).trans h.c1, (World.cell?_of_block (a := ⟨r, 2, none⟩) hb).trans h.c2, (World.cell?_of_block (a := ⟨r, 3, none⟩) hb).trans h.c3,
   (World.frozen?_of_block (a := ⟨r, 0, none⟩) hb).trans h.f0, (World.frozen?_of_block (a := ⟨r, 1, none⟩) hb).trans h.f1, (World.frozen?_of_block (a := ⟨r, 2, none⟩) hb).trans h.f2, (World.frozen?_of_block (a := ⟨r, 3, none⟩) hb).trans h.f3, Nat.lt_of_lt_of_le h.lt hs⟩
theorem RuleC.after {w w' : World} {r : Nat} {a b c d : Int} (h : RuleC w r a b c d) (hb : Below w.heap.size w w') : RuleC w' r a b c d := h.block (hb.block r h.lt) hb.size
theorem RuleC.held {w : World} {r : Nat} {a b c d : Int} (h : RuleC w r a b c d) : w.cell? ⟨r, 0, none⟩ = some (.int .i64 a) ∧ w.cell? ⟨r, 1, none⟩ = some (.int .i64 b) ∧ w.cell? ⟨r, 2, none⟩ = some (.int .i64 c) ∧ w.cell? ⟨r, 3, none⟩ = some (.int .i64 d) := ⟨h.c0, h.c1, h.c2, h.c3⟩

/-- what is carried along -/
structure Carr (w : World) (r : Nat) (a b c d : Int) (wx : World) : Prop where
  bel : Below w.heap.size w wx
  rule : RuleC wx r a b c d
theorem Carr.after {w wx wy : World} {r : Nat} {a b c d : Int} (h : Carr w r a b c d wx) (hb : Below wx.heap.size wx wy) : Carr w r a b c d wy := ⟨h.bel.trans (hb.mono h.bel.size), h.rule.after hb⟩

theorem Carr.low {w wx wy : World} {r B : Nat} {a b c d : Int} (h : Carr w r a b c d wx) (hb : Below B wx wy) (h1 : w.heap.size ≤ B) (h2 : r < B) : Carr w r a b c d wy := ⟨h.bel.trans (hb.mono h1), h.rule.block (hb.block r h2) hb.size⟩
theorem RuleC.set0 {w : World} {r : Nat} {a b c d : Int} (h : RuleC w r a b c d) (x : Int) : RuleC (w.setCell ⟨r, 0, none⟩ (.int .i64 x)) r x b c d := by
  obtain ⟨h0, h1, h2, h3, f0, f1, f2, f3, hl⟩ := h
  refine ⟨World.cell?_setCell_same _ _ _ h0, ?_, ?_, ?_, ?_, ?_, ?_, ?_, by simpa using hl⟩
  · exact (World.cell?_setCell_other _ _ _ _ (by intro h; injection h with _ h; omega)).trans h1
  · exact (World.cell?_setCell_other _ _ _ _ (by intro h; injection h with _ h; omega)).trans h2
  · exact (World.cell?_setCell_other _ _ _ _ (by intro h; injection h with _ h; omega)).trans h3
  all_goals rw [World.frozen?_setCell]; assumption
theorem RuleC.set1 {w : World} {r : Nat} {a b c d : Int} (h : RuleC w r a b c d) (x : Int) : RuleC (w.setCell ⟨r, 1, none⟩ (.int .i64 x)) r a x c d := by
  obtain ⟨h0, h1, h2, h3, f0, f1, f2, f3, hl⟩ := h
  refine ⟨?_, World.cell?_setCell_same _ _ _ h1, ?_, ?_, ?_, ?_, ?_, ?_, by simpa using hl⟩
  · exact (World.cell?_setCell_other _ _ _ _ (by intro h; injection h with _ h; omega)).trans h0
  · exact (World.cell?_setCell_other _ _ _ _ (by intro h; injection h with _ h; omega)).trans h2
  · exact (World.cell?_setCell_other _ _ _ _ (by intro h; injection h with _ h; omega)).trans h3
  all_goals rw [World.frozen?_setCell]; assumption
theorem RuleC.set2 {w : World} {r : Nat} {a b c d : Int} (h : RuleC w r a b c d) (x : Int) : RuleC (w.setCell ⟨r, 2, none⟩ (.int .i64 x)) r a b x d := by
  obtain ⟨h0, h1, h2, h3, f0, f1, f2, f3, hl⟩ := h
  refine ⟨?_, ?_, World.cell?_setCell_same _ _ _ h2, ?_, ?_, ?_, ?_, ?_, by simpa using hl⟩
  · exact (World.cell?_setCell_other _ _ _ _ (by intro h; injection h with _ h; omega)).trans h0
  · exact (World.cell?_setCell_other _ _ _ _ (by intro h; injection h with _ h; omega)).trans h1
  · exact (World.cell?_setCell_other _ _ _ _ (by intro h; injection h with _ h; omega)).trans h3
  all_goals rw [World.frozen?_setCell]; assumption
theorem RuleC.set3 {w : World} {r : Nat} {a b c d : Int} (h : RuleC w r a b c d) (x : Int) : RuleC (w.setCell ⟨r, 3, none⟩ (.int .i64 x)) r a b c x := by
  obtain ⟨h0, h1, h2, h3, f0, f1, f2, f3, hl⟩ := h
  refine ⟨?_, ?_, ?_, World.cell?_setCell_same _ _ _ h3, ?_, ?_, ?_, ?_, by simpa using hl⟩
  · exact (World.cell?_setCell_other _ _ _ _ (by intro h; injection h with _ h; omega)).trans h0
  · exact (World.cell?_setCell_other _ _ _ _ (by intro h; injection h with _ h; omega)).trans h1
  · exact (World.cell?_setCell_other _ _ _ _ (by intro h; injection h with _ h; omega)).trans h2
  all_goals rw [World.frozen?_setCell]; assumption
theorem below_set {B : Nat} {w w' : World} (h : Below B w w') (j : Nat) (v : Value) : Below B w (w'.setCell ⟨B, j, none⟩ v) := h.setCell (p := ⟨B, j, none⟩) (Nat.le_refl _) v
/-- the weaker rule -/
def Weak (w : World) (r : Nat) (a b : List UInt8) (s : Bool) : Prop := ∃ wa wb wc wd, RuleC w r wa wb wc wd ∧ (s = true → simV wa wb wc wd a b = true)

theorem size_kept {g : Nat} {w w' : World} (K : Kept g w w') : w.heap.size ≤ w'.heap.size := K.bel.size

set_option maxRecDepth 100000 in
set_option maxHeartbeats 4000000 in
theorem rules_law (w : World) (A : Option Addr) (c : Nat) (l : List Nat) (S : Seeds w w.heap.size A c l) (hl : l.length ≤ maxLen) :
    Calls Try.prog 6 #[.slice A l.length c] w fun e w' => e = .returned (.bool true) ∧ Below w.heap.size w w' := by
  go_enter Try.func6, Try.ntmps6
  have HS := Lib.hid S
  clear S
  go_wp2_with fail
  refine (sane_any w).mono ?_
  rintro _ w1 ⟨rfl, b1⟩
  have s1 := b1.size
  go_wp2_with fail
  refine (new_any w1 A c l ((HS.out.below b1).more s1) hl).mono ?_
  rintro _ w2 ⟨rfl, D2, b2⟩
  have HB := Lib.hid (b1.trans (b2.mono s1))
  clear b1 b2
  go_wp2_with fail
  refine (rule_any w2 w1.heap.size _ 0 D2).mono ?_
  rintro _ w3 ⟨ra, rb, rc, rd, k3, rfl, hR, D3, K3⟩
  have HB3 := Lib.hid (HB.out.trans (K3.bel.mono s1))
  have hg3 := D3.lt
  have hz3 := HB3.out.size
  clear D2 K3
  go_wp2_with fail
  have hb4 : Below w3.heap.size w3 (w3.alloc (.cells #[.int .i64 ra, .int .i64 rb, .int .i64 rc, .int .i64 rd] 24)) := (Below.refl _ w3).alloc (Nat.le_refl _) _
  have hR4 : RuleC (w3.alloc (.cells #[.int .i64 ra, .int .i64 rb, .int .i64 rc, .int .i64 rd] 24)) w3.heap.size ra rb rc rd := by
    refine ⟨?_, ?_, ?_, ?_, ?_, ?_, ?_, ?_, ?_⟩ <;> simp [go_sem]
  obtain ⟨w4, hw4⟩ : ∃ w4, w4 = w3.alloc (.cells #[.int .i64 ra, .int .i64 rb, .int .i64 rc, .int .i64 rd] 24) := ⟨_, rfl⟩
  rw [← hw4] at hb4 hR4 ⊢
  clear hw4
  obtain ⟨R, hRr⟩ : ∃ R, R = w3.heap.size := ⟨_, rfl⟩
  rw [← hRr] at hR4 hb4 hg3 hz3 ⊢
  have D4 := D3.high hb4 hg3
  have HC4 : Hid (Carr w R ra rb rc rd w4) := Lib.hid ⟨HB3.out.trans (hb4.mono hz3), hR4⟩
  have hRw4 := hR4.lt
  clear D3 hb4 hRr hR4
  refine (word16_any w4 w1.heap.size _ k3 D4).mono ?_
  rintro _ w5 ⟨a, k5, rfl, ga, la, D5, K5⟩
  have hz5 := K5.bel.size
  have HC5 : Hid (Carr w R ra rb rc rd w5) := Lib.hid ⟨HC4.out.bel.trans (K5.bel.mono s1), HC4.out.rule.block (K5.other R hRw4 (by omega)) (size_kept K5)⟩
  have hRw5 := HC5.out.rule.lt
  clear D4 K5
  go_wp2_with fail
  refine (word16_any w5 w1.heap.size _ k5 D5).mono ?_
  rintro _ w6 ⟨b, k6, rfl, gb, lb, D6, K6⟩
  have HC6 : Hid (Carr w R ra rb rc rd w6) := Lib.hid ⟨HC5.out.bel.trans (K6.bel.mono s1), HC5.out.rule.block (K6.other R hRw5 (by omega)) (size_kept K6)⟩
  clear D5 D6 K6 HC4 HC5
  have hsy := simV_symm ra rb rc rd a b
  have hse := simV_self hR.out.ok a
  obtain ⟨S1, hS1⟩ : ∃ S1, S1 = simV ra rb rc rd a b := ⟨_, rfl⟩
  rw [← hS1] at hsy
  have HY := Lib.hid (And.intro hsy (And.intro hse hS1))
  clear hsy hse hS1
  have c0 := HC6.out.rule.c0
  have c1 := HC6.out.rule.c1
  have c2 := HC6.out.rule.c2
  have c3 := HC6.out.rule.c3
  have HC6d : Hid (Carr w R ra rb rc rd w6.drew) := Lib.hid ⟨HC6.out.bel.drew, HC6.out.rule.block rfl (Nat.le_refl _)⟩
  have hq : (S1 != S1) = false := by simp
  go_wp2_with fail
  go_region_held3 (fun w' => w'.cell? ⟨R, 0, none⟩ = some (.int .i64 ra) ∧ w'.cell? ⟨R, 1, none⟩ = some (.int .i64 rb) ∧ w'.cell? ⟨R, 2, none⟩ = some (.int .i64 rc) ∧ w'.cell? ⟨R, 3, none⟩ = some (.int .i64 rd))
    (first | with_reducible exact HC6d.out.rule.held | with_reducible exact HC7.out.rule.held | with_reducible exact HC8.out.rule.held | with_reducible exact HC9.out.rule.held)
    (first
      | (have H := HC8; go_at_call 21; refine (similar_any ra rb rc rd a a w8 (by omega) (by omega)).mono ?_; rintro _ w9 ⟨rfl, b9⟩
         rw [HY.out.2.1]
         have HC9 := Lib.hid (HC8.out.after b9)
         clear b9 H)
      | (have H := HC7; go_at_call 21; refine (similar_any ra rb rc rd b a w7 (by omega) (by omega)).mono ?_; rintro _ w8 ⟨rfl, b8⟩
         rw [← HY.out.1]
         have HC8 := Lib.hid (HC7.out.after b8)
         clear b8 H)
      | (go_at_call 21; refine (similar_any ra rb rc rd a b w6.drew (by omega) (by omega)).mono ?_; rintro _ w7 ⟨rfl, b7⟩
         rw [← HY.out.2.2]
         have HC7 := Lib.hid (HC6d.out.after b7)
         clear b7))
  have d0 := HC9.out.rule.c0
  have d1 := HC9.out.rule.c1
  have d2 := HC9.out.rule.c2
  have d3 := HC9.out.rule.c3
  have hz9 := HC9.out.bel.size
  have hR9 := HC9.out.rule.lt
  rename_i hHeld
  clear hHeld c0 c1 c2 c3 HC6 HC6d HC7 HC8 hRw4 hRw5 hz5 HB HS
  go_upto_block 0 with fail
  have hb10 : Below w9.heap.size w9 (w9.alloc (.cells #[.int .i64 ra, .int .i64 rb, .int .i64 rc, .int .i64 rd] 24)) := (Below.refl _ w9).alloc (Nat.le_refl _) _
  have hR10 : RuleC (w9.alloc (.cells #[.int .i64 ra, .int .i64 rb, .int .i64 rc, .int .i64 rd] 24)) w9.heap.size ra rb rc rd := by
    refine ⟨?_, ?_, ?_, ?_, ?_, ?_, ?_, ?_, ?_⟩ <;> simp [go_sem]
  obtain ⟨w10, hw10⟩ : ∃ w10, w10 = w9.alloc (.cells #[.int .i64 ra, .int .i64 rb, .int .i64 rc, .int .i64 rd] 24) := ⟨_, rfl⟩
  rw [← hw10] at hb10 hR10 ⊢
  clear hw10
  have HC10 := Lib.hid (HC9.out.low hb10 hz9 hR9)
  obtain ⟨R2, hR2⟩ : ∃ R2, R2 = w9.heap.size := ⟨_, rfl⟩
  rw [← hR2] at hR10 hz9 hR9 ⊢
  have H10 := Lib.hid hR10
  clear hb10 hR10 hR2 HC9 d0 d1 d2 d3
  go_cut [7] (fun s7 wx => s7 = .pointer (some ⟨R2, 0, none⟩) ∧ Hid (Weak wx R2 a b S1 ∧ Carr w R ra rb rc rd wx))
  case first =>
    have d0 := H10.out.c0
    have d1 := H10.out.c1
    have d2 := H10.out.c2
    have d3 := H10.out.c3
    have f0 := H10.out.f0
    have f1 := H10.out.f1
    have f2 := H10.out.f2
    have f3 := H10.out.f3
    have HE := Lib.hid (HC10.out)
    have g2 := HC10.out.rule.c2
    rcases hR.out with ⟨rfl, rfl, rfl, rfl⟩ | ⟨rfl, rfl, rfl, hl0, hl3⟩ | ⟨rfl, rfl, h1, h2, h3⟩
    · go_wp2_with fail
      go_meet
      have hb := below_set (below_set (below_set (below_set (Below.refl R2 w10) 0 (.int .i64 2)) 1 (.int .i64 1)) 2 (.int .i64 0)) 3 (.int .i64 0)
      exact ⟨rfl, Lib.hid ⟨⟨2, 1, 0, 0, (((H10.out.set0 2).set1 1).set2 0).set3 0, fun h => weak_one a b (by rw [← HY.out.2.2]; exact h)⟩, HE.out.low hb hz9 hR9⟩⟩
    · have e1 : IntKind.i64.wrap (rb + 1) = rb + 1 := IntWalk.i64_in _ (by omega)
      go_wp2_with fail
      go_meet
      have hb := below_set (Below.refl R2 w10) 1 (.int .i64 (rb + 1))
      exact ⟨rfl, Lib.hid ⟨⟨2, rb + 1, 0, 0, H10.out.set1 (rb + 1), fun h => weak_two rb hl0 hl3 a b (by rw [← HY.out.2.2]; exact h)⟩, HE.out.low hb hz9 hR9⟩⟩
    · have e1 : IntKind.i64.wrap (rc - 1) = rc - 1 := IntWalk.i64_in _ (by omega)
      go_wp2_with fail
      go_meet
      have hb := below_set (Below.refl R2 w10) 2 (.int .i64 (max 1 (rc - 1)))
      exact ⟨rfl, Lib.hid ⟨⟨3, 0, max 1 (rc - 1), rd, H10.out.set2 (max 1 (rc - 1)), fun h => weak_three rc rd (max 1 (rc - 1)) h1 h2 h3 (by omega) (by omega) a b (by rw [← HY.out.2.2]; exact h)⟩, HE.out.low hb hz9 hR9⟩⟩
  case rest =>
    obtain ⟨rfl, HX⟩ := hcut
    clear H10 HC10
    obtain ⟨⟨wa, wb, wc', wd, hWk, hWs⟩, hCr⟩ := HX.out
    have HK := Lib.hid (And.intro hWk (And.intro hWs hCr))
    have hzc := hCr.bel.size
    have HCc := Lib.hid hCr
    clear hWk hWs hCr HX
    go_upto_region 15 with fail
    go_cut [65] (fun s65 wx => s65 = .bool false ∧ Hid (Carr w R ra rb rc rd wx))
    case first =>
      have c0 := HCc.out.rule.c0
      have c1 := HCc.out.rule.c1
      have c2 := HCc.out.rule.c2
      have c3 := HCc.out.rule.c3
      go_wp2_with fail
      refine (similar_any ra rb rc rd a b wc (by omega) (by omega)).mono ?_
      rintro _ w11 ⟨rfl, b11⟩
      rw [← HY.out.2.2]
      have HC11 := Lib.hid (HCc.out.after b11)
      have hW11 := HK.out.1.after b11
      have e0 := hW11.c0
      have e1 := hW11.c1
      have e2 := hW11.c2
      have e3 := hW11.c3
      clear b11 hW11 c0 c1 c2 c3
      cases S1
      · go_wp2_with fail
        go_meet
        exact ⟨rfl, HC11⟩
      · have hw := HK.out.2.1 rfl
        have HWW := Lib.hid hw
        clear hw
        go_wp2_with fail
        refine (similar_any wa wb wc' wd a b w11 (by omega) (by omega)).mono ?_
        rintro _ w12 ⟨rfl, b12⟩
        rw [HWW.out]
        have HC12 := Lib.hid (HC11.out.after b12)
        clear b12
        go_wp2_with fail
        go_meet
        exact ⟨rfl, HC12⟩
    case rest =>
      obtain ⟨rfl, HCx⟩ := hcut
      clear HCc HK
      have c0 := HCx.out.rule.c0
      have c1 := HCx.out.rule.c1
      have c2 := HCx.out.rule.c2
      have c3 := HCx.out.rule.c3
      have HCd : Hid (Carr w R ra rb rc rd wc.drew) := Lib.hid ⟨HCx.out.bel.drew, HCx.out.rule.block rfl (Nat.le_refl _)⟩
      have hpa := P_len a
      have hpb := P_len b
      obtain ⟨N, hN⟩ : ∃ N, N = (P a).length := ⟨_, rfl⟩
      obtain ⟨M, hM⟩ : ∃ M, M = (P b).length := ⟨_, rfl⟩
      rw [← hN] at hpa
      rw [← hM] at hpb
      have HNM := Lib.hid (And.intro hN hM)
      clear hN hM
      go_wp2_with fail
      go_region_held3 (fun w' => w'.cell? ⟨R, 0, none⟩ = some (.int .i64 ra) ∧ w'.cell? ⟨R, 1, none⟩ = some (.int .i64 rb) ∧ w'.cell? ⟨R, 2, none⟩ = some (.int .i64 rc) ∧ w'.cell? ⟨R, 3, none⟩ = some (.int .i64 rd))
        (first | with_reducible exact HCd.out.rule.held | with_reducible exact HC13.out.rule.held | with_reducible exact HC14.out.rule.held)
        (first
          | (have H := HC13; go_at_call 23; refine (lengths_any ra rb rc rd N w13 hR.out (by omega)).mono ?_; rintro _ w14 ⟨⟨lo, hi, ok, rfl, hlo⟩, b14⟩
             have HC14 := Lib.hid (HC13.out.after b14)
             clear b14 H)
          | (go_at_call 30; refine (refPointsL a wc.drew (by omega)).mono ?_; rintro _ w13 ⟨a13, c13, rfl, b13⟩
             rw [← HNM.out.1]
             have HC13 := Lib.hid (HCd.out.after b13)
             clear b13))
      have d0 := HC14.out.rule.c0
      have d1 := HC14.out.rule.c1
      have d2 := HC14.out.rule.c2
      have d3 := HC14.out.rule.c3
      rename_i hHeld
      clear hHeld c0 c1 c2 c3 HC13 HCd
      go_wp2_with fail
      refine (refPointsL b w14 (by omega)).mono ?_
      rintro _ w15 ⟨a15, c15, rfl, b15⟩
      rw [← HNM.out.2]
      have HC15 := Lib.hid (HC14.out.after b15)
      clear b15 d0 d1 d2 d3
      have c0 := HC15.out.rule.c0
      have c1 := HC15.out.rule.c1
      have c2 := HC15.out.rule.c2
      have c3 := HC15.out.rule.c3
      cases ok
      · go_wp2_with fail
        go_ret
        exact ⟨rfl, HC15.out.bel⟩
      · go_wp2_with fail
        refine (similar_any ra rb rc rd a b w15 (by omega) (by omega)).mono ?_
        rintro _ w16 ⟨rfl, b16⟩
        rw [← HY.out.2.2]
        have HC16 := Lib.hid (HC15.out.after b16)
        clear b16 c0 c1 c2 c3
        cases S1
        · go_wp2_with fail
          go_ret
          exact ⟨rfl, HC16.out.bel⟩
        · have hb : lo ≤ (M : Int) ∧ (M : Int) ≤ hi := by
            obtain ⟨h3, hl1, hl2⟩ := hlo.out trivial
            have hs := HY.out.2.2
            rcases hR.out with ⟨rfl, rfl, rfl, rfl⟩ | ⟨rfl, rfl, rfl, hl0, hl3⟩ | ⟨rfl, rfl, h1, h2, h4⟩
            · have := lens_one a b hs.symm
              rw [← HNM.out.1, ← HNM.out.2] at this
              omega
            · have := lens_two rb hl0 hl3 a b hs.symm
              rw [← HNM.out.1, ← HNM.out.2] at this
              omega
            · exact absurd rfl h3
          obtain ⟨g1, g2⟩ := hb
          go_wp2_with fail
          go_ret
          exact ⟨rfl, HC16.out.bel⟩
end Go.Proofs.Ytgmnjiiommbjaaa.dist
