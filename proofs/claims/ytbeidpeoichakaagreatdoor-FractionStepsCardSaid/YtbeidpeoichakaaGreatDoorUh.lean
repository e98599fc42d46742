/- Make and Of on both sides, at any signs and words (made by gen-Uh.py). -/
import Derived.Test.YtbeidpeoichakaaGreatDoorUf
set_option linter.unusedSimpArgs false
set_option linter.unusedVariables false
namespace Go.Proofs.YtbeidpeoichakaaGreatDoor.uh
open Go.RowKit Go.Proofs.YtbeidpeoichakaaGreatDoor.fm Go.Proofs.YtbeidpeoichakaaGreatDoor.mem Go.Proofs.YtbeidpeoichakaaGreatDoor.fa Go.Proofs.YtbeidpeoichakaaGreatDoor.fb Go.Proofs.YtbeidpeoichakaaGreatDoor.fs Go.Proofs.YtbeidpeoichakaaGreatDoor.ft Go.Proofs.YtbeidpeoichakaaGreatDoor.fu Go.Proofs.YtbeidpeoichakaaGreatDoor.fv Go.Proofs.YtbeidpeoichakaaGreatDoor.fw Go.Proofs.YtbeidpeoichakaaGreatDoor.fy Go.Proofs.YtbeidpeoichakaaGreatDoor.ga Go.Proofs.YtbeidpeoichakaaGreatDoor.gb Go.Proofs.YtbeidpeoichakaaGreatDoor.gc Go.Proofs.YtbeidpeoichakaaGreatDoor.gd Go.Proofs.YtbeidpeoichakaaGreatDoor.gf Go.Proofs.YtbeidpeoichakaaGreatDoor.gg Go.Proofs.YtbeidpeoichakaaGreatDoor.fj Go.Proofs.YtbeidpeoichakaaGreatDoor.ja Go.Proofs.YtbeidpeoichakaaGreatDoor.jb Go.Proofs.YtbeidpeoichakaaGreatDoor.jg Go.Proofs.YtbeidpeoichakaaGreatDoor.jh Go.Proofs.YtbeidpeoichakaaGreatDoor.jj Go.Proofs.YtbeidpeoichakaaGreatDoor.jk Go.Proofs.YtbeidpeoichakaaGreatDoor.pa Go.Proofs.YtbeidpeoichakaaGreatDoor.pb Go.Proofs.YtbeidpeoichakaaGreatDoor.pc Go.Proofs.YtbeidpeoichakaaGreatDoor.na Go.Proofs.YtbeidpeoichakaaGreatDoor.nb Go.Proofs.YtbeidpeoichakaaGreatDoor.hb Go.Proofs.YtbeidpeoichakaaGreatDoor.hc Go.Proofs.YtbeidpeoichakaaGreatDoor.hd Go.Proofs.YtbeidpeoichakaaGreatDoor.ra Go.Proofs.YtbeidpeoichakaaGreatDoor.re Go.Proofs.YtbeidpeoichakaaGreatDoor.rb Go.Proofs.YtbeidpeoichakaaGreatDoor.rg Go.Proofs.YtbeidpeoichakaaGreatDoor.sa Go.Proofs.YtbeidpeoichakaaGreatDoor.sb Go.Proofs.YtbeidpeoichakaaGreatDoor.sc Go.Proofs.YtbeidpeoichakaaGreatDoor.ta Go.Proofs.YtbeidpeoichakaaGreatDoor.tb Go.Proofs.YtbeidpeoichakaaGreatDoor.ua Go.Proofs.YtbeidpeoichakaaGreatDoor.ub Go.Proofs.YtbeidpeoichakaaGreatDoor.uc Go.Proofs.YtbeidpeoichakaaGreatDoor.ud Go.Proofs.YtbeidpeoichakaaGreatDoor.ue Go.Proofs.YtbeidpeoichakaaGreatDoor.uf Go.Proofs.YtbeidpeoichakaaGreatDoor.ug

set_option maxRecDepth 100000 in
set_option maxHeartbeats 4000000 in
theorem pmake_bad (w : World) (a b : Value) (n : Bool) (l : List Nat) (n' : Bool) (l' : List Nat) (ha : IsAny w a n l) (hb : IsAny w b n' l') (hs : l.length ≤ 1000 ∧ l'.length ≤ 1000) (hp : (good n l && good n' l') = false) :
    Calls Tryz.prog 28 #[a, b] w (NoF w) := by
  obtain ⟨A, c, rfl, R⟩ := ha
  obtain ⟨A', c', rfl, R'⟩ := hb
  go_enter Tryz.func28, Tryz.ntmps28
  have hB := fboxes_made w n n' (.slice A l.length c) (.slice A' l'.length c')
  obtain ⟨W, hW⟩ : ∃ W, W = (((w.alloc (.cells #[.bool n, .slice A l.length c] 28)).alloc (.cells #[.bool n', .slice A' l'.length c'] 28)).alloc (.cells #[.bool false, .slice none 0 0, .bool false, .slice none 0 0] 30)) := ⟨_, rfl⟩
  have hsz : W.heap.size = w.heap.size + 1 + 1 + 1 := by rw [hW]; simp
  rw [← hW] at hB
  have HB := Lib.hid (And.intro hB hsz)
  have HP := Lib.hid hp
  clear hsz hp
  clear hB
  go_wp2_with fail
  rw [← hW]
  clear hW
  refine (validTwo (W.alloc _) (w.heap.size + 1 + 1 + 1) 2 n n' l l' A A' c c' 28 (0, 0) false HP.out (by rw [← HB.out.2]; exact heap_alloc_new W _) ?_ ?_).mono ?_
  · exact ((HB.out.1.rd R).below ((Below.refl _ _).alloc (Nat.le_refl _) _)).more (by simp)
  · exact ((HB.out.1.rd R').below ((Below.refl _ _).alloc (Nat.le_refl _) _)).more (by simp)
  rintro _ W1 ⟨rfl, hb1⟩
  have hB1 := HB.out.1.after (((Below.refl _ _).alloc (Nat.le_refl _) _).trans (hb1.mono (by simp)))
  have b1 := hB1.b1
  have F2 := hB1.F
  clear hB1
  obtain ⟨e0, d0, d1, d2, d3⟩ := F2.filled (z := 0) (d := 0) (A := none) (c := 0) (A' := none) (c' := 0) (by rw [show digs (0 : Int).natAbs = [] from digs_zero]; exact Rd.nil _ _ _ _) (by rw [digs_zero]; exact Rd.nil _ _ _ _) _ rfl
  simp only [show digs (0 : Int).natAbs = [] from digs_zero, digs_zero, List.length_nil, show decide ((0 : Int) < 0) = false from rfl] at e0 d0 d1 d2 d3
  have r0 := F2.r0
  have r1 := F2.r1
  have r2 := F2.r2
  have r3 := F2.r3
  have f0 := F2.fr 0
  have f1 := F2.fr 1
  have f2 := F2.fr 2
  have f3 := F2.fr 3
  have HE := Lib.hid (And.intro e0.2 (And.intro d0 (And.intro d1 (And.intro d2 d3))))
  clear e0 d0 d1 d2 d3 F2 HB HP R R' hb1
  go_wp2
  (try simp only [Exit.inBlock, Exit.then])
  refine bodyPost_ret (results_frac rfl _ _ (w.heap.size + 1 + 1) rfl HE.out.2.1 HE.out.2.2.1 HE.out.2.2.2.1 HE.out.2.2.2.2) rfl ?_
  exact ⟨rfl, HE.out.1⟩

set_option maxRecDepth 100000 in
set_option maxHeartbeats 4000000 in
theorem pmake_zero (w : World) (a b : Value) (n : Bool) (l : List Nat) (n' : Bool) (l' : List Nat) (ha : IsAny w a n l) (hb : IsAny w b n' l') (hs : l.length ≤ 1000 ∧ l'.length ≤ 1000) (hp : (good n l && good n' l') = true ∧ l'.length = 0) :
    Calls Tryz.prog 28 #[a, b] w (fun e w' => e = .returned (.tuple #[.agg #[.bool false, .slice none 0 0, .bool false, .slice none 0 0], .int .i64 8]) ∧ Below w.heap.size w w') := by
  obtain ⟨A, c, rfl, R⟩ := ha
  obtain ⟨A', c', rfl, R'⟩ := hb
  go_enter Tryz.func28, Tryz.ntmps28
  have hB := fboxes_made w n n' (.slice A l.length c) (.slice A' l'.length c')
  obtain ⟨W, hW⟩ : ∃ W, W = (((w.alloc (.cells #[.bool n, .slice A l.length c] 28)).alloc (.cells #[.bool n', .slice A' l'.length c'] 28)).alloc (.cells #[.bool false, .slice none 0 0, .bool false, .slice none 0 0] 30)) := ⟨_, rfl⟩
  have hsz : W.heap.size = w.heap.size + 1 + 1 + 1 := by rw [hW]; simp
  rw [← hW] at hB
  have HB := Lib.hid (And.intro hB hsz)
  have HP := Lib.hid hp
  clear hsz hp
  have z1 : ((l'.length : Int) == 0) = true := by rw [HP.out.2]; rfl
  clear hB
  go_wp2_with fail
  rw [← hW]
  clear hW
  refine (validTwo (W.alloc _) (w.heap.size + 1 + 1 + 1) 2 n n' l l' A A' c c' 28 (0, 0) true HP.out.1 (by rw [← HB.out.2]; exact heap_alloc_new W _) ?_ ?_).mono ?_
  · exact ((HB.out.1.rd R).below ((Below.refl _ _).alloc (Nat.le_refl _) _)).more (by simp)
  · exact ((HB.out.1.rd R').below ((Below.refl _ _).alloc (Nat.le_refl _) _)).more (by simp)
  rintro _ W1 ⟨rfl, hb1⟩
  have hB1 := HB.out.1.after (((Below.refl _ _).alloc (Nat.le_refl _) _).trans (hb1.mono (by simp)))
  have b1 := hB1.b1
  have F2 := hB1.F
  clear hB1
  obtain ⟨e0, d0, d1, d2, d3⟩ := F2.filled (z := 0) (d := 0) (A := none) (c := 0) (A' := none) (c' := 0) (by rw [show digs (0 : Int).natAbs = [] from digs_zero]; exact Rd.nil _ _ _ _) (by rw [digs_zero]; exact Rd.nil _ _ _ _) _ rfl
  simp only [show digs (0 : Int).natAbs = [] from digs_zero, digs_zero, List.length_nil, show decide ((0 : Int) < 0) = false from rfl] at e0 d0 d1 d2 d3
  have r0 := F2.r0
  have r1 := F2.r1
  have r2 := F2.r2
  have r3 := F2.r3
  have f0 := F2.fr 0
  have f1 := F2.fr 1
  have f2 := F2.fr 2
  have f3 := F2.fr 3
  have HE := Lib.hid (And.intro e0.2 (And.intro d0 (And.intro d1 (And.intro d2 d3))))
  clear e0 d0 d1 d2 d3 F2 HB HP R R' hb1
  go_wp2
  (try simp only [Exit.inBlock, Exit.then])
  refine bodyPost_ret (results_frac rfl _ _ (w.heap.size + 1 + 1) rfl HE.out.2.1 HE.out.2.2.1 HE.out.2.2.2.1 HE.out.2.2.2.2) rfl ?_
  exact ⟨rfl, HE.out.1⟩

set_option maxRecDepth 100000 in
set_option maxHeartbeats 4000000 in
theorem rmake_bad (w : World) (a b : Value) (n : Bool) (l : List Nat) (n' : Bool) (l' : List Nat) (ha : IsAny w a n l) (hb : IsAny w b n' l') (hs : l.length ≤ 1000 ∧ l'.length ≤ 1000) (hp : (good n l && good n' l') = false) :
    Calls Tryz.prog 29 #[a, b] w (NoF w) := by
  obtain ⟨A, c, rfl, R⟩ := ha
  obtain ⟨A', c', rfl, R'⟩ := hb
  go_enter Tryz.func29, Tryz.ntmps29
  have hB := fboxes_made w n n' (.slice A l.length c) (.slice A' l'.length c')
  obtain ⟨W, hW⟩ : ∃ W, W = (((w.alloc (.cells #[.bool n, .slice A l.length c] 28)).alloc (.cells #[.bool n', .slice A' l'.length c'] 28)).alloc (.cells #[.bool false, .slice none 0 0, .bool false, .slice none 0 0] 30)) := ⟨_, rfl⟩
  have hsz : W.heap.size = w.heap.size + 1 + 1 + 1 := by rw [hW]; simp
  rw [← hW] at hB
  have HB := Lib.hid (And.intro hB hsz)
  have HP := Lib.hid hp
  clear hsz hp
  have a0 := hB.a0
  have a1 := hB.a1
  clear hB
  go_upto_region 1 with fail
  rw [← hW]
  clear hW
  go_wp2_with fail
  refine (rvalidBig_gen W n l A c (HB.out.1.rd R) (by omega)).mono ?_
  rintro _ W1 ⟨rfl, hb1⟩
  have H1 := Lib.hid (HB.out.1.after hb1)
  clear hb1 a0 a1
  cases hg : good n l
  · have F2 := H1.out.F
    obtain ⟨e0, d0, d1, d2, d3⟩ := F2.filled (z := 0) (d := 0) (A := none) (c := 0) (A' := none) (c' := 0) (by rw [show digs (0 : Int).natAbs = [] from digs_zero]; exact Rd.nil _ _ _ _) (by rw [digs_zero]; exact Rd.nil _ _ _ _) _ rfl
    simp only [show digs (0 : Int).natAbs = [] from digs_zero, digs_zero, List.length_nil, show decide ((0 : Int) < 0) = false from rfl] at e0 d0 d1 d2 d3
    have r0 := F2.r0
    have r1 := F2.r1
    have r2 := F2.r2
    have r3 := F2.r3
    have f0 := F2.fr 0
    have f1 := F2.fr 1
    have f2 := F2.fr 2
    have f3 := F2.fr 3
    have HE := Lib.hid (And.intro e0.2 (And.intro d0 (And.intro d1 (And.intro d2 d3))))
    clear e0 d0 d1 d2 d3 F2 HB HP H1 R R' hg
    go_wp2
    (try simp only [Exit.inBlock, Exit.then])
    refine bodyPost_ret (results_frac rfl _ _ (w.heap.size + 1 + 1) rfl HE.out.2.1 HE.out.2.2.1 HE.out.2.2.2.1 HE.out.2.2.2.2) rfl ?_
    exact ⟨rfl, HE.out.1⟩
  have hg2 : good n' l' = false := by
    have := HP.out
    rw [hg] at this
    simpa using this
  have HG2 := Lib.hid hg2
  clear hg2 hg
  have b0 := H1.out.b0
  have b1 := H1.out.b1
  go_wp2_with fail
  refine (rvalidBig_gen W1 n' l' A' c' (H1.out.rd R') (by omega)).mono ?_
  rintro _ W2 ⟨rfl, hb2⟩
  rw [HG2.out]
  have H2 := Lib.hid (H1.out.after hb2)
  clear hb2 b0 b1
  have b1 := H2.out.b1
  have F2 := H2.out.F
  obtain ⟨e0, d0, d1, d2, d3⟩ := F2.filled (z := 0) (d := 0) (A := none) (c := 0) (A' := none) (c' := 0) (by rw [show digs (0 : Int).natAbs = [] from digs_zero]; exact Rd.nil _ _ _ _) (by rw [digs_zero]; exact Rd.nil _ _ _ _) _ rfl
  simp only [show digs (0 : Int).natAbs = [] from digs_zero, digs_zero, List.length_nil, show decide ((0 : Int) < 0) = false from rfl] at e0 d0 d1 d2 d3
  have r0 := F2.r0
  have r1 := F2.r1
  have r2 := F2.r2
  have r3 := F2.r3
  have f0 := F2.fr 0
  have f1 := F2.fr 1
  have f2 := F2.fr 2
  have f3 := F2.fr 3
  have HE := Lib.hid (And.intro e0.2 (And.intro d0 (And.intro d1 (And.intro d2 d3))))
  clear e0 d0 d1 d2 d3 F2 HB HP H1 H2 HG2 R R'
  go_wp2
  (try simp only [Exit.inBlock, Exit.then])
  refine bodyPost_ret (results_frac rfl _ _ (w.heap.size + 1 + 1) rfl HE.out.2.1 HE.out.2.2.1 HE.out.2.2.2.1 HE.out.2.2.2.2) rfl ?_
  exact ⟨rfl, HE.out.1⟩

set_option maxRecDepth 100000 in
set_option maxHeartbeats 4000000 in
theorem rmake_zero (w : World) (a b : Value) (n : Bool) (l : List Nat) (n' : Bool) (l' : List Nat) (ha : IsAny w a n l) (hb : IsAny w b n' l') (hs : l.length ≤ 1000 ∧ l'.length ≤ 1000) (hp : (good n l && good n' l') = true ∧ l'.length = 0) :
    Calls Tryz.prog 29 #[a, b] w (fun e w' => e = .returned (.tuple #[.agg #[.bool false, .slice none 0 0, .bool false, .slice none 0 0], .int .i64 8]) ∧ Below w.heap.size w w') := by
  obtain ⟨A, c, rfl, R⟩ := ha
  obtain ⟨A', c', rfl, R'⟩ := hb
  go_enter Tryz.func29, Tryz.ntmps29
  have hB := fboxes_made w n n' (.slice A l.length c) (.slice A' l'.length c')
  obtain ⟨W, hW⟩ : ∃ W, W = (((w.alloc (.cells #[.bool n, .slice A l.length c] 28)).alloc (.cells #[.bool n', .slice A' l'.length c'] 28)).alloc (.cells #[.bool false, .slice none 0 0, .bool false, .slice none 0 0] 30)) := ⟨_, rfl⟩
  have hsz : W.heap.size = w.heap.size + 1 + 1 + 1 := by rw [hW]; simp
  rw [← hW] at hB
  have HB := Lib.hid (And.intro hB hsz)
  have HP := Lib.hid hp
  clear hsz hp
  have a0 := hB.a0
  have a1 := hB.a1
  clear hB
  go_upto_region 1 with fail
  rw [← hW]
  clear hW
  go_wp2_with fail
  refine (rvalidBig_gen W n l A c (HB.out.1.rd R) (by omega)).mono ?_
  rintro _ W1 ⟨rfl, hb1⟩
  have H1 := Lib.hid (HB.out.1.after hb1)
  clear hb1 a0 a1
  have hg1 : good n l = true := (Bool.and_eq_true_iff.1 HP.out.1).1
  have hg2 : good n' l' = true := (Bool.and_eq_true_iff.1 HP.out.1).2
  have z1 : ((l'.length : Int) == 0) = true := by rw [HP.out.2]; rfl
  rw [hg1]
  have HG2 := Lib.hid hg2
  clear hg2 hg1
  have b0 := H1.out.b0
  have b1 := H1.out.b1
  go_wp2_with fail
  refine (rvalidBig_gen W1 n' l' A' c' (H1.out.rd R') (by omega)).mono ?_
  rintro _ W2 ⟨rfl, hb2⟩
  rw [HG2.out]
  have H2 := Lib.hid (H1.out.after hb2)
  clear hb2 b0 b1
  have b1 := H2.out.b1
  have F2 := H2.out.F
  obtain ⟨e0, d0, d1, d2, d3⟩ := F2.filled (z := 0) (d := 0) (A := none) (c := 0) (A' := none) (c' := 0) (by rw [show digs (0 : Int).natAbs = [] from digs_zero]; exact Rd.nil _ _ _ _) (by rw [digs_zero]; exact Rd.nil _ _ _ _) _ rfl
  simp only [show digs (0 : Int).natAbs = [] from digs_zero, digs_zero, List.length_nil, show decide ((0 : Int) < 0) = false from rfl] at e0 d0 d1 d2 d3
  have r0 := F2.r0
  have r1 := F2.r1
  have r2 := F2.r2
  have r3 := F2.r3
  have f0 := F2.fr 0
  have f1 := F2.fr 1
  have f2 := F2.fr 2
  have f3 := F2.fr 3
  have HE := Lib.hid (And.intro e0.2 (And.intro d0 (And.intro d1 (And.intro d2 d3))))
  clear e0 d0 d1 d2 d3 F2 HB HP H1 H2 HG2 R R'
  go_wp2
  (try simp only [Exit.inBlock, Exit.then])
  refine bodyPost_ret (results_frac rfl _ _ (w.heap.size + 1 + 1) rfl HE.out.2.1 HE.out.2.2.1 HE.out.2.2.2.1 HE.out.2.2.2.2) rfl ?_
  exact ⟨rfl, HE.out.1⟩

/-- Make, both sides -/
def BothM (p r : FuncId) (n : Bool) (l : List Nat) (n' : Bool) (l' : List Nat) : Prop :=
  ∃ (Z : Int) (D : Nat) (k : Int), (digs Z.natAbs).length ≤ 256 ∧ (digs D).length ≤ 256 ∧ ∀ w a b, IsAny w a n l → IsAny w b n' l' → Tabs w → Calls Tryz.prog p #[a, b] w (AnsF w Z D k) ∧ Calls Tryz.prog r #[a, b] w (AnsF w Z D k)
theorem fits_low {N : Int} {D : Nat} (h : (digs N.natAbs).length ≤ 256) (h' : (digs D).length ≤ 256) : fits (N.tdiv (Nat.gcd N.natAbs D : Nat)) (D / Nat.gcd N.natAbs D) = true := by
  unfold fits
  rw [Bool.and_eq_true, decide_eq_true_eq, decide_eq_true_eq]
  refine ⟨?_, Nat.le_trans (len_mono (Nat.div_le_self _ _)) h'⟩
  rw [Int.natAbs_tdiv, Int.natAbs_natCast]
  exact Nat.le_trans (len_mono (Nat.div_le_self _ _)) h
theorem turned_abs (x y : Int) : (turned x y).natAbs = x.natAbs := by unfold turned; exact sgnd_abs _ _
theorem both_make (n : Bool) (l : List Nat) (n' : Bool) (l' : List Nat) (hs : l.length ≤ 1000 ∧ l'.length ≤ 1000) : BothM 28 29 n l n' l' := by
  cases hg : (good n l && good n' l')
  · exact ⟨0, 0, 1, nil_len.1, nil_len.2, fun w a b ha hb hT => ⟨(pmake_bad w a b n l n' l' ha hb hs hg).mono fun e w' h => nof_ans h, (rmake_bad w a b n l n' l' ha hb hs hg).mono fun e w' h => nof_ans h⟩⟩
  · have hg' := Bool.and_eq_true_iff.1 hg
    by_cases h0 : l'.length = 0
    · exact ⟨0, 0, 8, nil_len.1, nil_len.2, fun w a b ha hb hT => ⟨(pmake_zero w a b n l n' l' ha hb hs ⟨hg, h0⟩).mono fun e w' h => noq_ans h, (rmake_zero w a b n l n' l' ha hb hs ⟨hg, h0⟩).mono fun e w' h => noq_ans h⟩⟩
    · obtain ⟨x, hx⟩ : ∃ x, x = sgnd n (val l) := ⟨_, rfl⟩
      obtain ⟨y, hy⟩ : ∃ y, y = sgnd n' (val l') := ⟨_, rfl⟩
      refine ⟨if fits ((turned x y).tdiv (Nat.gcd (turned x y).natAbs y.natAbs : Nat)) (y.natAbs / Nat.gcd (turned x y).natAbs y.natAbs) = true then (turned x y).tdiv (Nat.gcd (turned x y).natAbs y.natAbs : Nat) else 0, if fits ((turned x y).tdiv (Nat.gcd (turned x y).natAbs y.natAbs : Nat)) (y.natAbs / Nat.gcd (turned x y).natAbs y.natAbs) = true then y.natAbs / Nat.gcd (turned x y).natAbs y.natAbs else 0, if fits ((turned x y).tdiv (Nat.gcd (turned x y).natAbs y.natAbs : Nat)) (y.natAbs / Nat.gcd (turned x y).natAbs y.natAbs) = true then 0 else 3, (fits_len _ _).1, (fits_len _ _).2, fun w a b ha hb hT => ?_⟩
      obtain ⟨i1, m1⟩ := any_big ha hg'.1
      obtain ⟨i2, m2⟩ := any_big hb hg'.2
      have hok : ok l' := by obtain ⟨A', c', _, R'⟩ := hb; exact R'.ok
      obtain ⟨b1, _, _⟩ := good_digs hok hg'.2
      rw [← hx] at i1 m1
      rw [← hy] at i2 m2
      have hy0 : y ≠ 0 := fun e => h0 (by
        have h1 : y.natAbs = val l' := by rw [hy]; exact sgnd_abs _ _
        rw [e] at h1
        rw [← b1, ← h1]
        exact congrArg List.length digs_zero)
      refine ⟨(make_any w a b x y i1 i2 m1 m2 hy0 hT).mono fun e w' h => frac_ans h, (rmake_any w a b x y i1 i2 m1 m2 hy0).mono fun e w' h => ?_⟩
      obtain ⟨v, he, hI, hb'⟩ := h
      have hf := fits_low (N := turned x y) (D := y.natAbs) (by rw [turned_abs]; exact m1) m2
      rw [if_pos hf, if_pos hf, if_pos hf]
      exact ⟨v, he, hI, hb'⟩
set_option maxRecDepth 100000 in
set_option maxHeartbeats 4000000 in
theorem pof_gen (w : World) (x y : Int) (h1 : -9223372036854775808 ≤ x) (h2 : x < 9223372036854775808) (h3 : -9223372036854775808 ≤ y) (h4 : y < 9223372036854775808) (Z : Int) (D : Nat) (k : Int)
    (hm : ∀ W a b, Below w.heap.size w W → IsBig W a x → IsBig W b y → Calls Tryz.prog 28 #[a, b] W (AnsF W Z D k)) :
    Calls Tryz.prog 26 #[.int .i64 x, .int .i64 y] w (AnsF w Z D k) := by
  go_enter Tryz.func26, Tryz.ntmps26
  have HB := Lib.hid (fbox_made w)
  have HH := Lib.hid (And.intro (And.intro h1 h2) (And.intro h3 (And.intro h4 hm)))
  clear h1 h2 h3 h4 hm
  go_wp2_with fail
  refine (fromInt_any _ x HH.out.1.1 HH.out.1.2).mono ?_
  rintro _ W1 ⟨v1, rfl, hI1, hb1⟩
  have H1 := Lib.hid (And.intro hI1 (HB.out.after hb1))
  clear hI1 hb1
  go_wp2_with fail
  refine (fromInt_any W1 y HH.out.2.1 HH.out.2.2.1).mono ?_
  rintro _ W2 ⟨v2, rfl, hI2, hb2⟩
  have H2 := Lib.hid (And.intro (H1.out.1.below hb2) (And.intro hI2 (H1.out.2.after hb2)))
  clear hI2 hb2
  go_wp2_with fail
  refine (HH.out.2.2.2 W2 v1 v2 H2.out.2.2.bel H2.out.1 H2.out.2.1).mono ?_
  rintro _ W5 ⟨v5, rfl, ⟨A5, c5, A6, c6, rfl, R5, R6⟩, hb5⟩
  have S5 := H2.out.2.2.after hb5
  obtain ⟨e, d0, d1, d2, d3⟩ := S5.filled R5 R6 _ rfl
  have HE := Lib.hid (And.intro e (And.intro d0 (And.intro d1 (And.intro d2 d3))))
  have r0 := S5.r0
  have r1 := S5.r1
  have r2 := S5.r2
  have r3 := S5.r3
  have f0 := S5.fr 0
  have f1 := S5.fr 1
  have f2 := S5.fr 2
  have f3 := S5.fr 3
  clear hb5 S5 e d0 d1 d2 d3 R5 R6 H1 H2 HB HH
  go_wp2
  (try simp only [Exit.inBlock, Exit.then])
  refine bodyPost_ret (results_frac rfl _ _ w.heap.size rfl HE.out.2.1 HE.out.2.2.1 HE.out.2.2.2.1 HE.out.2.2.2.2) rfl ?_
  exact ⟨_, rfl, HE.out.1.1, HE.out.1.2⟩

set_option maxRecDepth 100000 in
set_option maxHeartbeats 4000000 in
theorem rof_gen (w : World) (x y : Int) (h1 : -9223372036854775808 ≤ x) (h2 : x < 9223372036854775808) (h3 : -9223372036854775808 ≤ y) (h4 : y < 9223372036854775808) (Z : Int) (D : Nat) (k : Int)
    (hm : ∀ W a b, Below w.heap.size w W → IsBig W a x → IsBig W b y → Calls Tryz.prog 29 #[a, b] W (AnsF W Z D k)) :
    Calls Tryz.prog 27 #[.int .i64 x, .int .i64 y] w (AnsF w Z D k) := by
  go_enter Tryz.func27, Tryz.ntmps27
  have HB := Lib.hid (fbox_made w)
  have HH := Lib.hid (And.intro (And.intro h1 h2) (And.intro h3 (And.intro h4 hm)))
  clear h1 h2 h3 h4 hm
  go_wp2_with fail
  refine (rfromInt_any _ x HH.out.1.1 HH.out.1.2).mono ?_
  rintro _ W1 ⟨v1, rfl, hI1, hb1⟩
  have H1 := Lib.hid (And.intro hI1 (HB.out.after hb1))
  clear hI1 hb1
  go_wp2_with fail
  refine (rfromInt_any W1 y HH.out.2.1 HH.out.2.2.1).mono ?_
  rintro _ W2 ⟨v2, rfl, hI2, hb2⟩
  have H2 := Lib.hid (And.intro (H1.out.1.below hb2) (And.intro hI2 (H1.out.2.after hb2)))
  clear hI2 hb2
  go_wp2_with fail
  refine (HH.out.2.2.2 W2 v1 v2 H2.out.2.2.bel H2.out.1 H2.out.2.1).mono ?_
  rintro _ W5 ⟨v5, rfl, ⟨A5, c5, A6, c6, rfl, R5, R6⟩, hb5⟩
  have S5 := H2.out.2.2.after hb5
  obtain ⟨e, d0, d1, d2, d3⟩ := S5.filled R5 R6 _ rfl
  have HE := Lib.hid (And.intro e (And.intro d0 (And.intro d1 (And.intro d2 d3))))
  have r0 := S5.r0
  have r1 := S5.r1
  have r2 := S5.r2
  have r3 := S5.r3
  have f0 := S5.fr 0
  have f1 := S5.fr 1
  have f2 := S5.fr 2
  have f3 := S5.fr 3
  clear hb5 S5 e d0 d1 d2 d3 R5 R6 H1 H2 HB HH
  go_wp2
  (try simp only [Exit.inBlock, Exit.then])
  refine bodyPost_ret (results_frac rfl _ _ w.heap.size rfl HE.out.2.1 HE.out.2.2.1 HE.out.2.2.2.1 HE.out.2.2.2.2) rfl ?_
  exact ⟨_, rfl, HE.out.1.1, HE.out.1.2⟩

theorem both_ofs (x y : Int) (h1 : -9223372036854775808 ≤ x) (h2 : x < 9223372036854775808) (h3 : -9223372036854775808 ≤ y) (h4 : y < 9223372036854775808) :
    ∃ (Z : Int) (D : Nat) (k : Int), (digs Z.natAbs).length ≤ 256 ∧ (digs D).length ≤ 256 ∧ ∀ w, Tabs w → Calls Tryz.prog 26 #[.int .i64 x, .int .i64 y] w (AnsF w Z D k) ∧ Calls Tryz.prog 27 #[.int .i64 x, .int .i64 y] w (AnsF w Z D k) := by
  have lx := int_len h1 h2
  have ly := int_len h3 h4
  obtain ⟨Z, D, k, l1, l2, h⟩ := both_make (decide (x < 0)) (digs x.natAbs) (decide (y < 0)) (digs y.natAbs) ⟨by omega, by omega⟩
  refine ⟨Z, D, k, l1, l2, fun w hT => ⟨pof_gen w x y h1 h2 h3 h4 Z D k fun W a b hb ha hb' => (h W a b (any_of_big ha) (any_of_big hb') (hT.below hb)).1, rof_gen w x y h1 h2 h3 h4 Z D k fun W a b hb ha hb' => (h W a b (any_of_big ha) (any_of_big hb') (hT.below hb)).2⟩⟩
end Go.Proofs.YtbeidpeoichakaaGreatDoor.uh

/- FractionSteps: what lies in memory. -/
set_option linter.unusedSimpArgs false
set_option linter.unusedVariables false
namespace Go.Proofs.YtbeidpeoichakaaGreatDoor.ui
open Go.RowKit Go.Proofs.YtbeidpeoichakaaGreatDoor.fm Go.Proofs.YtbeidpeoichakaaGreatDoor.mem Go.Proofs.YtbeidpeoichakaaGreatDoor.fa Go.Proofs.YtbeidpeoichakaaGreatDoor.fb Go.Proofs.YtbeidpeoichakaaGreatDoor.fs Go.Proofs.YtbeidpeoichakaaGreatDoor.ft Go.Proofs.YtbeidpeoichakaaGreatDoor.fu Go.Proofs.YtbeidpeoichakaaGreatDoor.fv Go.Proofs.YtbeidpeoichakaaGreatDoor.fw Go.Proofs.YtbeidpeoichakaaGreatDoor.fx Go.Proofs.YtbeidpeoichakaaGreatDoor.fy Go.Proofs.YtbeidpeoichakaaGreatDoor.fz Go.Proofs.YtbeidpeoichakaaGreatDoor.ga Go.Proofs.YtbeidpeoichakaaGreatDoor.gb Go.Proofs.YtbeidpeoichakaaGreatDoor.gc Go.Proofs.YtbeidpeoichakaaGreatDoor.gd Go.Proofs.YtbeidpeoichakaaGreatDoor.gf Go.Proofs.YtbeidpeoichakaaGreatDoor.gg Go.Proofs.YtbeidpeoichakaaGreatDoor.fj Go.Proofs.YtbeidpeoichakaaGreatDoor.ja Go.Proofs.YtbeidpeoichakaaGreatDoor.jb Go.Proofs.YtbeidpeoichakaaGreatDoor.jg Go.Proofs.YtbeidpeoichakaaGreatDoor.jh Go.Proofs.YtbeidpeoichakaaGreatDoor.jj Go.Proofs.YtbeidpeoichakaaGreatDoor.jk Go.Proofs.YtbeidpeoichakaaGreatDoor.pa Go.Proofs.YtbeidpeoichakaaGreatDoor.pb Go.Proofs.YtbeidpeoichakaaGreatDoor.pc Go.Proofs.YtbeidpeoichakaaGreatDoor.na Go.Proofs.YtbeidpeoichakaaGreatDoor.nb Go.Proofs.YtbeidpeoichakaaGreatDoor.hb Go.Proofs.YtbeidpeoichakaaGreatDoor.hc Go.Proofs.YtbeidpeoichakaaGreatDoor.hd Go.Proofs.YtbeidpeoichakaaGreatDoor.ra Go.Proofs.YtbeidpeoichakaaGreatDoor.re Go.Proofs.YtbeidpeoichakaaGreatDoor.rb Go.Proofs.YtbeidpeoichakaaGreatDoor.rg Go.Proofs.YtbeidpeoichakaaGreatDoor.sa Go.Proofs.YtbeidpeoichakaaGreatDoor.sb Go.Proofs.YtbeidpeoichakaaGreatDoor.sc Go.Proofs.YtbeidpeoichakaaGreatDoor.ta Go.Proofs.YtbeidpeoichakaaGreatDoor.tb Go.Proofs.YtbeidpeoichakaaGreatDoor.ua Go.Proofs.YtbeidpeoichakaaGreatDoor.ub Go.Proofs.YtbeidpeoichakaaGreatDoor.uc Go.Proofs.YtbeidpeoichakaaGreatDoor.ud Go.Proofs.YtbeidpeoichakaaGreatDoor.ue Go.Proofs.YtbeidpeoichakaaGreatDoor.uf Go.Proofs.YtbeidpeoichakaaGreatDoor.ug Go.Proofs.YtbeidpeoichakaaGreatDoor.uh

/-- where a fraction lies: a block, its number there, its words -/
structure En where
  g : Nat
  k : Nat
  f : Any
  A : Option Addr
  c : Nat
  B : Option Addr
  l : Nat
structure At (W : World) (e : En) : Prop where
  lt : e.g < W.heap.size
  c0 : W.cell? ⟨e.g, e.k * 4, none⟩ = some (.bool e.f.n1)
  c1 : W.cell? ⟨e.g, e.k * 4 + 1, none⟩ = some (.slice e.A e.f.l1.length e.c)
  c2 : W.cell? ⟨e.g, e.k * 4 + 2, none⟩ = some (.bool e.f.n2)
  c3 : W.cell? ⟨e.g, e.k * 4 + 3, none⟩ = some (.slice e.B e.f.l2.length e.l)
  R : Rd W W.heap.size e.A e.c e.f.l1
  S : Rd W W.heap.size e.B e.l e.f.l2
theorem At.after {W W' : World} {e : En} (h : At W e) (hb : Below W.heap.size W W') : At W' e :=
  ⟨Nat.lt_of_lt_of_le h.lt hb.size, (hb.cell h.lt).trans h.c0, (hb.cell h.lt).trans h.c1, (hb.cell h.lt).trans h.c2, (hb.cell h.lt).trans h.c3, (h.R.below hb).more hb.size, (h.S.below hb).more hb.size⟩
theorem At.isF {W : World} {e : En} (h : At W e) : IsF W (.agg #[.bool e.f.n1, .slice e.A e.f.l1.length e.c, .bool e.f.n2, .slice e.B e.f.l2.length e.l]) e.f := ⟨e.A, e.c, e.B, e.l, rfl, h.R, h.S⟩
/-- four stores into a block -/
theorem rd_fput {W : World} {j : Nat} {b0 b2 : Bool} {a1 a3 : Option Addr} {n1 n3 c1 c3 : Nat} (h0 : W.cell? ⟨j, 0, none⟩ = some (.bool b0)) (h1 : W.cell? ⟨j, 1, none⟩ = some (.slice a1 n1 c1)) (h2 : W.cell? ⟨j, 2, none⟩ = some (.bool b2)) (h3 : W.cell? ⟨j, 3, none⟩ = some (.slice a3 n3 c3))
    {v0 v2 : Bool} {s1 s3 : Option Addr} {m1 m3 d1 d3 : Nat} {A : Option Addr} {c : Nat} {l : List Nat} (R : Rd W W.heap.size A c l) : Rd (fput W j (.bool v0) (.slice s1 m1 d1) (.bool v2) (.slice s3 m3 d3)) (fput W j (.bool v0) (.slice s1 m1 d1) (.bool v2) (.slice s3 m3 d3)).heap.size A c l := by
  have vb : ∀ (b : Bool) (k : Int), Value.bool b ≠ .int .u32 k := fun b k e => by cases e
  have vs : ∀ (a : Option Addr) (n c : Nat) (k : Int), Value.slice a n c ≠ .int .u32 k := fun a n c k e => by cases e
  have n1' := ni_bool h0
  have n2' := ni_slice h1
  have n3' := ni_bool h2
  have n4' := ni_slice h3
  unfold fput
  simp only [World.size_setCell]
  exact rd_set (rd_set (rd_set (rd_set R n1') (n2'.set (vb _))) ((n3'.set (vb _)).set (vs _ _ _))) (((n4'.set (vb _)).set (vs _ _ _)).set (vb _))
theorem fput_cell {W : World} {j : Nat} {v0 v1 v2 v3 : Value} {p : Addr} (h : p.block ≠ j) : (fput W j v0 v1 v2 v3).cell? p = W.cell? p := by
  unfold fput
  exact (World.cell?_setCell_other _ _ _ _ (by rintro rfl; exact h rfl)).trans ((World.cell?_setCell_other _ _ _ _ (by rintro rfl; exact h rfl)).trans ((World.cell?_setCell_other _ _ _ _ (by rintro rfl; exact h rfl)).trans (World.cell?_setCell_other _ _ _ _ (by rintro rfl; exact h rfl))))
/-- a box that may be written -/
structure Box (W : World) (e : En) : Prop where
  at' : At W e
  k : e.k = 0
  fr : ∀ i, W.frozen? ⟨e.g, i, none⟩ = false
theorem Box.after {W W' : World} {e : En} (h : Box W e) (hb : Below W.heap.size W W') : Box W' e := ⟨h.at'.after hb, h.k, fun i => (below_frozen hb (p := ⟨e.g, i, none⟩) h.at'.lt).trans (h.fr i)⟩
theorem Box.cells {W : World} {e : En} (h : Box W e) : W.cell? ⟨e.g, 0, none⟩ = some (.bool e.f.n1) ∧ W.cell? ⟨e.g, 1, none⟩ = some (.slice e.A e.f.l1.length e.c) ∧ W.cell? ⟨e.g, 2, none⟩ = some (.bool e.f.n2) ∧ W.cell? ⟨e.g, 3, none⟩ = some (.slice e.B e.f.l2.length e.l) := by
  have hk := h.k
  have h0 := h.at'.c0
  have h1 := h.at'.c1
  have h2 := h.at'.c2
  have h3 := h.at'.c3
  rw [hk] at h0 h1 h2 h3
  exact ⟨by simpa using h0, by simpa using h1, by simpa using h2, by simpa using h3⟩
theorem box_new {W : World} {f : Any} {A B : Option Addr} {c l : Nat} (R : Rd W W.heap.size A c f.l1) (S : Rd W W.heap.size B l f.l2) (t : TypeId) : Box (W.alloc (.cells #[.bool f.n1, .slice A f.l1.length c, .bool f.n2, .slice B f.l2.length l] t)) ⟨W.heap.size, 0, f, A, c, B, l⟩ := by
  have h := (Below.refl W.heap.size W).alloc (Nat.le_refl _) (.cells #[.bool f.n1, .slice A f.l1.length c, .bool f.n2, .slice B f.l2.length l] t)
  refine ⟨⟨by simp, ?_, ?_, ?_, ?_, (R.below h).more h.size, (S.below h).more h.size⟩, rfl, fun i => by simp [go_sem]⟩
  all_goals simp [go_sem]
/-- another fraction in a box -/
theorem Box.put {W : World} {e : En} (h : Box W e) {f : Any} {A B : Option Addr} {c l : Nat} (R : Rd W W.heap.size A c f.l1) (S : Rd W W.heap.size B l f.l2) : Box (fput W e.g (.bool f.n1) (.slice A f.l1.length c) (.bool f.n2) (.slice B f.l2.length l)) ⟨e.g, 0, f, A, c, B, l⟩ := by
  obtain ⟨h0, h1, h2, h3⟩ := h.cells
  refine ⟨⟨by unfold fput; simpa using h.at'.lt, ?_, ?_, ?_, ?_, rd_fput h0 h1 h2 h3 R, rd_fput h0 h1 h2 h3 S⟩, rfl, fun i => ?_⟩
  · unfold fput; simp [go_sem, h0, h1, h2, h3]
  · unfold fput; simp [go_sem, h0, h1, h2, h3]
  · unfold fput; simp [go_sem, h0, h1, h2, h3]
  · unfold fput; simp [go_sem, h0, h1, h2, h3]
  · unfold fput; simp only [World.frozen?_setCell]; exact h.fr i
theorem At.put {W : World} {e x : En} (h : At W e) (hx : Box W x) (hne : e.g ≠ x.g) (f : Any) (A B : Option Addr) (c l : Nat) : At (fput W x.g (.bool f.n1) (.slice A f.l1.length c) (.bool f.n2) (.slice B f.l2.length l)) e := by
  obtain ⟨h0, h1, h2, h3⟩ := hx.cells
  exact ⟨by unfold fput; simpa using h.lt, (fput_cell hne).trans h.c0, (fput_cell hne).trans h.c1, (fput_cell hne).trans h.c2, (fput_cell hne).trans h.c3, rd_fput h0 h1 h2 h3 h.R, rd_fput h0 h1 h2 h3 h.S⟩
theorem Box.put_other {W : World} {e x : En} (h : Box W e) (hx : Box W x) (hne : e.g ≠ x.g) (f : Any) (A B : Option Addr) (c l : Nat) : Box (fput W x.g (.bool f.n1) (.slice A f.l1.length c) (.bool f.n2) (.slice B f.l2.length l)) e :=
  ⟨h.at'.put hx hne f A B c l, h.k, fun i => by unfold fput; simp only [World.frozen?_setCell]; exact h.fr i⟩
theorem below_fput {w W : World} {j : Nat} (h : Below w.heap.size w W) (hj : w.heap.size ≤ j) (v0 v1 v2 v3 : Value) : Below w.heap.size w (fput W j v0 v1 v2 v3) :=
  (((h.setCell (p := ⟨j, 0, none⟩) hj v0).setCell (p := ⟨j, 1, none⟩) hj v1).setCell (p := ⟨j, 2, none⟩) hj v2).setCell (p := ⟨j, 3, none⟩) hj v3
/-- another divisor in a box -/
def dput (W : World) (j : Nat) (v2 v3 : Value) : World := (W.setCell ⟨j, 2, none⟩ v2).setCell ⟨j, 3, none⟩ v3
theorem rd_dput {W : World} {j : Nat} {b2 : Bool} {a3 : Option Addr} {n3 c3 : Nat} (h2 : W.cell? ⟨j, 2, none⟩ = some (.bool b2)) (h3 : W.cell? ⟨j, 3, none⟩ = some (.slice a3 n3 c3)) {v2 : Bool} {s3 : Option Addr} {m3 d3 : Nat} {A : Option Addr} {c : Nat} {l : List Nat} (R : Rd W W.heap.size A c l) :
    Rd (dput W j (.bool v2) (.slice s3 m3 d3)) (dput W j (.bool v2) (.slice s3 m3 d3)).heap.size A c l := by
  have vb : ∀ (b : Bool) (k : Int), Value.bool b ≠ .int .u32 k := fun b k e => by cases e
  unfold dput
  simp only [World.size_setCell]
  exact rd_set (rd_set R (ni_bool h2)) ((ni_slice h3).set (vb _))
theorem dput_cell {W : World} {j : Nat} {v2 v3 : Value} {p : Addr} (h : p.block ≠ j) : (dput W j v2 v3).cell? p = W.cell? p := by
  unfold dput
  exact (World.cell?_setCell_other _ _ _ _ (by rintro rfl; exact h rfl)).trans (World.cell?_setCell_other _ _ _ _ (by rintro rfl; exact h rfl))
theorem Box.den {W : World} {g : Nat} {n1 n2 : Bool} {l1 l2 : List Nat} {A B : Option Addr} {c l : Nat} (h : Box W ⟨g, 0, ⟨n1, l1, n2, l2⟩, A, c, B, l⟩) {m : Bool} {x : List Nat} {D : Option Addr} {k : Nat} (S : Rd W W.heap.size D k x) : Box (dput W g (.bool m) (.slice D x.length k)) ⟨g, 0, ⟨n1, l1, m, x⟩, A, c, D, k⟩ := by
  obtain ⟨h0, h1, h2, h3⟩ := h.cells
  dsimp only at h0 h1 h2 h3
  refine ⟨⟨by unfold dput; simpa using h.at'.lt, ?_, ?_, ?_, ?_, rd_dput h2 h3 h.at'.R, rd_dput h2 h3 S⟩, rfl, fun i => ?_⟩
  · unfold dput; simp [go_sem, h0, h1, h2, h3]
  · unfold dput; simp [go_sem, h0, h1, h2, h3]
  · unfold dput; simp [go_sem, h0, h1, h2, h3]
  · unfold dput; simp [go_sem, h0, h1, h2, h3]
  · unfold dput; simp only [World.frozen?_setCell]; exact h.fr i
theorem Box.den_other {W : World} {e : En} {g : Nat} {n1 n2 : Bool} {l1 l2 : List Nat} {A B : Option Addr} {c l : Nat} (h : Box W e) (hx : Box W ⟨g, 0, ⟨n1, l1, n2, l2⟩, A, c, B, l⟩) (hne : e.g ≠ g) (m : Bool) (x : List Nat) (D : Option Addr) (k : Nat) : Box (dput W g (.bool m) (.slice D x.length k)) e := by
  obtain ⟨h0, h1, h2, h3⟩ := hx.cells
  dsimp only at h0 h1 h2 h3
  exact ⟨⟨by unfold dput; simpa using h.at'.lt, (dput_cell hne).trans h.at'.c0, (dput_cell hne).trans h.at'.c1, (dput_cell hne).trans h.at'.c2, (dput_cell hne).trans h.at'.c3, rd_dput h2 h3 h.at'.R, rd_dput h2 h3 h.at'.S⟩, h.k, fun i => by unfold dput; simp only [World.frozen?_setCell]; exact h.fr i⟩
theorem below_dput {w W : World} {j : Nat} (h : Below w.heap.size w W) (hj : w.heap.size ≤ j) (v2 v3 : Value) : Below w.heap.size w (dput W j v2 v3) :=
  (h.setCell (p := ⟨j, 2, none⟩) hj v2).setCell (p := ⟨j, 3, none⟩) hj v3
theorem Box.cellsC {W : World} {g : Nat} {n1 n2 : Bool} {l1 l2 : List Nat} {A B : Option Addr} {c l : Nat} (h : Box W ⟨g, 0, ⟨n1, l1, n2, l2⟩, A, c, B, l⟩) : W.cell? ⟨g, 0, none⟩ = some (.bool n1) ∧ W.cell? ⟨g, 1, none⟩ = some (.slice A l1.length c) ∧ W.cell? ⟨g, 2, none⟩ = some (.bool n2) ∧ W.cell? ⟨g, 3, none⟩ = some (.slice B l2.length l) := h.cells
theorem Box.cellsP {W : World} {g : Nat} {n1 n2 : Bool} {l1 l2 : List Nat} {A B : Option Addr} {c l : Nat} (h : Box W ⟨g, 0, ⟨n1, l1, n2, l2⟩, A, c, B, l⟩) {x : En} (hx : Box W x) (hne : g ≠ x.g) {v0 v1 v2 v3 : Value} :
    ((((W.setCell ⟨x.g, 0, none⟩ v0).setCell ⟨x.g, 1, none⟩ v1).setCell ⟨x.g, 2, none⟩ v2).setCell ⟨x.g, 3, none⟩ v3).cell? ⟨g, 0, none⟩ = some (.bool n1) ∧ ((((W.setCell ⟨x.g, 0, none⟩ v0).setCell ⟨x.g, 1, none⟩ v1).setCell ⟨x.g, 2, none⟩ v2).setCell ⟨x.g, 3, none⟩ v3).cell? ⟨g, 1, none⟩ = some (.slice A l1.length c) ∧ ((((W.setCell ⟨x.g, 0, none⟩ v0).setCell ⟨x.g, 1, none⟩ v1).setCell ⟨x.g, 2, none⟩ v2).setCell ⟨x.g, 3, none⟩ v3).cell? ⟨g, 2, none⟩ = some (.bool n2) ∧ ((((W.setCell ⟨x.g, 0, none⟩ v0).setCell ⟨x.g, 1, none⟩ v1).setCell ⟨x.g, 2, none⟩ v2).setCell ⟨x.g, 3, none⟩ v3).cell? ⟨g, 3, none⟩ = some (.slice B l2.length l) := by
  obtain ⟨h0, h1, h2, h3⟩ := h.cells
  exact ⟨(fput_cell (p := ⟨g, 0, none⟩) hne).trans h0, (fput_cell (p := ⟨g, 1, none⟩) hne).trans h1, (fput_cell (p := ⟨g, 2, none⟩) hne).trans h2, (fput_cell (p := ⟨g, 3, none⟩) hne).trans h3⟩
/-- an empty box -/
def emp (g : Nat) : En := ⟨g, 0, ⟨false, [], false, []⟩, none, 0, none, 0⟩
theorem emp_new (W : World) : Box (W.alloc (.cells #[.bool false, .slice none 0 0, .bool false, .slice none 0 0] 30)) (emp W.heap.size) :=
  box_new (f := ⟨false, [], false, []⟩) (A := none) (B := none) (c := 0) (l := 0) (Rd.nil _ _ _ _) (Rd.nil _ _ _ _) 30
theorem emp_cells {W : World} {g : Nat} (h : Box W (emp g)) : W.cell? ⟨g, 0, none⟩ = some (.bool false) ∧ W.cell? ⟨g, 1, none⟩ = some (.slice none 0 0) ∧ W.cell? ⟨g, 2, none⟩ = some (.bool false) ∧ W.cell? ⟨g, 3, none⟩ = some (.slice none 0 0) ∧ ∀ i, W.frozen? ⟨g, i, none⟩ = false := ⟨h.cells.1, h.cells.2.1, h.cells.2.2.1, h.cells.2.2.2, h.fr⟩
theorem rd_one {W W' : World} {A : Option Addr} {c : Nat} {l : List Nat} (R : Rd W W.heap.size A c l) (hb : Below W.heap.size W W') : Rd W' W'.heap.size A c l := (R.below hb).more hb.size
theorem rd_two {W W' : World} {o : Obj} {A : Option Addr} {c : Nat} {l : List Nat} (R : Rd W W.heap.size A c l) (hb : Below (W.alloc o).heap.size (W.alloc o) W') : Rd W' W'.heap.size A c l := rd_one (rd_one R ((Below.refl _ _).alloc (Nat.le_refl _) o)) hb
theorem Box.cellsE {W : World} {g j : Nat} {n1 n2 : Bool} {l1 l2 : List Nat} {A B : Option Addr} {c l : Nat} (h : Box W ⟨g, 0, ⟨n1, l1, n2, l2⟩, A, c, B, l⟩) (hne : g ≠ j) {v0 v1 v2 v3 : Value} :
    ((((W.setCell ⟨j, 0, none⟩ v0).setCell ⟨j, 1, none⟩ v1).setCell ⟨j, 2, none⟩ v2).setCell ⟨j, 3, none⟩ v3).cell? ⟨g, 0, none⟩ = some (.bool n1) ∧ ((((W.setCell ⟨j, 0, none⟩ v0).setCell ⟨j, 1, none⟩ v1).setCell ⟨j, 2, none⟩ v2).setCell ⟨j, 3, none⟩ v3).cell? ⟨g, 1, none⟩ = some (.slice A l1.length c) ∧ ((((W.setCell ⟨j, 0, none⟩ v0).setCell ⟨j, 1, none⟩ v1).setCell ⟨j, 2, none⟩ v2).setCell ⟨j, 3, none⟩ v3).cell? ⟨g, 2, none⟩ = some (.bool n2) ∧ ((((W.setCell ⟨j, 0, none⟩ v0).setCell ⟨j, 1, none⟩ v1).setCell ⟨j, 2, none⟩ v2).setCell ⟨j, 3, none⟩ v3).cell? ⟨g, 3, none⟩ = some (.slice B l2.length l) := by
  obtain ⟨h0, h1, h2, h3⟩ := h.cells
  exact ⟨(fput_cell (p := ⟨g, 0, none⟩) hne).trans h0, (fput_cell (p := ⟨g, 1, none⟩) hne).trans h1, (fput_cell (p := ⟨g, 2, none⟩) hne).trans h2, (fput_cell (p := ⟨g, 3, none⟩) hne).trans h3⟩
theorem ne_two1 {g j : Nat} (h : g + 1 + 1 < j) : g + 1 ≠ j := by omega
theorem ne_two2 {g j : Nat} (h : g + 1 + 1 < j) : g + 1 + 1 ≠ j := by omega
theorem le_two {w g j : Nat} (h : g + 1 + 1 < j) (h2 : w ≤ g) : w ≤ j := by omega
theorem ne_two {g j : Nat} (h : g + 1 + 1 < j) : g ≠ j := by omega
theorem one_len : (digs 1).length ≤ 1000 := by decide
theorem lt_alloc (W : World) (o : Obj) : W.heap.size < (W.alloc o).heap.size := by simp
/-- two fractions in a box of their own -/
theorem two_new {W : World} {f f' : Any} {A B A' B' : Option Addr} {c l c' l' : Nat} (R : Rd W W.heap.size A c f.l1) (S : Rd W W.heap.size B l f.l2) (R' : Rd W W.heap.size A' c' f'.l1) (S' : Rd W W.heap.size B' l' f'.l2) (t : TypeId) :
    At (W.alloc (.cells #[.bool f.n1, .slice A f.l1.length c, .bool f.n2, .slice B f.l2.length l, .bool f'.n1, .slice A' f'.l1.length c', .bool f'.n2, .slice B' f'.l2.length l'] t)) ⟨W.heap.size, 0, f, A, c, B, l⟩ ∧
    At (W.alloc (.cells #[.bool f.n1, .slice A f.l1.length c, .bool f.n2, .slice B f.l2.length l, .bool f'.n1, .slice A' f'.l1.length c', .bool f'.n2, .slice B' f'.l2.length l'] t)) ⟨W.heap.size, 1, f', A', c', B', l'⟩ := by
  have h := (Below.refl W.heap.size W).alloc (Nat.le_refl _) (.cells #[.bool f.n1, .slice A f.l1.length c, .bool f.n2, .slice B f.l2.length l, .bool f'.n1, .slice A' f'.l1.length c', .bool f'.n2, .slice B' f'.l2.length l'] t)
  exact ⟨⟨by simp, (World.cell?_alloc_new _ _ _ _).trans rfl, (World.cell?_alloc_new _ _ _ _).trans rfl, (World.cell?_alloc_new _ _ _ _).trans rfl, (World.cell?_alloc_new _ _ _ _).trans rfl, (R.below h).more h.size, (S.below h).more h.size⟩,
    ⟨by simp, (World.cell?_alloc_new _ _ _ _).trans rfl, (World.cell?_alloc_new _ _ _ _).trans rfl, (World.cell?_alloc_new _ _ _ _).trans rfl, (World.cell?_alloc_new _ _ _ _).trans rfl, (R'.below h).more h.size, (S'.below h).more h.size⟩⟩
theorem pair_cells {W : World} {g : Nat} {n1 n2 m1 m2 : Bool} {l1 l2 s1 s2 : List Nat} {A B A' B' : Option Addr} {c l c' l' : Nat} (h : At W ⟨g, 0, ⟨n1, l1, n2, l2⟩, A, c, B, l⟩) (h' : At W ⟨g, 1, ⟨m1, s1, m2, s2⟩, A', c', B', l'⟩) :
    W.cell? ⟨g, 0, none⟩ = some (.bool n1) ∧ W.cell? ⟨g, 1, none⟩ = some (.slice A l1.length c) ∧ W.cell? ⟨g, 2, none⟩ = some (.bool n2) ∧ W.cell? ⟨g, 3, none⟩ = some (.slice B l2.length l) ∧ W.cell? ⟨g, 4, none⟩ = some (.bool m1) ∧ W.cell? ⟨g, 5, none⟩ = some (.slice A' s1.length c') ∧ W.cell? ⟨g, 6, none⟩ = some (.bool m2) ∧ W.cell? ⟨g, 7, none⟩ = some (.slice B' s2.length l') := by
  have h0 := h.c0
  have h1 := h.c1
  have h2 := h.c2
  have h3 := h.c3
  have h4 := h'.c0
  have h5 := h'.c1
  have h6 := h'.c2
  have h7 := h'.c3
  exact ⟨by simpa using h0, by simpa using h1, by simpa using h2, by simpa using h3, by simpa using h4, by simpa using h5, by simpa using h6, by simpa using h7⟩
/-- what calls keep -/
def Stays (J : World → Prop) : Prop := ∀ W W', J W → Below W.heap.size W W' → J W'
theorem Stays.alloc {J : World → Prop} (h : Stays J) {W : World} (x : J W) (o : Obj) : J (W.alloc o) := h _ _ x ((Below.refl _ _).alloc (Nat.le_refl _) o)
theorem Stays.draw {J : World → Prop} (h : Stays J) {W : World} (x : J W) : J W.drew := h _ _ x (Below.refl _ _).drew
theorem isBigN {w : World} {n : Bool} {l : List Nat} {z : Int} {A : Option Addr} {c : Nat} (h1 : n = decide (z < 0)) (h2 : l = digs z.natAbs) (R : Rd w w.heap.size A c l) : IsBig w (.agg #[.bool n, .slice A l.length c]) z := by
  subst h1 h2
  exact ⟨A, c, rfl, R⟩
theorem isBigA {w : World} {B : Option Addr} {m d : Nat} {k : List Nat} (h : k = digs d) (R : Rd w w.heap.size B m k) : IsBig w (.agg #[.bool false, .slice B k.length m]) (d : Int) := by
  subst h
  exact ⟨B, m, by rw [decide_eq_false (by omega), Int.natAbs_natCast], by rw [Int.natAbs_natCast]; exact R⟩
/-- what stays: kept by calls, and by stores into boxes from G on -/
structure Keeps (G : Nat) (J : World → Prop) : Prop where
  after : ∀ {W W' : World}, J W → Below W.heap.size W W' → J W'
  put : ∀ {W : World} {x : En}, J W → Box W x → G ≤ x.g → ∀ (f : Any) (A B : Option Addr) (c l : Nat), J (fput W x.g (.bool f.n1) (.slice A f.l1.length c) (.bool f.n2) (.slice B f.l2.length l))
theorem keeps_at {G : Nat} {e : En} (h : e.g < G) : Keeps G (fun W => At W e) := ⟨fun h hb => h.after hb, fun h hx hg f A B c l => h.put hx (by omega) f A B c l⟩
theorem keeps_box {G : Nat} {e : En} (h : e.g < G) : Keeps G (fun W => Box W e) := ⟨fun h hb => h.after hb, fun h hx hg f A B c l => h.put_other hx (by omega) f A B c l⟩
theorem keeps_below {G : Nat} {w : World} (h : w.heap.size ≤ G) : Keeps G (fun W => Below w.heap.size w W) := ⟨fun h hb => h.trans (hb.mono h.size), fun h' hx hg f A B c l => below_fput h' (by omega) _ _ _ _⟩
theorem Keeps.and {G : Nat} {J K : World → Prop} (h : Keeps G J) (h' : Keeps G K) : Keeps G (fun W => J W ∧ K W) := ⟨fun x hb => ⟨h.after x.1 hb, h'.after x.2 hb⟩, fun x hx hg f A B c l => ⟨h.put x.1 hx hg f A B c l, h'.put x.2 hx hg f A B c l⟩⟩
theorem Keeps.all {G n : Nat} {es : Nat → En} (h : ∀ j, j < n → (es j).g < G) : Keeps G (fun W => ∀ j, j < n → At W (es j)) :=
  ⟨fun x hb j hj => (x j hj).after hb, fun x hx hg f A B c l j hj => (x j hj).put hx (by have := h j hj; omega) f A B c l⟩
theorem Keeps.more {G G' : Nat} {J : World → Prop} (h : Keeps G J) (hg : G ≤ G') : Keeps G' J := ⟨h.after, fun x hx hx' f A B c l => h.put x hx (by omega) f A B c l⟩
end Go.Proofs.YtbeidpeoichakaaGreatDoor.ui
