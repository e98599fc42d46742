/- The reference: result. -/
import Derived.Test.YtbeidpeoichakaaGreatDoorSa
import Derived.Deep.RegionHeld3
set_option linter.unusedSimpArgs false
set_option linter.unusedVariables false
namespace Go.Proofs.YtbeidpeoichakaaGreatDoor.ta
open Go.RowKit Go.Proofs.YtbeidpeoichakaaGreatDoor.fm Go.Proofs.YtbeidpeoichakaaGreatDoor.mem Go.Proofs.YtbeidpeoichakaaGreatDoor.fa Go.Proofs.YtbeidpeoichakaaGreatDoor.fb Go.Proofs.YtbeidpeoichakaaGreatDoor.fu Go.Proofs.YtbeidpeoichakaaGreatDoor.fv Go.Proofs.YtbeidpeoichakaaGreatDoor.fw Go.Proofs.YtbeidpeoichakaaGreatDoor.fy Go.Proofs.YtbeidpeoichakaaGreatDoor.ga Go.Proofs.YtbeidpeoichakaaGreatDoor.gb Go.Proofs.YtbeidpeoichakaaGreatDoor.gc Go.Proofs.YtbeidpeoichakaaGreatDoor.fj Go.Proofs.YtbeidpeoichakaaGreatDoor.gg Go.Proofs.YtbeidpeoichakaaGreatDoor.ja Go.Proofs.YtbeidpeoichakaaGreatDoor.jb Go.Proofs.YtbeidpeoichakaaGreatDoor.jg Go.Proofs.YtbeidpeoichakaaGreatDoor.jh Go.Proofs.YtbeidpeoichakaaGreatDoor.pa Go.Proofs.YtbeidpeoichakaaGreatDoor.pb Go.Proofs.YtbeidpeoichakaaGreatDoor.pc Go.Proofs.YtbeidpeoichakaaGreatDoor.nb Go.Proofs.YtbeidpeoichakaaGreatDoor.hc Go.Proofs.YtbeidpeoichakaaGreatDoor.hd Go.Proofs.YtbeidpeoichakaaGreatDoor.re Go.Proofs.YtbeidpeoichakaaGreatDoor.sa Go.Proofs.YtbeidpeoichakaaGreatDoor.sc

set_option maxRecDepth 100000 in
set_option maxHeartbeats 4000000 in
theorem rresult_any (w : World) (a b : Value) (x y : Int) (ha : IsBig w a x) (hb : IsBig w b y) (hl : (digs x.natAbs).length ≤ 50000) (hl' : (digs y.natAbs).length ≤ 50000) (hy : y ≠ 0) :
    Calls Tryz.prog 45 #[a, b] w (Low w (turned x y) y.natAbs) := by
  obtain ⟨A, c, rfl, R⟩ := ha
  obtain ⟨A', c', rfl, R'⟩ := hb
  go_enter Tryz.func45, Tryz.ntmps45
  have hB := fboxes_made w (decide (x < 0)) (decide (y < 0)) (.slice A (digs x.natAbs).length c) (.slice A' (digs y.natAbs).length c')
  obtain ⟨W, hW⟩ : ∃ W, W = (((w.alloc (.cells #[.bool (decide (x < 0)), .slice A (digs x.natAbs).length c] 28)).alloc (.cells #[.bool (decide (y < 0)), .slice A' (digs y.natAbs).length c'] 28)).alloc (.cells #[.bool false, .slice none 0 0, .bool false, .slice none 0 0] 30)) := ⟨_, rfl⟩
  rw [← hW] at hB
  have HB := Lib.hid hB
  have a0 := hB.a0
  have a1 := hB.a1
  have b0 := hB.b0
  have b1 := hB.b1
  clear hB
  go_upto_region 1 with fail
  rw [← hW]
  clear hW
  go_wp2_with fail
  refine (rlowest_any W _ _ x y ⟨A, c, rfl, HB.out.rd R⟩ ⟨A', c', rfl, HB.out.rd R'⟩ hl hl' hy).mono ?_
  rintro _ W1 ⟨A3, c3, A4, c4, Z, D, rfl, R3, R4, hb1, hk⟩
  have HK := Lib.hid hk.out
  have hf := sa.fat_new R3 R4 30
  have hu : Below W1.heap.size W1 (W1.alloc (.cells #[.bool (decide (Z < 0)), .slice A3 (digs Z.natAbs).length c3, .bool false, .slice A4 (digs D).length c4] 30)) := (Below.refl _ _).alloc (Nat.le_refl _) _
  have F2 := (HB.out.F.after hb1).after hu
  clear hk hb1 R3 R4 R R' a0 a1 b0 b1 HB
  go_upto_region 2 with fail
  obtain ⟨U, hU⟩ : ∃ U, U = W1.alloc (.cells #[.bool (decide (Z < 0)), .slice A3 (digs Z.natAbs).length c3, .bool false, .slice A4 (digs D).length c4] 30) := ⟨_, rfl⟩
  rw [← hU] at hf F2 ⊢
  generalize W1.heap.size = g at *
  clear hU hu
  have r0 := F2.r0
  have r1 := F2.r1
  have r2 := F2.r2
  have r3 := F2.r3
  have f0 := F2.fr 0
  have f1 := F2.fr 1
  have f2 := F2.fr 2
  have f3 := F2.fr 3
  have x0 := hf.c0
  have x1 := hf.c1
  have x2 := hf.c2
  have x3 := hf.c3
  by_cases hfit : fits Z D = true
  · have hz : (digs Z.natAbs).length ≤ 256 ∧ (digs D).length ≤ 256 := by
      unfold fits at hfit
      rw [Bool.and_eq_true, decide_eq_true_eq, decide_eq_true_eq] at hfit
      exact hfit
    obtain ⟨hz1, hz2⟩ := hz
    obtain ⟨e, d0, d1, d2, d3⟩ := F2.filled hf.R hf.R' _ rfl
    have HE := Lib.hid (And.intro e (And.intro d0 (And.intro d1 (And.intro d2 d3))))
    have HFit := Lib.hid hfit
    clear e d0 d1 d2 d3 F2 hf hfit
    go_wp2_with fail
    (try simp only [Exit.inBlock, Exit.then])
    refine bodyPost_ret (results_frac rfl _ _ (w.heap.size + 1 + 1) rfl HE.out.2.1 HE.out.2.2.1 HE.out.2.2.2.1 HE.out.2.2.2.2) rfl ?_
    have l1 : fits Z D = true := HFit.out
    unfold Low
    rw [← HK.out.1, ← HK.out.2]
    exact ⟨_, by rw [if_pos l1]; rfl, by rw [if_pos l1, if_pos l1]; exact HE.out.1.1, HE.out.1.2⟩
  · obtain ⟨e, d0, d1, d2, d3⟩ := F2.filled (z := 0) (d := 0) (A := none) (c := 0) (A' := none) (c' := 0) (by rw [show digs (0 : Int).natAbs = [] from digs_zero]; exact Rd.nil _ _ _ _) (by rw [digs_zero]; exact Rd.nil _ _ _ _) _ rfl
    simp only [show digs (0 : Int).natAbs = [] from digs_zero, digs_zero, List.length_nil, show decide ((0 : Int) < 0) = false from rfl] at e d0 d1 d2 d3
    have HE := Lib.hid (And.intro e (And.intro d0 (And.intro d1 (And.intro d2 d3))))
    have HFit := Lib.hid hfit
    have hz : 256 < (digs Z.natAbs).length ∨ ((digs Z.natAbs).length ≤ 256 ∧ 256 < (digs D).length) := by
      unfold fits at hfit
      rw [Bool.and_eq_true, decide_eq_true_eq, decide_eq_true_eq] at hfit
      omega
    clear e d0 d1 d2 d3 F2 hf hfit
    rcases hz with hz1 | ⟨hz1, hz2⟩
    all_goals (
      go_wp2_with fail
      (try simp only [Exit.inBlock, Exit.then])
      refine bodyPost_ret (results_frac rfl _ _ (w.heap.size + 1 + 1) rfl HE.out.2.1 HE.out.2.2.1 HE.out.2.2.2.1 HE.out.2.2.2.2) rfl ?_
      have l1 : ¬ fits Z D = true := HFit.out
      unfold Low
      rw [← HK.out.1, ← HK.out.2]
      exact ⟨_, by rw [if_neg l1]; rfl, by rw [if_neg l1, if_neg l1]; exact HE.out.1.1, HE.out.1.2⟩)
end Go.Proofs.YtbeidpeoichakaaGreatDoor.ta

/- The reference: Add, Sub, Mul, Div of fractions that are valid (made by gen-Tb.py). -/
set_option linter.unusedSimpArgs false
set_option linter.unusedVariables false
namespace Go.Proofs.YtbeidpeoichakaaGreatDoor.tb
open Go.RowKit Go.Proofs.YtbeidpeoichakaaGreatDoor.fm Go.Proofs.YtbeidpeoichakaaGreatDoor.mem Go.Proofs.YtbeidpeoichakaaGreatDoor.fa Go.Proofs.YtbeidpeoichakaaGreatDoor.fb Go.Proofs.YtbeidpeoichakaaGreatDoor.fu Go.Proofs.YtbeidpeoichakaaGreatDoor.fv Go.Proofs.YtbeidpeoichakaaGreatDoor.fw Go.Proofs.YtbeidpeoichakaaGreatDoor.fy Go.Proofs.YtbeidpeoichakaaGreatDoor.ga Go.Proofs.YtbeidpeoichakaaGreatDoor.gb Go.Proofs.YtbeidpeoichakaaGreatDoor.gc Go.Proofs.YtbeidpeoichakaaGreatDoor.fj Go.Proofs.YtbeidpeoichakaaGreatDoor.gg Go.Proofs.YtbeidpeoichakaaGreatDoor.ja Go.Proofs.YtbeidpeoichakaaGreatDoor.jb Go.Proofs.YtbeidpeoichakaaGreatDoor.jg Go.Proofs.YtbeidpeoichakaaGreatDoor.jh Go.Proofs.YtbeidpeoichakaaGreatDoor.pa Go.Proofs.YtbeidpeoichakaaGreatDoor.pb Go.Proofs.YtbeidpeoichakaaGreatDoor.pc Go.Proofs.YtbeidpeoichakaaGreatDoor.nb Go.Proofs.YtbeidpeoichakaaGreatDoor.hc Go.Proofs.YtbeidpeoichakaaGreatDoor.hd Go.Proofs.YtbeidpeoichakaaGreatDoor.re Go.Proofs.YtbeidpeoichakaaGreatDoor.sa Go.Proofs.YtbeidpeoichakaaGreatDoor.sb Go.Proofs.YtbeidpeoichakaaGreatDoor.sc Go.Proofs.YtbeidpeoichakaaGreatDoor.ta

/-- two fractions and a result in boxes of their own -/
structure FR (w W : World) (x : Int) (d : Nat) (A : Option Addr) (c : Nat) (B : Option Addr) (k : Nat) (y : Int) (e : Nat) (A' : Option Addr) (c' : Nat) (B' : Option Addr) (k' : Nat) : Prop where
  ff : FF w W w.heap.size x d A c B k y e A' c' B' k'
  F : FBox w W (w.heap.size + 1 + 1)
section
variable {w W W' : World} {x y : Int} {d e : Nat} {A B A' B' : Option Addr} {c k c' k' : Nat}
theorem FR.after (S : FR w W x d A c B k y e A' c' B' k') (h : Below W.heap.size W W') : FR w W' x d A c B k y e A' c' B' k' := ⟨S.ff.after h, S.F.after h⟩
theorem fr_new (RA : Rd w w.heap.size A c (digs x.natAbs)) (RB : Rd w w.heap.size B k (digs d)) (RA' : Rd w w.heap.size A' c' (digs y.natAbs)) (RB' : Rd w w.heap.size B' k' (digs e)) (t : TypeId) :
    FR w (((w.alloc (.cells #[.bool (decide (x < 0)), .slice A (digs x.natAbs).length c, .bool false, .slice B (digs d).length k] t)).alloc (.cells #[.bool (decide (y < 0)), .slice A' (digs y.natAbs).length c', .bool false, .slice B' (digs e).length k'] t)).alloc (.cells #[.bool false, .slice none 0 0, .bool false, .slice none 0 0] t)) x d A c B k y e A' c' B' k' := by
  have hF := ff_new RA RB RA' RB' t
  obtain ⟨V, hV⟩ : ∃ V, V = (w.alloc (.cells #[.bool (decide (x < 0)), .slice A (digs x.natAbs).length c, .bool false, .slice B (digs d).length k] t)).alloc (.cells #[.bool (decide (y < 0)), .slice A' (digs y.natAbs).length c', .bool false, .slice B' (digs e).length k'] t) := ⟨_, rfl⟩
  have hsz : V.heap.size = w.heap.size + 1 + 1 := by rw [hV]; simp
  rw [← hV] at hF ⊢
  refine ⟨hF.after ((Below.refl _ _).alloc (Nat.le_refl _) _), ?_⟩
  have h1 := hF.bel
  rw [← hsz]
  refine ⟨h1.trans (((Below.refl _ _).alloc (Nat.le_refl _) _).mono h1.size), h1.size, by simp, ?_, ?_, ?_, ?_, ?_⟩
  all_goals first | (intro k; simp [go_sem]) | simp [go_sem]
theorem FR.put (S : FR w W x d A c B k y e A' c' B' k') (v0 v1 v2 v3 : Value) {W' : World} (hW : W' = fput W (w.heap.size + 1 + 1) v0 v1 v2 v3) :
    W'.cell? ⟨w.heap.size, 0, none⟩ = some (.bool (decide (x < 0))) ∧ W'.cell? ⟨w.heap.size, 1, none⟩ = some (.slice A (digs x.natAbs).length c) ∧ W'.cell? ⟨w.heap.size, 2, none⟩ = some (.bool false) ∧ W'.cell? ⟨w.heap.size, 3, none⟩ = some (.slice B (digs d).length k) ∧
    W'.cell? ⟨w.heap.size + 1, 0, none⟩ = some (.bool (decide (y < 0))) ∧ W'.cell? ⟨w.heap.size + 1, 1, none⟩ = some (.slice A' (digs y.natAbs).length c') ∧ W'.cell? ⟨w.heap.size + 1, 2, none⟩ = some (.bool false) ∧ W'.cell? ⟨w.heap.size + 1, 3, none⟩ = some (.slice B' (digs e).length k') := by
  have key : ∀ b i, b ≤ w.heap.size + 1 → W'.cell? ⟨b, i, none⟩ = W.cell? ⟨b, i, none⟩ := by
    intro b i hb
    rw [hW]
    unfold fput
    exact (World.cell?_setCell_other _ _ _ _ (by intro h; injection h with h; omega)).trans ((World.cell?_setCell_other _ _ _ _ (by intro h; injection h with h; omega)).trans ((World.cell?_setCell_other _ _ _ _ (by intro h; injection h with h; omega)).trans (World.cell?_setCell_other _ _ _ _ (by intro h; injection h with h; omega))))
  obtain ⟨h0, h1, h2, h3, h4, h5, h6, h7⟩ := S.ff.held
  exact ⟨(key _ _ (by omega)).trans h0, (key _ _ (by omega)).trans h1, (key _ _ (by omega)).trans h2, (key _ _ (by omega)).trans h3, (key _ _ (by omega)).trans h4, (key _ _ (by omega)).trans h5, (key _ _ (by omega)).trans h6, (key _ _ (by omega)).trans h7⟩
end
theorem len_plus1 (n : Nat) {x y : Int} (h : (digs x.natAbs).length ≤ n) (h' : (digs y.natAbs).length ≤ n) : (digs (x + y).natAbs).length ≤ n + 1 := by
  rw [lt_len_iff] at h h' ⊢
  have : (x + y).natAbs ≤ x.natAbs + y.natAbs := Int.natAbs_add_le x y
  rw [Nat.pow_succ]
  generalize (4294967296 : Nat) ^ n = M at *
  omega
theorem len_plus {x y : Int} (h : (digs x.natAbs).length ≤ 600) (h' : (digs y.natAbs).length ≤ 600) : (digs (x + y).natAbs).length ≤ 601 := len_plus1 600 h h'
theorem turned_pos {x y : Int} (h : 0 < y) : turned x y = x := by
  unfold turned
  rw [decide_eq_false (show ¬ y < 0 by omega), Bool.bne_false]
  unfold sgnd
  by_cases hx : x < 0
  · rw [decide_eq_true hx]; simp; omega
  · rw [decide_eq_false hx]; simp; omega
theorem turned_sign {x y : Int} (h : y ≠ 0) : turned x y = x * y.sign := by
  rcases Int.lt_or_gt_of_ne h with h1 | h1
  · rw [Int.sign_eq_neg_one_of_neg h1]
    unfold turned
    rw [decide_eq_true h1]
    unfold sgnd
    by_cases hx : x < 0
    · rw [decide_eq_true hx]; simp; omega
    · rw [decide_eq_false hx]; simp; omega
  · rw [Int.sign_eq_one_of_pos h1, turned_pos h1]; omega

set_option maxRecDepth 100000 in
set_option maxHeartbeats 4000000 in
theorem radd_any (w : World) (a b : Value) (x y : Int) (d e : Nat) (ha : IsFrac w a x d) (hb : IsFrac w b y e) (lx : (digs x.natAbs).length ≤ 256) (ld : (digs d).length ≤ 256) (ly : (digs y.natAbs).length ≤ 256) (le : (digs e).length ≤ 256) (hd : d ≠ 0) (he : e ≠ 0) (ga : lowB x d = true) (gb : lowB y e = true) :
    Calls Tryz.prog 12 #[a, b] w (Low w (x * e + y * d) (d * e)) := by
  obtain ⟨A, c, B, k, rfl, RA, RB⟩ := ha
  obtain ⟨A', c', B', k', rfl, RA', RB'⟩ := hb
  go_enter Tryz.func12, Tryz.ntmps12
  have hF := fr_new RA RB RA' RB' 30
  obtain ⟨W, hW⟩ : ∃ W, W = (((w.alloc (.cells #[.bool (decide (x < 0)), .slice A (digs x.natAbs).length c, .bool false, .slice B (digs d).length k] 30)).alloc (.cells #[.bool (decide (y < 0)), .slice A' (digs y.natAbs).length c', .bool false, .slice B' (digs e).length k'] 30)).alloc (.cells #[.bool false, .slice none 0 0, .bool false, .slice none 0 0] 30)) := ⟨_, rfl⟩
  rw [← hW] at hF
  have H := Lib.hid hF
  obtain ⟨c0, c1, c2, c3, _, _, _, _⟩ := hF.ff.held
  have nx : (digs (x * (e : Int)).natAbs).length ≤ 600 := Nat.le_trans (len_mul 256 256 lx (by rw [Int.natAbs_natCast]; exact le)) (by decide)
  have ny : (digs (y * (d : Int)).natAbs).length ≤ 600 := Nat.le_trans (len_mul 256 256 ly (by rw [Int.natAbs_natCast]; exact ld)) (by decide)
  have nxy : (digs (x * y).natAbs).length ≤ 600 := Nat.le_trans (len_mul 256 256 lx ly) (by decide)
  have nde : (digs ((d : Int) * (e : Int)).natAbs).length ≤ 600 := Nat.le_trans (len_mul 256 256 (by rw [Int.natAbs_natCast]; exact ld) (by rw [Int.natAbs_natCast]; exact le)) (by decide)
  have ndy : (digs ((d : Int) * y).natAbs).length ≤ 600 := Nat.le_trans (len_mul 256 256 (by rw [Int.natAbs_natCast]; exact ld) ly) (by decide)
  have pde : (0 : Int) < (d : Int) * (e : Int) := Int.mul_pos (by omega) (by omega)
  have HN := Lib.hid (And.intro nx (And.intro ny (And.intro nxy (And.intro nde (And.intro ndy pde)))))
  clear hF RA RB RA' RB' nx ny nxy nde ndy pde
  go_upto_region 1 with fail
  rw [← hW]
  clear hW
  go_wp2_with fail
  refine (rvalid_any W _ x d H.out.ff.a.frac lx ld hd).mono ?_
  rintro _ W1 ⟨rfl, hb1⟩
  rw [ga]
  have H1 := Lib.hid (H.out.after hb1)
  clear hb1 c0 c1 c2 c3 H
  obtain ⟨_, _, _, _, c0, c1, c2, c3⟩ := H1.out.ff.held
  go_wp2_with fail
  refine (rvalid_any W1 _ y e H1.out.ff.b.frac ly le he).mono ?_
  rintro _ W2 ⟨rfl, hb2⟩
  rw [gb]
  have H2 := Lib.hid (And.intro (H1.out.after hb2) True.intro)
  have H20 := Lib.hid (And.intro (H2.out.1.after (Below.refl _ _).drew) True.intro)
  clear hb2 c0 c1 c2 c3 H1
  obtain ⟨a0, a1, a2, a3, b0, b1, b2, b3⟩ := H2.out.1.ff.held
  go_upto_region 3 with fail
  go_region_held3 (fun w' => w'.cell? ⟨w.heap.size, 0, none⟩ = some (.bool (decide (x < 0))) ∧ w'.cell? ⟨w.heap.size, 1, none⟩ = some (.slice A (digs x.natAbs).length c) ∧ w'.cell? ⟨w.heap.size, 2, none⟩ = some (.bool false) ∧ w'.cell? ⟨w.heap.size, 3, none⟩ = some (.slice B (digs d).length k) ∧ w'.cell? ⟨w.heap.size + 1, 0, none⟩ = some (.bool (decide (y < 0))) ∧ w'.cell? ⟨w.heap.size + 1, 1, none⟩ = some (.slice A' (digs y.natAbs).length c') ∧ w'.cell? ⟨w.heap.size + 1, 2, none⟩ = some (.bool false) ∧ w'.cell? ⟨w.heap.size + 1, 3, none⟩ = some (.slice B' (digs e).length k'))
    (first | with_reducible exact H20.out.1.ff.held | with_reducible exact H21.out.1.ff.held | with_reducible exact H22.out.1.ff.held | with_reducible exact H23.out.1.ff.held | with_reducible exact H24.out.1.ff.held | with_reducible exact H25.out.1.ff.held | exact FR.put H25.out.1 _ _ _ _ rfl)
    (first
      | (go_at_call 45; refine (rresult_any V24 _ _ _ _ H24.out.2.2.2.1 H24.out.2.2.2.2 (Nat.le_trans (len_plus HN.out.1 HN.out.2.1) (by decide)) (by have := HN.out.2.2.2.1; omega) (by have := HN.out.2.2.2.2.2; omega)).mono ?_; rintro _ V25 hl
         obtain ⟨A9, c9, B9, k9, Z9, D9, e9, rfl, R9, S9, hb, HK9⟩ := frac_open hl
         have H25 := Lib.hid (And.intro (H24.out.1.after hb) (And.intro R9 (And.intro S9 HK9)))
         have r0 := H25.out.1.F.r0
         have r1 := H25.out.1.F.r1
         have r2 := H25.out.1.F.r2
         have r3 := H25.out.1.F.r3
         have f0 := H25.out.1.F.fr 0
         have f1 := H25.out.1.F.fr 1
         have f2 := H25.out.1.F.fr 2
         have f3 := H25.out.1.F.fr 3
         clear hb R9 S9 HK9 hl)
      | (have H := H23; go_at_call 9; refine (rtimes_any 256 V23 _ _ _ _ H23.out.1.ff.a.den H23.out.1.ff.b.den (by rw [Int.natAbs_natCast]; exact ld) (by rw [Int.natAbs_natCast]; exact le) (by omega)).mono ?_; rintro _ V24 ⟨v24, rfl, Bv, hb⟩
         have H24 := Lib.hid (And.intro (H23.out.1.after hb) (And.intro (H23.out.2.1.below hb) (And.intro (H23.out.2.2.1.below hb) (And.intro (H23.out.2.2.2.below hb) Bv))))
         clear hb Bv H)
      | (go_at_call 46; refine (rplus_any 600 V22 _ _ _ _ H22.out.2.1 H22.out.2.2 HN.out.1 HN.out.2.1 (by omega)).mono ?_; rintro _ V23 ⟨v23, rfl, Bv, hb⟩
         have H23 := Lib.hid (And.intro (H22.out.1.after hb) (And.intro (H22.out.2.1.below hb) (And.intro (H22.out.2.2.below hb) Bv)))
         clear hb Bv)
      | (have H := H21; go_at_call 9; refine (rtimes_any 256 V21 _ _ _ _ H21.out.1.ff.b.num H21.out.1.ff.a.den ly (by rw [Int.natAbs_natCast]; exact ld) (by omega)).mono ?_; rintro _ V22 ⟨v22, rfl, Bv, hb⟩
         have H22 := Lib.hid (And.intro (H21.out.1.after hb) (And.intro (H21.out.2.below hb) Bv))
         clear hb Bv H)
      | (go_at_call 9; refine (rtimes_any 256 W2.drew _ _ _ _ H20.out.1.ff.a.num H20.out.1.ff.b.den lx (by rw [Int.natAbs_natCast]; exact le) (by omega)).mono ?_; rintro _ V21 ⟨v21, rfl, Bv, hb⟩
         have H21 := Lib.hid (And.intro (H20.out.1.after hb) Bv)
         clear hb Bv))
  rename_i hHeld
  obtain ⟨e0, d0, d1, d2, d3⟩ := H25.out.1.F.filled H25.out.2.1 H25.out.2.2.1 _ rfl
  have HE := Lib.hid (And.intro e0 (And.intro d0 (And.intro d1 (And.intro d2 d3))))
  have HK := H25.out.2.2.2
  clear hHeld e0 d0 d1 d2 d3 a0 a1 a2 a3 b0 b1 b2 b3 r0 r1 r2 r3 f0 f1 f2 f3 H2 H20 H21 H22 H23 H24 H25
  go_wp2
  (try simp only [Exit.inBlock, Exit.then])
  refine bodyPost_ret (results_frac rfl _ _ (w.heap.size + 1 + 1) rfl HE.out.2.1 HE.out.2.2.1 HE.out.2.2.2.1 HE.out.2.2.2.2) rfl ?_
  have hs := frac_shut HK HE.out.1.1 HE.out.1.2
  unfold Low
  rw [turned_pos HN.out.2.2.2.2.2] at hs
  rw [show ((d : Int) * (e : Int)).natAbs = d * e by rw [Int.natAbs_mul, Int.natAbs_natCast, Int.natAbs_natCast]] at hs
  exact hs

set_option maxRecDepth 100000 in
set_option maxHeartbeats 4000000 in
theorem rsub_any (w : World) (a b : Value) (x y : Int) (d e : Nat) (ha : IsFrac w a x d) (hb : IsFrac w b y e) (lx : (digs x.natAbs).length ≤ 256) (ld : (digs d).length ≤ 256) (ly : (digs y.natAbs).length ≤ 256) (le : (digs e).length ≤ 256) (hd : d ≠ 0) (he : e ≠ 0) (ga : lowB x d = true) (gb : lowB y e = true) :
    Calls Tryz.prog 15 #[a, b] w (Low w (x * e + (-y) * d) (d * e)) := by
  obtain ⟨A, c, B, k, rfl, RA, RB⟩ := ha
  obtain ⟨A', c', B', k', rfl, RA', RB'⟩ := hb
  go_enter Tryz.func15, Tryz.ntmps15
  have hF := fr_new RA RB RA' RB' 30
  obtain ⟨W, hW⟩ : ∃ W, W = (((w.alloc (.cells #[.bool (decide (x < 0)), .slice A (digs x.natAbs).length c, .bool false, .slice B (digs d).length k] 30)).alloc (.cells #[.bool (decide (y < 0)), .slice A' (digs y.natAbs).length c', .bool false, .slice B' (digs e).length k'] 30)).alloc (.cells #[.bool false, .slice none 0 0, .bool false, .slice none 0 0] 30)) := ⟨_, rfl⟩
  rw [← hW] at hF
  have H := Lib.hid hF
  obtain ⟨c0, c1, c2, c3, _, _, _, _⟩ := hF.ff.held
  have nx : (digs (x * (e : Int)).natAbs).length ≤ 600 := Nat.le_trans (len_mul 256 256 lx (by rw [Int.natAbs_natCast]; exact le)) (by decide)
  have ny : (digs (y * (d : Int)).natAbs).length ≤ 600 := Nat.le_trans (len_mul 256 256 ly (by rw [Int.natAbs_natCast]; exact ld)) (by decide)
  have nxy : (digs (x * y).natAbs).length ≤ 600 := Nat.le_trans (len_mul 256 256 lx ly) (by decide)
  have nde : (digs ((d : Int) * (e : Int)).natAbs).length ≤ 600 := Nat.le_trans (len_mul 256 256 (by rw [Int.natAbs_natCast]; exact ld) (by rw [Int.natAbs_natCast]; exact le)) (by decide)
  have ndy : (digs ((d : Int) * y).natAbs).length ≤ 600 := Nat.le_trans (len_mul 256 256 (by rw [Int.natAbs_natCast]; exact ld) ly) (by decide)
  have pde : (0 : Int) < (d : Int) * (e : Int) := Int.mul_pos (by omega) (by omega)
  have HN := Lib.hid (And.intro nx (And.intro ny (And.intro nxy (And.intro nde (And.intro ndy pde)))))
  clear hF RA RB RA' RB' nx ny nxy nde ndy pde
  go_upto_region 1 with fail
  rw [← hW]
  clear hW
  go_wp2_with fail
  refine (rvalid_any W _ x d H.out.ff.a.frac lx ld hd).mono ?_
  rintro _ W1 ⟨rfl, hb1⟩
  rw [ga]
  have H1 := Lib.hid (H.out.after hb1)
  clear hb1 c0 c1 c2 c3 H
  obtain ⟨_, _, _, _, c0, c1, c2, c3⟩ := H1.out.ff.held
  go_wp2_with fail
  refine (rvalid_any W1 _ y e H1.out.ff.b.frac ly le he).mono ?_
  rintro _ W2 ⟨rfl, hb2⟩
  rw [gb]
  have H2 := Lib.hid (And.intro (H1.out.after hb2) True.intro)
  have H20 := Lib.hid (And.intro (H2.out.1.after (Below.refl _ _).drew) True.intro)
  clear hb2 c0 c1 c2 c3 H1
  obtain ⟨a0, a1, a2, a3, b0, b1, b2, b3⟩ := H2.out.1.ff.held
  go_upto_region 3 with fail
  go_region_held3 (fun w' => w'.cell? ⟨w.heap.size, 0, none⟩ = some (.bool (decide (x < 0))) ∧ w'.cell? ⟨w.heap.size, 1, none⟩ = some (.slice A (digs x.natAbs).length c) ∧ w'.cell? ⟨w.heap.size, 2, none⟩ = some (.bool false) ∧ w'.cell? ⟨w.heap.size, 3, none⟩ = some (.slice B (digs d).length k) ∧ w'.cell? ⟨w.heap.size + 1, 0, none⟩ = some (.bool (decide (y < 0))) ∧ w'.cell? ⟨w.heap.size + 1, 1, none⟩ = some (.slice A' (digs y.natAbs).length c') ∧ w'.cell? ⟨w.heap.size + 1, 2, none⟩ = some (.bool false) ∧ w'.cell? ⟨w.heap.size + 1, 3, none⟩ = some (.slice B' (digs e).length k'))
    (first | with_reducible exact H20.out.1.ff.held | with_reducible exact H21.out.1.ff.held | with_reducible exact H22.out.1.ff.held | with_reducible exact H23.out.1.ff.held | with_reducible exact H24.out.1.ff.held | with_reducible exact H25.out.1.ff.held | with_reducible exact H26.out.1.ff.held | exact FR.put H26.out.1 _ _ _ _ rfl)
    (first
      | (go_at_call 45; refine (rresult_any V25 _ _ _ _ H25.out.2.2.2.2.1 H25.out.2.2.2.2.2 (Nat.le_trans (len_plus HN.out.1 (by rw [Int.natAbs_neg]; exact HN.out.2.1)) (by decide)) (by have := HN.out.2.2.2.1; omega) (by have := HN.out.2.2.2.2.2; omega)).mono ?_; rintro _ V26 hl
         obtain ⟨A9, c9, B9, k9, Z9, D9, e9, rfl, R9, S9, hb, HK9⟩ := frac_open hl
         have H26 := Lib.hid (And.intro (H25.out.1.after hb) (And.intro R9 (And.intro S9 HK9)))
         have r0 := H26.out.1.F.r0
         have r1 := H26.out.1.F.r1
         have r2 := H26.out.1.F.r2
         have r3 := H26.out.1.F.r3
         have f0 := H26.out.1.F.fr 0
         have f1 := H26.out.1.F.fr 1
         have f2 := H26.out.1.F.fr 2
         have f3 := H26.out.1.F.fr 3
         clear hb R9 S9 HK9 hl)
      | (have H := H24; go_at_call 9; refine (rtimes_any 256 V24 _ _ _ _ H24.out.1.ff.a.den H24.out.1.ff.b.den (by rw [Int.natAbs_natCast]; exact ld) (by rw [Int.natAbs_natCast]; exact le) (by omega)).mono ?_; rintro _ V25 ⟨v25, rfl, Bv, hb⟩
         have H25 := Lib.hid (And.intro (H24.out.1.after hb) (And.intro (H24.out.2.1.below hb) (And.intro (H24.out.2.2.1.below hb) (And.intro (H24.out.2.2.2.1.below hb) (And.intro (H24.out.2.2.2.2.below hb) Bv)))))
         clear hb Bv H)
      | (go_at_call 46; refine (rplus_any 600 V23 _ _ _ _ H23.out.2.1 H23.out.2.2.2 HN.out.1 (by rw [Int.natAbs_neg]; exact HN.out.2.1) (by omega)).mono ?_; rintro _ V24 ⟨v24, rfl, Bv, hb⟩
         have H24 := Lib.hid (And.intro (H23.out.1.after hb) (And.intro (H23.out.2.1.below hb) (And.intro (H23.out.2.2.1.below hb) (And.intro (H23.out.2.2.2.below hb) Bv))))
         clear hb Bv)
      | (go_at_call 49; refine (rminus_any V22 _ _ H22.out.2.2 (by have := HN.out.2.1; omega)).mono ?_; rintro _ V23 ⟨v23, rfl, Bv, hb⟩
         have H23 := Lib.hid (And.intro (H22.out.1.after hb) (And.intro (H22.out.2.1.below hb) (And.intro (H22.out.2.2.below hb) Bv)))
         clear hb Bv)
      | (have H := H21; go_at_call 9; refine (rtimes_any 256 V21 _ _ _ _ H21.out.1.ff.b.num H21.out.1.ff.a.den ly (by rw [Int.natAbs_natCast]; exact ld) (by omega)).mono ?_; rintro _ V22 ⟨v22, rfl, Bv, hb⟩
         have H22 := Lib.hid (And.intro (H21.out.1.after hb) (And.intro (H21.out.2.below hb) Bv))
         clear hb Bv H)
      | (go_at_call 9; refine (rtimes_any 256 W2.drew _ _ _ _ H20.out.1.ff.a.num H20.out.1.ff.b.den lx (by rw [Int.natAbs_natCast]; exact le) (by omega)).mono ?_; rintro _ V21 ⟨v21, rfl, Bv, hb⟩
         have H21 := Lib.hid (And.intro (H20.out.1.after hb) Bv)
         clear hb Bv))
  rename_i hHeld
  obtain ⟨e0, d0, d1, d2, d3⟩ := H26.out.1.F.filled H26.out.2.1 H26.out.2.2.1 _ rfl
  have HE := Lib.hid (And.intro e0 (And.intro d0 (And.intro d1 (And.intro d2 d3))))
  have HK := H26.out.2.2.2
  clear hHeld e0 d0 d1 d2 d3 a0 a1 a2 a3 b0 b1 b2 b3 r0 r1 r2 r3 f0 f1 f2 f3 H2 H20 H21 H22 H23 H24 H25 H26
  go_wp2
  (try simp only [Exit.inBlock, Exit.then])
  refine bodyPost_ret (results_frac rfl _ _ (w.heap.size + 1 + 1) rfl HE.out.2.1 HE.out.2.2.1 HE.out.2.2.2.1 HE.out.2.2.2.2) rfl ?_
  have hs := frac_shut HK HE.out.1.1 HE.out.1.2
  unfold Low
  rw [turned_pos HN.out.2.2.2.2.2] at hs
  rw [show ((d : Int) * (e : Int)).natAbs = d * e by rw [Int.natAbs_mul, Int.natAbs_natCast, Int.natAbs_natCast]] at hs
  rw [Int.neg_mul]
  exact hs

set_option maxRecDepth 100000 in
set_option maxHeartbeats 4000000 in
theorem rmul_any (w : World) (a b : Value) (x y : Int) (d e : Nat) (ha : IsFrac w a x d) (hb : IsFrac w b y e) (lx : (digs x.natAbs).length ≤ 256) (ld : (digs d).length ≤ 256) (ly : (digs y.natAbs).length ≤ 256) (le : (digs e).length ≤ 256) (hd : d ≠ 0) (he : e ≠ 0) (ga : lowB x d = true) (gb : lowB y e = true) :
    Calls Tryz.prog 17 #[a, b] w (Low w (x * y) (d * e)) := by
  obtain ⟨A, c, B, k, rfl, RA, RB⟩ := ha
  obtain ⟨A', c', B', k', rfl, RA', RB'⟩ := hb
  go_enter Tryz.func17, Tryz.ntmps17
  have hF := fr_new RA RB RA' RB' 30
  obtain ⟨W, hW⟩ : ∃ W, W = (((w.alloc (.cells #[.bool (decide (x < 0)), .slice A (digs x.natAbs).length c, .bool false, .slice B (digs d).length k] 30)).alloc (.cells #[.bool (decide (y < 0)), .slice A' (digs y.natAbs).length c', .bool false, .slice B' (digs e).length k'] 30)).alloc (.cells #[.bool false, .slice none 0 0, .bool false, .slice none 0 0] 30)) := ⟨_, rfl⟩
  rw [← hW] at hF
  have H := Lib.hid hF
  obtain ⟨c0, c1, c2, c3, _, _, _, _⟩ := hF.ff.held
  have nx : (digs (x * (e : Int)).natAbs).length ≤ 600 := Nat.le_trans (len_mul 256 256 lx (by rw [Int.natAbs_natCast]; exact le)) (by decide)
  have ny : (digs (y * (d : Int)).natAbs).length ≤ 600 := Nat.le_trans (len_mul 256 256 ly (by rw [Int.natAbs_natCast]; exact ld)) (by decide)
  have nxy : (digs (x * y).natAbs).length ≤ 600 := Nat.le_trans (len_mul 256 256 lx ly) (by decide)
  have nde : (digs ((d : Int) * (e : Int)).natAbs).length ≤ 600 := Nat.le_trans (len_mul 256 256 (by rw [Int.natAbs_natCast]; exact ld) (by rw [Int.natAbs_natCast]; exact le)) (by decide)
  have ndy : (digs ((d : Int) * y).natAbs).length ≤ 600 := Nat.le_trans (len_mul 256 256 (by rw [Int.natAbs_natCast]; exact ld) ly) (by decide)
  have pde : (0 : Int) < (d : Int) * (e : Int) := Int.mul_pos (by omega) (by omega)
  have HN := Lib.hid (And.intro nx (And.intro ny (And.intro nxy (And.intro nde (And.intro ndy pde)))))
  clear hF RA RB RA' RB' nx ny nxy nde ndy pde
  go_upto_region 1 with fail
  rw [← hW]
  clear hW
  go_wp2_with fail
  refine (rvalid_any W _ x d H.out.ff.a.frac lx ld hd).mono ?_
  rintro _ W1 ⟨rfl, hb1⟩
  rw [ga]
  have H1 := Lib.hid (H.out.after hb1)
  clear hb1 c0 c1 c2 c3 H
  obtain ⟨_, _, _, _, c0, c1, c2, c3⟩ := H1.out.ff.held
  go_wp2_with fail
  refine (rvalid_any W1 _ y e H1.out.ff.b.frac ly le he).mono ?_
  rintro _ W2 ⟨rfl, hb2⟩
  rw [gb]
  have H2 := Lib.hid (And.intro (H1.out.after hb2) True.intro)
  have H20 := Lib.hid (And.intro (H2.out.1.after (Below.refl _ _).drew) True.intro)
  clear hb2 c0 c1 c2 c3 H1
  obtain ⟨a0, a1, a2, a3, b0, b1, b2, b3⟩ := H2.out.1.ff.held
  go_upto_region 3 with fail
  go_region_held3 (fun w' => w'.cell? ⟨w.heap.size, 0, none⟩ = some (.bool (decide (x < 0))) ∧ w'.cell? ⟨w.heap.size, 1, none⟩ = some (.slice A (digs x.natAbs).length c) ∧ w'.cell? ⟨w.heap.size, 2, none⟩ = some (.bool false) ∧ w'.cell? ⟨w.heap.size, 3, none⟩ = some (.slice B (digs d).length k) ∧ w'.cell? ⟨w.heap.size + 1, 0, none⟩ = some (.bool (decide (y < 0))) ∧ w'.cell? ⟨w.heap.size + 1, 1, none⟩ = some (.slice A' (digs y.natAbs).length c') ∧ w'.cell? ⟨w.heap.size + 1, 2, none⟩ = some (.bool false) ∧ w'.cell? ⟨w.heap.size + 1, 3, none⟩ = some (.slice B' (digs e).length k'))
    (first | with_reducible exact H20.out.1.ff.held | with_reducible exact H21.out.1.ff.held | with_reducible exact H22.out.1.ff.held | with_reducible exact H23.out.1.ff.held | exact FR.put H23.out.1 _ _ _ _ rfl)
    (first
      | (go_at_call 45; refine (rresult_any V22 _ _ _ _ H22.out.2.1 H22.out.2.2 (by have := HN.out.2.2.1; omega) (by have := HN.out.2.2.2.1; omega) (by have := HN.out.2.2.2.2.2; omega)).mono ?_; rintro _ V23 hl
         obtain ⟨A9, c9, B9, k9, Z9, D9, e9, rfl, R9, S9, hb, HK9⟩ := frac_open hl
         have H23 := Lib.hid (And.intro (H22.out.1.after hb) (And.intro R9 (And.intro S9 HK9)))
         have r0 := H23.out.1.F.r0
         have r1 := H23.out.1.F.r1
         have r2 := H23.out.1.F.r2
         have r3 := H23.out.1.F.r3
         have f0 := H23.out.1.F.fr 0
         have f1 := H23.out.1.F.fr 1
         have f2 := H23.out.1.F.fr 2
         have f3 := H23.out.1.F.fr 3
         clear hb R9 S9 HK9 hl)
      | (have H := H21; go_at_call 9; refine (rtimes_any 256 V21 _ _ _ _ H21.out.1.ff.a.den H21.out.1.ff.b.den (by rw [Int.natAbs_natCast]; exact ld) (by rw [Int.natAbs_natCast]; exact le) (by omega)).mono ?_; rintro _ V22 ⟨v22, rfl, Bv, hb⟩
         have H22 := Lib.hid (And.intro (H21.out.1.after hb) (And.intro (H21.out.2.below hb) Bv))
         clear hb Bv H)
      | (go_at_call 9; refine (rtimes_any 256 W2.drew _ _ _ _ H20.out.1.ff.a.num H20.out.1.ff.b.num lx ly (by omega)).mono ?_; rintro _ V21 ⟨v21, rfl, Bv, hb⟩
         have H21 := Lib.hid (And.intro (H20.out.1.after hb) Bv)
         clear hb Bv))
  rename_i hHeld
  obtain ⟨e0, d0, d1, d2, d3⟩ := H23.out.1.F.filled H23.out.2.1 H23.out.2.2.1 _ rfl
  have HE := Lib.hid (And.intro e0 (And.intro d0 (And.intro d1 (And.intro d2 d3))))
  have HK := H23.out.2.2.2
  clear hHeld e0 d0 d1 d2 d3 a0 a1 a2 a3 b0 b1 b2 b3 r0 r1 r2 r3 f0 f1 f2 f3 H2 H20 H21 H22 H23
  go_wp2
  (try simp only [Exit.inBlock, Exit.then])
  refine bodyPost_ret (results_frac rfl _ _ (w.heap.size + 1 + 1) rfl HE.out.2.1 HE.out.2.2.1 HE.out.2.2.2.1 HE.out.2.2.2.2) rfl ?_
  have hs := frac_shut HK HE.out.1.1 HE.out.1.2
  unfold Low
  rw [turned_pos HN.out.2.2.2.2.2] at hs
  rw [show ((d : Int) * (e : Int)).natAbs = d * e by rw [Int.natAbs_mul, Int.natAbs_natCast, Int.natAbs_natCast]] at hs
  exact hs

set_option maxRecDepth 100000 in
set_option maxHeartbeats 4000000 in
theorem rdiv_any (w : World) (a b : Value) (x y : Int) (d e : Nat) (ha : IsFrac w a x d) (hb : IsFrac w b y e) (lx : (digs x.natAbs).length ≤ 256) (ld : (digs d).length ≤ 256) (ly : (digs y.natAbs).length ≤ 256) (le : (digs e).length ≤ 256) (hd : d ≠ 0) (he : e ≠ 0) (ga : lowB x d = true) (gb : lowB y e = true) (hy : y ≠ 0) :
    Calls Tryz.prog 19 #[a, b] w (Low w (x * e * y.sign) (d * y.natAbs)) := by
  obtain ⟨A, c, B, k, rfl, RA, RB⟩ := ha
  obtain ⟨A', c', B', k', rfl, RA', RB'⟩ := hb
  go_enter Tryz.func19, Tryz.ntmps19
  have hF := fr_new RA RB RA' RB' 30
  obtain ⟨W, hW⟩ : ∃ W, W = (((w.alloc (.cells #[.bool (decide (x < 0)), .slice A (digs x.natAbs).length c, .bool false, .slice B (digs d).length k] 30)).alloc (.cells #[.bool (decide (y < 0)), .slice A' (digs y.natAbs).length c', .bool false, .slice B' (digs e).length k'] 30)).alloc (.cells #[.bool false, .slice none 0 0, .bool false, .slice none 0 0] 30)) := ⟨_, rfl⟩
  rw [← hW] at hF
  have H := Lib.hid hF
  obtain ⟨c0, c1, c2, c3, _, _, _, _⟩ := hF.ff.held
  have nx : (digs (x * (e : Int)).natAbs).length ≤ 600 := Nat.le_trans (len_mul 256 256 lx (by rw [Int.natAbs_natCast]; exact le)) (by decide)
  have ny : (digs (y * (d : Int)).natAbs).length ≤ 600 := Nat.le_trans (len_mul 256 256 ly (by rw [Int.natAbs_natCast]; exact ld)) (by decide)
  have nxy : (digs (x * y).natAbs).length ≤ 600 := Nat.le_trans (len_mul 256 256 lx ly) (by decide)
  have nde : (digs ((d : Int) * (e : Int)).natAbs).length ≤ 600 := Nat.le_trans (len_mul 256 256 (by rw [Int.natAbs_natCast]; exact ld) (by rw [Int.natAbs_natCast]; exact le)) (by decide)
  have ndy : (digs ((d : Int) * y).natAbs).length ≤ 600 := Nat.le_trans (len_mul 256 256 (by rw [Int.natAbs_natCast]; exact ld) ly) (by decide)
  have pde : (0 : Int) < (d : Int) * (e : Int) := Int.mul_pos (by omega) (by omega)
  have HY := Lib.hid (And.intro hy (show (d : Int) * y ≠ 0 from Int.mul_ne_zero (by omega) hy))
  have z1 : (((digs y.natAbs).length : Int) == 0) = false := beq_eq_false_iff_ne.2 (by have : (digs y.natAbs).length ≠ 0 := fun e => hy (by have := digs_len_zero.1 e; omega); omega)
  have HN := Lib.hid (And.intro nx (And.intro ny (And.intro nxy (And.intro nde (And.intro ndy pde)))))
  clear hF RA RB RA' RB' nx ny nxy nde ndy pde
  go_upto_region 1 with fail
  rw [← hW]
  clear hW
  go_wp2_with fail
  refine (rvalid_any W _ x d H.out.ff.a.frac lx ld hd).mono ?_
  rintro _ W1 ⟨rfl, hb1⟩
  rw [ga]
  have H1 := Lib.hid (H.out.after hb1)
  clear hb1 c0 c1 c2 c3 H
  obtain ⟨_, _, _, _, c0, c1, c2, c3⟩ := H1.out.ff.held
  go_wp2_with fail
  refine (rvalid_any W1 _ y e H1.out.ff.b.frac ly le he).mono ?_
  rintro _ W2 ⟨rfl, hb2⟩
  rw [gb]
  have H2 := Lib.hid (And.intro (H1.out.after hb2) True.intro)
  have H20 := Lib.hid (And.intro (H2.out.1.after (Below.refl _ _).drew) True.intro)
  clear hb2 c0 c1 c2 c3 H1
  obtain ⟨a0, a1, a2, a3, b0, b1, b2, b3⟩ := H2.out.1.ff.held
  go_upto_region 5 with fail
  go_region_held3 (fun w' => w'.cell? ⟨w.heap.size, 0, none⟩ = some (.bool (decide (x < 0))) ∧ w'.cell? ⟨w.heap.size, 1, none⟩ = some (.slice A (digs x.natAbs).length c) ∧ w'.cell? ⟨w.heap.size, 2, none⟩ = some (.bool false) ∧ w'.cell? ⟨w.heap.size, 3, none⟩ = some (.slice B (digs d).length k) ∧ w'.cell? ⟨w.heap.size + 1, 0, none⟩ = some (.bool (decide (y < 0))) ∧ w'.cell? ⟨w.heap.size + 1, 1, none⟩ = some (.slice A' (digs y.natAbs).length c') ∧ w'.cell? ⟨w.heap.size + 1, 2, none⟩ = some (.bool false) ∧ w'.cell? ⟨w.heap.size + 1, 3, none⟩ = some (.slice B' (digs e).length k'))
    (first | with_reducible exact H20.out.1.ff.held | with_reducible exact H21.out.1.ff.held | with_reducible exact H22.out.1.ff.held | with_reducible exact H23.out.1.ff.held | exact FR.put H23.out.1 _ _ _ _ rfl)
    (first
      | (go_at_call 45; refine (rresult_any V22 _ _ _ _ H22.out.2.1 H22.out.2.2 (by have := HN.out.1; omega) (by have := HN.out.2.2.2.2.1; omega) HY.out.2).mono ?_; rintro _ V23 hl
         obtain ⟨A9, c9, B9, k9, Z9, D9, e9, rfl, R9, S9, hb, HK9⟩ := frac_open hl
         have H23 := Lib.hid (And.intro (H22.out.1.after hb) (And.intro R9 (And.intro S9 HK9)))
         have r0 := H23.out.1.F.r0
         have r1 := H23.out.1.F.r1
         have r2 := H23.out.1.F.r2
         have r3 := H23.out.1.F.r3
         have f0 := H23.out.1.F.fr 0
         have f1 := H23.out.1.F.fr 1
         have f2 := H23.out.1.F.fr 2
         have f3 := H23.out.1.F.fr 3
         clear hb R9 S9 HK9 hl)
      | (have H := H21; go_at_call 9; refine (rtimes_any 256 V21 _ _ _ _ H21.out.1.ff.a.den H21.out.1.ff.b.num (by rw [Int.natAbs_natCast]; exact ld) ly (by omega)).mono ?_; rintro _ V22 ⟨v22, rfl, Bv, hb⟩
         have H22 := Lib.hid (And.intro (H21.out.1.after hb) (And.intro (H21.out.2.below hb) Bv))
         clear hb Bv H)
      | (go_at_call 9; refine (rtimes_any 256 W2.drew _ _ _ _ H20.out.1.ff.a.num H20.out.1.ff.b.den lx (by rw [Int.natAbs_natCast]; exact le) (by omega)).mono ?_; rintro _ V21 ⟨v21, rfl, Bv, hb⟩
         have H21 := Lib.hid (And.intro (H20.out.1.after hb) Bv)
         clear hb Bv))
  rename_i hHeld
  obtain ⟨e0, d0, d1, d2, d3⟩ := H23.out.1.F.filled H23.out.2.1 H23.out.2.2.1 _ rfl
  have HE := Lib.hid (And.intro e0 (And.intro d0 (And.intro d1 (And.intro d2 d3))))
  have HK := H23.out.2.2.2
  clear hHeld e0 d0 d1 d2 d3 a0 a1 a2 a3 b0 b1 b2 b3 r0 r1 r2 r3 f0 f1 f2 f3 H2 H20 H21 H22 H23
  go_wp2
  (try simp only [Exit.inBlock, Exit.then])
  refine bodyPost_ret (results_frac rfl _ _ (w.heap.size + 1 + 1) rfl HE.out.2.1 HE.out.2.2.1 HE.out.2.2.2.1 HE.out.2.2.2.2) rfl ?_
  have hs := frac_shut HK HE.out.1.1 HE.out.1.2
  unfold Low
  rw [turned_sign HY.out.2, Int.sign_mul, Int.sign_eq_one_of_pos (show (0 : Int) < (d : Int) by omega), Int.one_mul] at hs
  rw [show ((d : Int) * y).natAbs = d * y.natAbs by rw [Int.natAbs_mul, Int.natAbs_natCast]] at hs
  exact hs

end Go.Proofs.YtbeidpeoichakaaGreatDoor.tb
