/- fraction: Int, negated, SubBig. -/
import Derived.Test.YtbeidpeoichakaaGreatDoorFy
set_option linter.unusedSimpArgs false
namespace Go.Proofs.YtbeidpeoichakaaGreatDoor.ga
open Go.RowKit Go.Proofs.YtbeidpeoichakaaGreatDoor.fm Go.Proofs.YtbeidpeoichakaaGreatDoor.mem Go.Proofs.YtbeidpeoichakaaGreatDoor.fa Go.Proofs.YtbeidpeoichakaaGreatDoor.fb Go.Proofs.YtbeidpeoichakaaGreatDoor.fq Go.Proofs.YtbeidpeoichakaaGreatDoor.fr Go.Proofs.YtbeidpeoichakaaGreatDoor.ft Go.Proofs.YtbeidpeoichakaaGreatDoor.fu Go.Proofs.YtbeidpeoichakaaGreatDoor.fv Go.Proofs.YtbeidpeoichakaaGreatDoor.fw Go.Proofs.YtbeidpeoichakaaGreatDoor.fx Go.Proofs.YtbeidpeoichakaaGreatDoor.fy

theorem sgnd_not {z : Int} : sgnd (!decide (z < 0)) z.natAbs = -z := by
  unfold sgnd
  by_cases h : z < 0
  · rw [decide_eq_true h]; simp; omega
  · rw [decide_eq_false h]; simp; omega

set_option maxRecDepth 100000 in
set_option maxHeartbeats 1000000 in
theorem negated_any (w : World) (a : Value) (z : Int) (ha : IsBig w a z) :
    Calls Tryz.prog 48 #[a] w fun e w' => ∃ v, e = .returned v ∧ IsBig w' v (-z) ∧ Below w.heap.size w w' := by
  obtain ⟨A, c, rfl, R⟩ := ha
  go_enter Tryz.func48, Tryz.ntmps48
  have hB : Box w ((w.alloc (.cells #[.bool (decide (z < 0)), .slice A (digs z.natAbs).length c] 28)).alloc (.cells #[.bool false, .slice none 0 0] 28)) (w.heap.size + 1) :=
    ⟨((Below.refl _ _).alloc (Nat.le_refl _) _).alloc (by simp) _, by omega, by simp, by simp [go_sem], by simp [go_sem], fun k => by simp [go_sem]⟩
  have HB := Lib.hid hB
  clear hB
  go_wp2_with fail
  refine (big_any _ (!decide (z < 0)) A c z.natAbs ((R.below HB.out.bel).more HB.out.bel.size)).mono ?_
  rintro _ W2 ⟨v2, rfl, hI, hb2⟩
  rw [sgnd_not] at hI
  have B2 := HB.out.after hb2
  obtain ⟨Z, hZ⟩ : ∃ Z, Z = -z := ⟨_, rfl⟩
  rw [← hZ] at hI
  have HZ := Lib.hid hZ
  clear hZ
  obtain ⟨A2, c2, rfl, R2⟩ := hI
  have r0 := B2.r0
  have r1 := B2.r1
  have f0 := B2.fr 0
  have f1 := B2.fr 1
  obtain ⟨e1, e2, e3, e4⟩ := B2.filled R2
  have HC := Lib.hid (And.intro e3 e4)
  have HE := Lib.hid (And.intro e1 e2)
  clear e1 e2 e3 e4 R2 B2 hb2 HB R
  go_wp2
  (try simp only [Exit.inBlock, Exit.then])
  refine bodyPost_ret (results_big1 rfl _ _ (w.heap.size + 1) rfl HC.out.1 HC.out.2) rfl ?_
  exact ⟨_, rfl, by rw [← HZ.out]; exact HE.out.1, HE.out.2⟩

end Go.Proofs.YtbeidpeoichakaaGreatDoor.ga

/- fraction: lowest. -/
set_option linter.unusedSimpArgs false
namespace Go.Proofs.YtbeidpeoichakaaGreatDoor.gb
open Go.RowKit Go.Proofs.YtbeidpeoichakaaGreatDoor.fm Go.Proofs.YtbeidpeoichakaaGreatDoor.mem Go.Proofs.YtbeidpeoichakaaGreatDoor.fa Go.Proofs.YtbeidpeoichakaaGreatDoor.fb Go.Proofs.YtbeidpeoichakaaGreatDoor.fj Go.Proofs.YtbeidpeoichakaaGreatDoor.fq Go.Proofs.YtbeidpeoichakaaGreatDoor.fr Go.Proofs.YtbeidpeoichakaaGreatDoor.ft Go.Proofs.YtbeidpeoichakaaGreatDoor.fu Go.Proofs.YtbeidpeoichakaaGreatDoor.fv Go.Proofs.YtbeidpeoichakaaGreatDoor.fw Go.Proofs.YtbeidpeoichakaaGreatDoor.fx Go.Proofs.YtbeidpeoichakaaGreatDoor.fy Go.Proofs.YtbeidpeoichakaaGreatDoor.fz

/-- A value that is the fraction of z and d, in form. -/
def IsFrac (w : World) (v : Value) (z : Int) (d : Nat) : Prop :=
  ∃ A c A' c', v = .agg #[.bool (decide (z < 0)), .slice A (digs z.natAbs).length c, .bool false, .slice A' (digs d).length c'] ∧ Rd w w.heap.size A c (digs z.natAbs) ∧ Rd w w.heap.size A' c' (digs d)

theorem IsFrac.below {w w' : World} {v : Value} {z : Int} {d : Nat} (h : IsFrac w v z d) (hb : Below w.heap.size w w') : IsFrac w' v z d := by
  obtain ⟨A, c, A', c', e, R, R'⟩ := h
  exact ⟨A, c, A', c', e, (R.below hb).more hb.size, (R'.below hb).more hb.size⟩

/-- A fraction's box, empty, at block g. -/
structure FBox (w W : World) (g : Nat) : Prop where
  bel : Below w.heap.size w W
  lo : w.heap.size ≤ g
  size : g < W.heap.size
  r0 : W.cell? ⟨g, 0, none⟩ = some (.bool false)
  r1 : W.cell? ⟨g, 1, none⟩ = some (.slice none 0 0)
  r2 : W.cell? ⟨g, 2, none⟩ = some (.bool false)
  r3 : W.cell? ⟨g, 3, none⟩ = some (.slice none 0 0)
  fr : ∀ k, W.frozen? ⟨g, k, none⟩ = false

theorem FBox.after {w W w' : World} {g : Nat} (B : FBox w W g) (h : Below W.heap.size W w') : FBox w w' g :=
  ⟨B.bel.trans (h.mono B.bel.size), B.lo, Nat.lt_of_lt_of_le B.size h.size, (h.cell B.size).trans B.r0, (h.cell B.size).trans B.r1, (h.cell B.size).trans B.r2, (h.cell B.size).trans B.r3, fun k => (below_frozen h B.size).trans (B.fr k)⟩

/-- The box, filled. -/
def fput (W : World) (g : Nat) (v0 v1 v2 v3 : Value) : World := (((W.setCell ⟨g, 0, none⟩ v0).setCell ⟨g, 1, none⟩ v1).setCell ⟨g, 2, none⟩ v2).setCell ⟨g, 3, none⟩ v3

theorem FBox.filled {w W : World} {g : Nat} (B : FBox w W g) {z : Int} {d : Nat} {A A' : Option Addr} {c c' : Nat} (R : Rd W W.heap.size A c (digs z.natAbs)) (R' : Rd W W.heap.size A' c' (digs d)) (w' : World)
    (hw : w' = fput W g (.bool (decide (z < 0))) (.slice A (digs z.natAbs).length c) (.bool false) (.slice A' (digs d).length c')) :
    (IsFrac w' (.agg #[.bool (decide (z < 0)), .slice A (digs z.natAbs).length c, .bool false, .slice A' (digs d).length c']) z d ∧ Below w.heap.size w w') ∧
    w'.cell? ⟨g, 0, none⟩ = some (.bool (decide (z < 0))) ∧ w'.cell? ⟨g, 1, none⟩ = some (.slice A (digs z.natAbs).length c) ∧ w'.cell? ⟨g, 2, none⟩ = some (.bool false) ∧ w'.cell? ⟨g, 3, none⟩ = some (.slice A' (digs d).length c') := by
  subst hw
  have n1 := ni_bool B.r0
  have n2 := ni_slice B.r1
  have n3 := ni_bool B.r2
  have n4 := ni_slice B.r3
  have r0 := B.r0
  have r1 := B.r1
  have r2 := B.r2
  have r3 := B.r3
  have vb : ∀ (b : Bool) (k : Int), Value.bool b ≠ .int .u32 k := fun b k e => by cases e
  have vs : ∀ (a : Option Addr) (n c : Nat) (k : Int), Value.slice a n c ≠ .int .u32 k := fun a n c k e => by cases e
  have h1 : ∀ k, w.heap.size ≤ (⟨g, k, none⟩ : Addr).block := fun k => B.lo
  unfold fput
  refine ⟨⟨⟨A, c, A', c', rfl, ?_, ?_⟩, (((B.bel.setCell (h1 0) _).setCell (h1 1) _).setCell (h1 2) _).setCell (h1 3) _⟩, ?_, ?_, ?_, ?_⟩
  · simp only [World.size_setCell]
    exact rd_set (rd_set (rd_set (rd_set R n1) (n2.set (vb _))) ((n3.set (vb _)).set (vs _ _ _))) (((n4.set (vb _)).set (vs _ _ _)).set (vb _))
  · simp only [World.size_setCell]
    exact rd_set (rd_set (rd_set (rd_set R' n1) (n2.set (vb _))) ((n3.set (vb _)).set (vs _ _ _))) (((n4.set (vb _)).set (vs _ _ _)).set (vb _))
  all_goals simp [go_sem, r0, r1, r2, r3]

theorem results_frac {fn : Func} {p u : Tmp} (h : fn.results = #[.cell p 30, .tmp u]) (tmps : Array Value) (w : World) (g : Nat) {v0 v1 v2 v3 : Value} (hp : tmps.getD p undef = .pointer (some ⟨g, 0, none⟩))
    (c0 : w.cell? ⟨g, 0, none⟩ = some v0) (c1 : w.cell? ⟨g, 1, none⟩ = some v1) (c2 : w.cell? ⟨g, 2, none⟩ = some v2) (c3 : w.cell? ⟨g, 3, none⟩ = some v3) : (results fn tmps).run Tryz.prog w = .ok (.tuple #[.agg #[v0, v1, v2, v3], tmps.getD u undef]) w := by
  have hp' : tmps[p]?.getD undef = .pointer (some ⟨g, 0, none⟩) := by simpa using hp
  simp [results, h, hp', asAddr, go_sem, c0, c1, c2, c3]

/-- Whether a fraction in lowest terms keeps the limit. -/
def fits (z : Int) (d : Nat) : Bool := decide ((digs z.natAbs).length ≤ 256) && decide ((digs d).length ≤ 256)

/-- What gives a fraction of N and D, or the error. -/
def Frac (w : World) (N : Int) (D : Nat) (e : Ending) (w' : World) : Prop :=
  ∃ v, e = .returned (.tuple #[v, .int .i64 (if fits N D = true then 0 else 3)]) ∧ IsFrac w' v (if fits N D = true then N else 0) (if fits N D = true then D else 0) ∧ Below w.heap.size w w'

/-- .. in lowest terms. -/
def Low (w : World) (z : Int) (d : Nat) : Ending → World → Prop := Frac w (z.tdiv (Nat.gcd z.natAbs d : Nat)) (d / Nat.gcd z.natAbs d)

/-- What holds within lowest: the number in its box, the result's box, and the divisor. -/
structure LState (w W : World) (n : Bool) (N D : Nat) (A2 : Option Addr) (c2 : Nat) (A3 : Option Addr) (c3 : Nat) : Prop where
  F : FBox w W (w.heap.size + 1)
  p0 : W.cell? ⟨w.heap.size, 0, none⟩ = some (.bool n)
  p1 : W.cell? ⟨w.heap.size, 1, none⟩ = some (.slice A2 (digs N).length c2)
  fp : ∀ k, W.frozen? ⟨w.heap.size, k, none⟩ = false
  RN : Rd W W.heap.size A2 c2 (digs N)
  RD : Rd W W.heap.size A3 c3 (digs D)

theorem LState.after {w W w' : World} {n : Bool} {N D : Nat} {A2 A3 : Option Addr} {c2 c3 : Nat} (S : LState w W n N D A2 c2 A3 c3) (h : Below W.heap.size W w') : LState w w' n N D A2 c2 A3 c3 := by
  have hs := S.F.size
  exact ⟨S.F.after h, (h.cell (by show w.heap.size < _; omega)).trans S.p0, (h.cell (by show w.heap.size < _; omega)).trans S.p1, fun k => (below_frozen h (by show w.heap.size < _; omega)).trans (S.fp k), (S.RN.below h).more h.size, (S.RD.below h).more h.size⟩

theorem lstate_made (w : World) (n : Bool) (N D : Nat) (A2 A3 : Option Addr) (c2 c3 : Nat) (R : Rd w w.heap.size A2 c2 (digs N)) (R' : Rd w w.heap.size A3 c3 (digs D)) :
    LState w ((w.alloc (.cells #[.bool n, .slice A2 (digs N).length c2] 28)).alloc (.cells #[.bool false, .slice none 0 0, .bool false, .slice none 0 0] 30)) n N D A2 c2 A3 c3 := by
  have hb : Below w.heap.size w ((w.alloc (.cells #[.bool n, .slice A2 (digs N).length c2] 28)).alloc (.cells #[.bool false, .slice none 0 0, .bool false, .slice none 0 0] 30)) := ((Below.refl _ _).alloc (Nat.le_refl _) _).alloc (by simp) _
  refine ⟨⟨hb, by omega, by simp, ?_, ?_, ?_, ?_, ?_⟩, ?_, ?_, ?_, (R.below hb).more hb.size, (R'.below hb).more hb.size⟩
  all_goals first | (intro k; simp [go_sem]) | simp [go_sem]

/-- The number's words, replaced. -/
theorem LState.put {w W : World} {n : Bool} {N D : Nat} {A2 A3 : Option Addr} {c2 c3 : Nat} (S : LState w W n N D A2 c2 A3 c3) {N' : Nat} {A4 : Option Addr} {c4 : Nat} (R : Rd W W.heap.size A4 c4 (digs N')) :
    LState w (W.setCell ⟨w.heap.size, 1, none⟩ (.slice A4 (digs N').length c4)) n N' D A4 c4 A3 c3 := by
  obtain ⟨⟨bel, lo, size, r0, r1, r2, r3, fr⟩, p0, p1, fp, RN, RD⟩ := S
  have n1 := ni_slice p1
  refine ⟨⟨bel.setCell (show w.heap.size ≤ (⟨w.heap.size, 1, none⟩ : Addr).block from Nat.le_refl _) _, lo, by simpa [World.size_setCell] using size, ?_, ?_, ?_, ?_, ?_⟩, ?_, ?_, ?_, ?_, ?_⟩
  · simp [go_sem, r0]
  · simp [go_sem, r1]
  · simp [go_sem, r2]
  · simp [go_sem, r3]
  · intro k; simp [go_sem, fr k]
  · simp [go_sem, p0]
  · simp [go_sem, p1]
  · intro k; simp [go_sem, fp k]
  · simp only [World.size_setCell]; exact rd_set R n1
  · simp only [World.size_setCell]; exact rd_set RD n1

theorem low_zero {d : Nat} (hd : d ≠ 0) : fits ((0 : Int).tdiv (Nat.gcd (0 : Int).natAbs d : Nat)) (d / Nat.gcd (0 : Int).natAbs d) = true ∧ (0 : Int).tdiv (Nat.gcd (0 : Int).natAbs d : Nat) = 0 ∧ d / Nat.gcd (0 : Int).natAbs d = 1 := by
  have e1 : Nat.gcd (0 : Int).natAbs d = d := Nat.gcd_zero_left d
  rw [e1, Int.zero_tdiv, Nat.div_self (by omega)]
  refine ⟨?_, rfl, rfl⟩
  unfold fits
  rw [show (0 : Int).natAbs = 0 from rfl, digs_zero, decide_eq_true (show (digs 1).length ≤ 256 from Nat.le_trans ((lt_len_iff 1 1).2 (by decide)) (by decide))]
  rfl

theorem isBig_nat {w : World} {v : Value} {D : Nat} (h : IsBig w v (sgnd false D)) : ∃ A c, v = .agg #[.bool false, .slice A (digs D).length c] ∧ Rd w w.heap.size A c (digs D) := by
  obtain ⟨A, c, e, R⟩ := h
  rw [sgnd_abs] at e R
  refine ⟨A, c, ?_, R⟩
  rw [e, decide_eq_false (show ¬ sgnd false D < 0 by unfold sgnd; simp)]

theorem low_num {z Z : Int} {d N : Nat} (hz : ¬ z = 0) (hd : d ≠ 0) (hN : N = z.natAbs / Nat.gcd z.natAbs d) (hZ : z.tdiv (Nat.gcd z.natAbs d : Nat) = Z) : decide (z < 0) = decide (Z < 0) ∧ N = Z.natAbs := by
  have hg : Nat.gcd z.natAbs d ≠ 0 := fun e => hd (Nat.eq_zero_of_gcd_eq_zero_right e)
  have hN0 : N ≠ 0 := by
    have h1 := Nat.div_mul_cancel (Nat.gcd_dvd_left z.natAbs d)
    intro e
    rw [← hN, e] at h1
    omega
  have h := sgnd_div z (Nat.gcd z.natAbs d : Nat)
  rw [Int.natAbs_natCast, ← hN, hZ, decide_eq_false (show ¬ ((Nat.gcd z.natAbs d : Nat) : Int) < 0 by omega), Bool.bne_false] at h
  rw [← h, sgnd_neg _ _ hN0, sgnd_abs]
  exact ⟨rfl, rfl⟩

set_option maxRecDepth 100000 in
set_option maxHeartbeats 8000000 in
theorem lowest_any (w : World) (a : Value) (z : Int) (d : Nat) (A' : Option Addr) (c' : Nat) (ha : IsBig w a z) (R' : Rd w w.heap.size A' c' (digs d)) (hd : d ≠ 0) (hl : (digs z.natAbs).length ≤ 400000) (hl' : (digs d).length ≤ 400000) (hT : Tabs w) :
    Calls Tryz.prog 40 #[a, .slice A' (digs d).length c'] w (Low w z d) := by
  obtain ⟨A, c, rfl, R⟩ := ha
  go_enter Tryz.func40, Tryz.ntmps40
  have S := lstate_made w (decide (z < 0)) z.natAbs d A A' c c' R R'
  obtain ⟨W, hW⟩ : ∃ W, W = ((w.alloc (.cells #[.bool (decide (z < 0)), .slice A (digs z.natAbs).length c] 28)).alloc (.cells #[.bool false, .slice none 0 0, .bool false, .slice none 0 0] 30)) := ⟨_, rfl⟩
  rw [← hW] at S
  have HS := Lib.hid S
  clear S
  by_cases hz : z = 0
  · have hz0 : (digs z.natAbs).length = 0 := digs_len_zero.2 (by omega)
    have z0 : (((digs z.natAbs).length : Int) == 0) = true := by rw [hz0]; rfl
    have HZ := Lib.hid hz
    clear hz hz0
    go_wp2_with fail
    rw [← hW]
    clear hW
    refine (fromInt_any W 1 (by decide) (by decide)).mono ?_
    rintro _ W1 ⟨v1, rfl, ⟨A1, c1, rfl, R1⟩, hb1⟩
    have F := (HS.out.after hb1).F
    obtain ⟨e, d0, d1, d2, d3⟩ := F.filled (z := 0) (d := 1) (A := none) (c := 0) (by rw [show digs (0 : Int).natAbs = [] from digs_zero]; exact Rd.nil _ _ _ _) R1 _ rfl
    simp only [show digs (0 : Int).natAbs = [] from digs_zero, List.length_nil, show decide ((0 : Int) < 0) = false from rfl] at e d0 d1 d2 d3
    have r0 := F.r0
    have r1 := F.r1
    have r2 := F.r2
    have r3 := F.r3
    have f0 := F.fr 0
    have f1 := F.fr 1
    have f2 := F.fr 2
    have f3 := F.fr 3
    have HE := Lib.hid (And.intro e (And.intro d0 (And.intro d1 (And.intro d2 d3))))
    clear e d0 d1 d2 d3 R1 hb1 F
    go_wp2
    (try simp only [Exit.inBlock, Exit.then])
    refine bodyPost_ret (results_frac rfl _ _ (w.heap.size + 1) rfl HE.out.2.1 HE.out.2.2.1 HE.out.2.2.2.1 HE.out.2.2.2.2) rfl ?_
    have hz := HZ.out
    subst hz
    obtain ⟨l1, l2, l3⟩ := low_zero hd
    exact ⟨_, by rw [if_pos l1]; rfl, by rw [if_pos l1, if_pos l1, l2, l3]; exact HE.out.1.1, HE.out.1.2⟩
  · have hz0 : ¬ (digs z.natAbs).length = 0 := fun e => hz (by have := digs_len_zero.1 e; omega)
    go_upto_if 15 with ((go_at_call 55; refine (isOne_any _ _ A' c' (digs d) (by rw [← hW]; exact HS.out.RD) (by omega)).mono ?_; rintro _ _ ⟨rfl, rfl⟩))
    rw [← hW]
    clear hW
    have HZ := Lib.hid hz
    clear hz hz0
    go_cut [1] (fun s1 wc => ∃ N D A2 c2 A3 c3, s1 = .slice A3 (digs D).length c3 ∧ LState w wc (decide (z < 0)) N D A2 c2 A3 c3 ∧ N = z.natAbs / Nat.gcd z.natAbs d ∧ D = d / Nat.gcd z.natAbs d)
    case first =>
      by_cases h1 : digs d = [1]
      · have hd1 : d = 1 := by have := val_digs d; rw [h1] at this; simpa [val] using this.symm
        have t1 : decide (digs d = [1]) = true := decide_eq_true h1
        have HD := Lib.hid hd1
        clear h1 hd1
        rw [t1]
        clear t1
        go_wp2_with fail
        go_meet
        exact ⟨z.natAbs, d, A, c, A', c', rfl, HS.out, by rw [HD.out, Nat.gcd_one_right, Nat.div_one], by rw [HD.out, Nat.gcd_one_right]⟩
      · have t1 : decide (digs d = [1]) = false := decide_eq_false h1
        have p1 := HS.out.p1
        rw [t1]
        clear t1
        clear h1
        go_wp2_with fail
        refine (gcdWords_any W A A' c c' z.natAbs d HS.out.RN HS.out.RD (by omega) (by omega) (by have := HZ.out; omega) hd (hT.below HS.out.F.bel)).mono ?_
        rintro _ W1 ⟨v1, rfl, hO, hb1⟩
        obtain ⟨A1, c1, rfl, R1⟩ := own_rd hO (ok_digs _)
        have S1 := HS.out.after hb1
        have H1 := Lib.hid S1
        have p2 := S1.p1
        have f2 := S1.fp 1
        have hg0 : Nat.gcd z.natAbs d ≠ 0 := fun e => hd (Nat.eq_zero_of_gcd_eq_zero_right e)
        have hlg : (digs (Nat.gcd z.natAbs d)).length ≤ 400000 := Nat.le_trans (len_mono (Nat.gcd_le_right _ (by omega))) hl'
        clear hO hb1 S1 p1
        obtain ⟨G, hG⟩ : ∃ G, Nat.gcd z.natAbs d = G := ⟨_, rfl⟩
        rw [hG] at R1 hg0 hlg ⊢
        have HG := Lib.hid (And.intro hG hg0)
        clear hG hg0
        go_wp2_with fail
        refine (isOne_any _ _ A1 c1 (digs G) R1 (by omega)).mono ?_
        rintro _ _ ⟨rfl, rfl⟩
        by_cases h2 : digs G = [1]
        · have hG1 : G = 1 := by have := val_digs G; rw [h2] at this; simpa [val] using this.symm
          have t2 : decide (digs G = [1]) = true := decide_eq_true h2
          have HD := Lib.hid hG1
          clear h2 hG1
          rw [t2]
          clear t2
          go_wp2_with fail
          go_meet
          exact ⟨z.natAbs, d, A, c, A', c', rfl, H1.out, by rw [HG.out.1, HD.out, Nat.div_one], by rw [HG.out.1, HD.out, Nat.div_one]⟩
        · have t2 : decide (digs G = [1]) = false := decide_eq_false h2
          clear h2
          rw [t2]
          clear t2
          go_wp2_with fail
          refine (divWords_any W1 A A1 c c1 z.natAbs G H1.out.RN R1 (by omega) (by omega) HG.out.2).mono ?_
          rintro _ W2 ⟨q, r, rfl, oq, _, hb2⟩
          obtain ⟨A4, c4, rfl, R4⟩ := own_rd oq (ok_digs _)
          have S2 := H1.out.after hb2
          have p3 := S2.p1
          have f3 := S2.fp 1
          have R1' := (R1.below hb2).more hb2.size
          have S3 := S2.put R4
          have R1'' : Rd (W2.setCell ⟨w.heap.size, 1, none⟩ (.slice A4 (digs (z.natAbs / G)).length c4)) (W2.setCell ⟨w.heap.size, 1, none⟩ (.slice A4 (digs (z.natAbs / G)).length c4)).heap.size A1 c1 (digs G) := by simp only [World.size_setCell]; exact rd_set R1' (ni_slice p3)
          have H3 := Lib.hid (And.intro S3 R1'')
          clear oq hb2 S2 R1' R1 R1'' S3 p2 f2 R4
          obtain ⟨N, hN⟩ : ∃ N, z.natAbs / G = N := ⟨_, rfl⟩
          rw [hN] at H3 ⊢
          have HN := Lib.hid hN
          clear hN
          go_wp2_with fail
          obtain ⟨W3, hW3⟩ : ∃ W3, W3 = W2.setCell ⟨w.heap.size, 1, none⟩ (.slice A4 (digs N).length c4) := ⟨_, rfl⟩
          rw [← hW3] at H3 ⊢
          clear hW3 p3 f3
          refine (divWords_any W3 A' A1 c' c1 d G H3.out.1.RD H3.out.2 (by omega) (by omega) HG.out.2).mono ?_
          rintro _ W4 ⟨q5, r5, rfl, oq5, _, hb5⟩
          obtain ⟨A5, c5, rfl, R5⟩ := own_rd oq5 (ok_digs _)
          have S5 := H3.out.1.after hb5
          have H5 := Lib.hid (show LState w W4 (decide (z < 0)) N (d / G) A4 c4 A5 c5 from ⟨S5.F, S5.p0, S5.p1, S5.fp, S5.RN, R5⟩)
          clear oq5 hb5 S5 R5
          go_wp2_with fail
          go_meet
          exact ⟨N, d / G, A4, c4, A5, c5, rfl, H5.out, by rw [HG.out.1, HN.out], by rw [HG.out.1]⟩
    case rest =>
      obtain ⟨N, D, A2, c2, A3, c3, rfl, S, hN, hD⟩ := hcut
      clear HS R R'
      obtain ⟨Z, hZ⟩ : ∃ Z, z.tdiv (Nat.gcd z.natAbs d : Nat) = Z := ⟨_, rfl⟩
      obtain ⟨k1, k2⟩ := low_num HZ.out hd hN hZ
      rw [k1, k2] at S
      have HK := Lib.hid (And.intro hN (And.intro hD (And.intro hZ (And.intro k1 k2))))
      clear hN hD hZ k1 k2 hl hl' hd hT
      by_cases hz1 : 256 < (digs Z.natAbs).length
      · have HFit := Lib.hid (show ¬ fits Z D = true by unfold fits; rw [decide_eq_false (by omega)]; simp)
        have F := S.F
        obtain ⟨e, d0, d1, d2, d3⟩ := F.filled (z := 0) (d := 0) (A := none) (c := 0) (A' := none) (c' := 0) (by rw [show digs (0 : Int).natAbs = [] from digs_zero]; exact Rd.nil _ _ _ _) (by rw [digs_zero]; exact Rd.nil _ _ _ _) _ rfl
        simp only [show digs (0 : Int).natAbs = [] from digs_zero, digs_zero, List.length_nil, show decide ((0 : Int) < 0) = false from rfl] at e d0 d1 d2 d3
        have p1 := S.p1
        have r0 := F.r0
        have r1 := F.r1
        have r2 := F.r2
        have r3 := F.r3
        have f0 := F.fr 0
        have f1 := F.fr 1
        have f2 := F.fr 2
        have f3 := F.fr 3
        have HE := Lib.hid (And.intro e (And.intro d0 (And.intro d1 (And.intro d2 d3))))
        clear e d0 d1 d2 d3 F S
        go_wp2_with fail
        (try simp only [Exit.inBlock, Exit.then])
        refine bodyPost_ret (results_frac rfl _ _ (w.heap.size + 1) rfl HE.out.2.1 HE.out.2.2.1 HE.out.2.2.2.1 HE.out.2.2.2.2) rfl ?_
        have l1 : ¬ fits Z D = true := HFit.out
        unfold Low
        rw [HK.out.2.2.1, ← HK.out.2.1]
        exact ⟨_, by rw [if_neg l1]; rfl, by rw [if_neg l1, if_neg l1]; exact HE.out.1.1, HE.out.1.2⟩
      · by_cases hz2 : 256 < (digs D).length
        · have HFit := Lib.hid (show ¬ fits Z D = true by unfold fits; rw [decide_eq_false (show ¬ (digs D).length ≤ 256 by omega)]; simp)
          have F := S.F
          obtain ⟨e, d0, d1, d2, d3⟩ := F.filled (z := 0) (d := 0) (A := none) (c := 0) (A' := none) (c' := 0) (by rw [show digs (0 : Int).natAbs = [] from digs_zero]; exact Rd.nil _ _ _ _) (by rw [digs_zero]; exact Rd.nil _ _ _ _) _ rfl
          simp only [show digs (0 : Int).natAbs = [] from digs_zero, digs_zero, List.length_nil, show decide ((0 : Int) < 0) = false from rfl] at e d0 d1 d2 d3
          have p1 := S.p1
          have r0 := F.r0
          have r1 := F.r1
          have r2 := F.r2
          have r3 := F.r3
          have f0 := F.fr 0
          have f1 := F.fr 1
          have f2 := F.fr 2
          have f3 := F.fr 3
          have HE := Lib.hid (And.intro e (And.intro d0 (And.intro d1 (And.intro d2 d3))))
          clear e d0 d1 d2 d3 F S
          go_wp2_with fail
          (try simp only [Exit.inBlock, Exit.then])
          refine bodyPost_ret (results_frac rfl _ _ (w.heap.size + 1) rfl HE.out.2.1 HE.out.2.2.1 HE.out.2.2.2.1 HE.out.2.2.2.2) rfl ?_
          have l1 : ¬ fits Z D = true := HFit.out
          unfold Low
          rw [HK.out.2.2.1, ← HK.out.2.1]
          exact ⟨_, by rw [if_neg l1]; rfl, by rw [if_neg l1, if_neg l1]; exact HE.out.1.1, HE.out.1.2⟩
        · have HFit := Lib.hid (show fits Z D = true by unfold fits; rw [decide_eq_true (show (digs D).length ≤ 256 by omega), decide_eq_true (show (digs Z.natAbs).length ≤ 256 by omega)]; rfl)
          have p0 := S.p0
          have p1 := S.p1
          have HS := Lib.hid S
          clear S
          have HSd := Lib.hid (HS.out.after (Below.refl _ _).drew)
          go_wp2_with fail
          clear hz1 hz2
          go_region_held3 (fun w' => w'.cell? ⟨w.heap.size, 0, none⟩ = some (.bool (decide (Z < 0))) ∧ w'.cell? ⟨w.heap.size, 1, none⟩ = some (.slice A2 (digs Z.natAbs).length c2))
            (first | with_reducible exact ⟨HS.out.p0, HS.out.p1⟩ | with_reducible exact ⟨HSd.out.p0, HSd.out.p1⟩ | with_reducible exact ⟨H2.out.p0, H2.out.p1⟩ | (have q1 := H2.out.p0; have q2 := H2.out.p1; refine ⟨?_, ?_⟩ <;> simp [go_sem, q1, q2]))
            ((go_at_call 50; refine (big_any wc.drew false A3 c3 D HSd.out.RD).mono ?_; rintro _ w2 ⟨v2, rfl, hI, hb2⟩
              obtain ⟨A6, c6, rfl, R6⟩ := isBig_nat hI
              have S2 := HSd.out.after hb2
              have H2 := Lib.hid S2
              have r0 := S2.F.r0
              have r1 := S2.F.r1
              have r2 := S2.F.r2
              have r3 := S2.F.r3
              have f0 := S2.F.fr 0
              have f1 := S2.F.fr 1
              have f2 := S2.F.fr 2
              have f3 := S2.F.fr 3
              clear hI hb2 S2))
          obtain ⟨e, d0, d1, d2, d3⟩ := H2.out.F.filled H2.out.RN R6 _ rfl
          have HE := Lib.hid (And.intro e (And.intro d0 (And.intro d1 (And.intro d2 d3))))
          clear e d0 d1 d2 d3 R6 H2 HS HSd p0 p1
          go_wp2
          (try simp only [Exit.inBlock, Exit.then])
          refine bodyPost_ret (results_frac rfl _ _ (w.heap.size + 1) rfl HE.out.2.1 HE.out.2.2.1 HE.out.2.2.2.1 HE.out.2.2.2.2) rfl ?_
          have l1 : fits Z D = true := HFit.out
          unfold Low
          rw [HK.out.2.2.1, ← HK.out.2.1]
          exact ⟨_, by rw [if_pos l1]; rfl, by rw [if_pos l1, if_pos l1]; exact HE.out.1.1, HE.out.1.2⟩

end Go.Proofs.YtbeidpeoichakaaGreatDoor.gb
