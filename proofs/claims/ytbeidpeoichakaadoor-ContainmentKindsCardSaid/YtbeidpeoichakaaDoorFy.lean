/- fraction: CmpBig, negated, FromInt. -/
import Derived.Test.YtbeidpeoichakaaDoorFw
set_option linter.unusedSimpArgs false
namespace Go.Proofs.YtbeidpeoichakaaDoor.fy
open Go.RowKit Go.Proofs.YtbeidpeoichakaaDoor.fm Go.Proofs.YtbeidpeoichakaaDoor.mem Go.Proofs.YtbeidpeoichakaaDoor.fa Go.Proofs.YtbeidpeoichakaaDoor.fb Go.Proofs.YtbeidpeoichakaaDoor.fu Go.Proofs.YtbeidpeoichakaaDoor.fv Go.Proofs.YtbeidpeoichakaaDoor.fw Go.Proofs.YtbeidpeoichakaaDoor.fx

theorem sgnd_self (n : Int) : sgnd (decide (n < 0)) n.natAbs = n := by
  unfold sgnd
  by_cases h : n < 0
  · rw [decide_eq_true h]; simp; omega
  · rw [decide_eq_false h]; simp; omega

theorem results_big1 {fn : Func} {p : Tmp} (h : fn.results = #[.cell p 25]) (tmps : Array Value) (w : World) (g : Nat) {v0 v1 : Value} (hp : tmps.getD p undef = .pointer (some ⟨g, 0, none⟩))
    (c0 : w.cell? ⟨g, 0, none⟩ = some v0) (c1 : w.cell? ⟨g, 1, none⟩ = some v1) : (results fn tmps).run Tryd.prog w = .ok (.agg #[v0, v1]) w := results_big h tmps w g hp c0 c1

/-- A result in a box of its own. -/
structure Box (w W : World) (g : Nat) : Prop where
  bel : Below w.heap.size w W
  lo : w.heap.size ≤ g
  size : g < W.heap.size
  r0 : W.cell? ⟨g, 0, none⟩ = some (.bool false)
  r1 : W.cell? ⟨g, 1, none⟩ = some (.slice none 0 0)
  fr : ∀ k, W.frozen? ⟨g, k, none⟩ = false

theorem box1_made (w : World) : Box w (w.alloc (.cells #[.bool false, .slice none 0 0] 25)) w.heap.size :=
  ⟨(Below.refl _ _).alloc (Nat.le_refl _) _, Nat.le_refl _, by simp, by simp [go_sem], by simp [go_sem], fun k => by simp [go_sem]⟩

theorem Box.after {w W w' : World} {g : Nat} (B : Box w W g) (h : Below W.heap.size W w') : Box w w' g :=
  ⟨B.bel.trans (h.mono B.bel.size), B.lo, Nat.lt_of_lt_of_le B.size h.size, (h.cell B.size).trans B.r0, (h.cell B.size).trans B.r1, fun k => (below_frozen h B.size).trans (B.fr k)⟩

theorem Box.filled {w W : World} {g : Nat} (B : Box w W g) {z : Int} {A : Option Addr} {c : Nat} (R : Rd W W.heap.size A c (digs z.natAbs)) :
    IsBig ((W.setCell ⟨g, 0, none⟩ (.bool (decide (z < 0)))).setCell ⟨g, 1, none⟩ (.slice A (digs z.natAbs).length c)) (.agg #[.bool (decide (z < 0)), .slice A (digs z.natAbs).length c]) z ∧
    Below w.heap.size w ((W.setCell ⟨g, 0, none⟩ (.bool (decide (z < 0)))).setCell ⟨g, 1, none⟩ (.slice A (digs z.natAbs).length c)) ∧
    ((W.setCell ⟨g, 0, none⟩ (.bool (decide (z < 0)))).setCell ⟨g, 1, none⟩ (.slice A (digs z.natAbs).length c)).cell? ⟨g, 0, none⟩ = some (.bool (decide (z < 0))) ∧
    ((W.setCell ⟨g, 0, none⟩ (.bool (decide (z < 0)))).setCell ⟨g, 1, none⟩ (.slice A (digs z.natAbs).length c)).cell? ⟨g, 1, none⟩ = some (.slice A (digs z.natAbs).length c) := by
  have hb1 := B.bel.setCell (show w.heap.size ≤ (⟨g, 0, none⟩ : Addr).block from B.lo) (.bool (decide (z < 0)))
  have hb2 := hb1.setCell (show w.heap.size ≤ (⟨g, 1, none⟩ : Addr).block from B.lo) (.slice A (digs z.natAbs).length c)
  refine ⟨⟨A, c, rfl, ?_⟩, hb2, ?_, ?_⟩
  rotate_left
  · exact (World.cell?_setCell_other _ _ _ _ (by intro h; cases h)).trans (World.cell?_setCell_same W _ _ B.r0)
  · exact World.cell?_setCell_same _ _ _ ((World.cell?_setCell_other W _ _ _ (by intro h; cases h)).trans B.r1)
  have R1 := Rd.stored (v := .bool (decide (z < 0))) R B.r0 (by intro k h; cases h)
  have r1 : (W.setCell ⟨g, 0, none⟩ (.bool (decide (z < 0)))).cell? ⟨g, 1, none⟩ = some (.slice none 0 0) := (World.cell?_setCell_other W _ _ _ (by intro h; cases h)).trans B.r1
  have R2 := Rd.stored (v := .slice A (digs z.natAbs).length c) R1 r1 (by intro k h; cases h)
  simpa using R2

set_option maxRecDepth 100000 in
set_option maxHeartbeats 1000000 in
theorem fromInt_any (w : World) (n : Int) (h1 : -9223372036854775808 ≤ n) (h2 : n < 9223372036854775808) :
    Calls Tryd.prog 51 #[.int .i64 n] w fun e w' => ∃ v, e = .returned v ∧ IsBig w' v n ∧ Below w.heap.size w w' := by
  go_enter Tryd.func51, Tryd.ntmps51
  by_cases hn : n < 0
  · have hs : sgnd true n.natAbs = n := by have := sgnd_self n; rwa [decide_eq_true hn] at this
    have hz : IntKind.u64.wrap (-IntKind.u64.wrap n) = ((n.natAbs : Nat) : Int) := by show (-(n % 18446744073709551616)) % 18446744073709551616 = _; omega
    have hA := box1_made w
    go_wp2_with fail
    refine (words64_any 0 n.natAbs _ (by decide) (by omega)).mono ?_
    rintro _ W1 ⟨v1, rfl, hO, hb1⟩
    rw [Nat.zero_mul, Nat.zero_add] at hO
    obtain ⟨A1, c1, rfl, R1⟩ := own_rd hO (ok_digs _)
    have B1 := hA.after hb1
    have H1 := Lib.hid B1
    clear hO hb1 B1
    go_wp2_with fail
    refine (big_any W1 true A1 c1 n.natAbs R1).mono ?_
    rintro _ W2 ⟨v2, rfl, hI, hb2⟩
    rw [hs] at hI
    have B2 := H1.out.after hb2
    obtain ⟨A2, c2, rfl, R2⟩ := hI
    have r0 := B2.r0
    have r1 := B2.r1
    have f0 := B2.fr 0
    have f1 := B2.fr 1
    obtain ⟨e1, e2, e3, e4⟩ := B2.filled R2
    rw [decide_eq_true hn] at e1 e2 e3 e4
    have HC := Lib.hid (And.intro e3 e4)
    have HE := Lib.hid (And.intro e1 e2)
    clear e1 e2 e3 e4 R2 B2 hb2 hA hs hz
    go_wp2
    (try simp only [Exit.inBlock, Exit.then])
    refine bodyPost_ret (results_big1 rfl _ _ w.heap.size rfl HC.out.1 HC.out.2) rfl ?_
    exact ⟨_, rfl, HE.out.1, HE.out.2⟩
  · have hs : sgnd false n.natAbs = n := by have := sgnd_self n; rwa [decide_eq_false hn] at this
    obtain ⟨m, rfl⟩ : ∃ m : Nat, n = (m : Int) := ⟨n.natAbs, by omega⟩
    rw [Int.natAbs_natCast] at hs
    have hz : True := trivial
    have hA := box1_made w
    go_wp2_with fail
    refine (words64_any 0 m _ (by decide) (by omega)).mono ?_
    rintro _ W1 ⟨v1, rfl, hO, hb1⟩
    rw [Nat.zero_mul, Nat.zero_add] at hO
    obtain ⟨A1, c1, rfl, R1⟩ := own_rd hO (ok_digs _)
    have B1 := hA.after hb1
    have H1 := Lib.hid B1
    clear hO hb1 B1
    go_wp2_with fail
    refine (big_any W1 false A1 c1 m R1).mono ?_
    rintro _ W2 ⟨v2, rfl, hI, hb2⟩
    rw [hs] at hI
    have B2 := H1.out.after hb2
    obtain ⟨A2, c2, rfl, R2⟩ := hI
    have r0 := B2.r0
    have r1 := B2.r1
    have f0 := B2.fr 0
    have f1 := B2.fr 1
    obtain ⟨e1, e2, e3, e4⟩ := B2.filled R2
    rw [decide_eq_false (show ¬ (m : Int) < 0 by omega)] at e1 e2 e3 e4
    have HC := Lib.hid (And.intro e3 e4)
    have HE := Lib.hid (And.intro e1 e2)
    clear e1 e2 e3 e4 R2 B2 hb2 hA hs hz
    go_wp2
    (try simp only [Exit.inBlock, Exit.then])
    refine bodyPost_ret (results_big1 rfl _ _ w.heap.size rfl HC.out.1 HC.out.2) rfl ?_
    exact ⟨_, rfl, HE.out.1, HE.out.2⟩

end Go.Proofs.YtbeidpeoichakaaDoor.fy

/- fraction: DivBig. -/
set_option linter.unusedSimpArgs false
namespace Go.Proofs.YtbeidpeoichakaaDoor.fz
open Go.RowKit Go.Proofs.YtbeidpeoichakaaDoor.fm Go.Proofs.YtbeidpeoichakaaDoor.mem Go.Proofs.YtbeidpeoichakaaDoor.fa Go.Proofs.YtbeidpeoichakaaDoor.fb Go.Proofs.YtbeidpeoichakaaDoor.fq Go.Proofs.YtbeidpeoichakaaDoor.fr Go.Proofs.YtbeidpeoichakaaDoor.fu Go.Proofs.YtbeidpeoichakaaDoor.fv Go.Proofs.YtbeidpeoichakaaDoor.fw Go.Proofs.YtbeidpeoichakaaDoor.fx Go.Proofs.YtbeidpeoichakaaDoor.fy

/-- A cell that holds no word. -/
def NI (w : World) (p : Addr) : Prop := ∃ u, w.cell? p = some u ∧ ∀ k : Int, u ≠ .int .u32 k

theorem NI.set {w : World} {p p' : Addr} {v : Value} (h : NI w p) (hv : ∀ k : Int, v ≠ .int .u32 k) : NI (w.setCell p' v) p := by
  obtain ⟨u, h1, h2⟩ := h
  by_cases e : p' = p
  · subst e; exact ⟨v, World.cell?_setCell_same _ _ _ h1, hv⟩
  · exact ⟨u, (World.cell?_setCell_other _ _ _ _ e).trans h1, h2⟩

theorem rd_set {w : World} {B : Nat} {A : Option Addr} {c : Nat} {l : List Nat} (R : Rd w B A c l) {p : Addr} {v : Value} (h : NI w p) : Rd (w.setCell p v) B A c l := by
  obtain ⟨u, h1, h2⟩ := h
  exact Rd.stored R h1 h2

theorem ni_bool {w : World} {p : Addr} {b : Bool} (h : w.cell? p = some (.bool b)) : NI w p := ⟨_, h, fun k e => by cases e⟩
theorem ni_slice {w : World} {p : Addr} {a : Option Addr} {n c : Nat} (h : w.cell? p = some (.slice a n c)) : NI w p := ⟨_, h, fun k e => by cases e⟩

/-- Two parameters and two results in boxes of their own. -/
structure Boxes4 (w W : World) (n n' : Bool) (s s' : Value) : Prop where
  B : Boxes w W n n' s s'
  size : w.heap.size + 1 + 1 + 1 + 1 ≤ W.heap.size
  q0 : W.cell? ⟨w.heap.size + 1 + 1 + 1, 0, none⟩ = some (.bool false)
  q1 : W.cell? ⟨w.heap.size + 1 + 1 + 1, 1, none⟩ = some (.slice none 0 0)
  fq : ∀ k, W.frozen? ⟨w.heap.size + 1 + 1 + 1, k, none⟩ = false

theorem boxes4_made (w : World) (n n' : Bool) (s s' : Value) :
    Boxes4 w ((((w.alloc (.cells #[.bool n, s] 25)).alloc (.cells #[.bool n', s'] 25)).alloc (.cells #[.bool false, .slice none 0 0] 25)).alloc (.cells #[.bool false, .slice none 0 0] 25)) n n' s s' := by
  refine ⟨(boxes_made w n n' s s').after ((Below.refl _ _).alloc (Nat.le_refl _) _), by simp, ?_, ?_, ?_⟩
  · simp [go_sem]
  · simp [go_sem]
  · intro k; simp [go_sem]

theorem Boxes4.after {w W w' : World} {n n' : Bool} {s s' : Value} (B : Boxes4 w W n n' s s') (h : Below W.heap.size W w') : Boxes4 w w' n n' s s' := by
  have hs := B.size
  refine ⟨B.B.after h, Nat.le_trans hs h.size, ?_, ?_, ?_⟩
  · exact (h.cell (by show w.heap.size + 1 + 1 + 1 < _; omega)).trans B.q0
  · exact (h.cell (by show w.heap.size + 1 + 1 + 1 < _; omega)).trans B.q1
  · intro k
    exact (below_frozen h (by show w.heap.size + 1 + 1 + 1 < _; omega)).trans (B.fq k)

theorem results_big3 {fn : Func} {p q u : Tmp} (h : fn.results = #[.cell p 25, .cell q 25, .tmp u]) (tmps : Array Value) (w : World) (g g' : Nat) {v0 v1 u0 u1 : Value} (hp : tmps.getD p undef = .pointer (some ⟨g, 0, none⟩)) (hq : tmps.getD q undef = .pointer (some ⟨g', 0, none⟩))
    (c0 : w.cell? ⟨g, 0, none⟩ = some v0) (c1 : w.cell? ⟨g, 1, none⟩ = some v1) (d0 : w.cell? ⟨g', 0, none⟩ = some u0) (d1 : w.cell? ⟨g', 1, none⟩ = some u1) :
    (results fn tmps).run Tryd.prog w = .ok (.tuple #[.agg #[v0, v1], .agg #[u0, u1], tmps.getD u undef]) w := by
  have hp' : tmps[p]?.getD undef = .pointer (some ⟨g, 0, none⟩) := by simpa using hp
  have hq' : tmps[q]?.getD undef = .pointer (some ⟨g', 0, none⟩) := by simpa using hq
  simp [results, h, hp', hq', asAddr, go_sem, c0, c1, d0, d1]

/-- What DivBig gives. -/
def DividedBig (w : World) (x y : Int) (e : Ending) (w' : World) : Prop :=
  ∃ q r, e = .returned (.tuple #[q, r, .int .i64 (if y = 0 then 8 else 0)]) ∧ IsBig w' q (x.tdiv y) ∧ IsBig w' r (if y = 0 then 0 else x.tmod y) ∧ Below w.heap.size w w'

theorem sgnd_div (x y : Int) : sgnd (decide (x < 0) != decide (y < 0)) (x.natAbs / y.natAbs) = x.tdiv y := by
  unfold sgnd
  cases x with
  | ofNat m =>
    rw [decide_eq_false (show ¬ Int.ofNat m < 0 by exact Int.not_lt.2 (Int.natCast_nonneg m))]
    cases y with
    | ofNat k => rw [decide_eq_false (show ¬ Int.ofNat k < 0 by exact Int.not_lt.2 (Int.natCast_nonneg k))]; rfl
    | negSucc k => rw [decide_eq_true (Int.negSucc_lt_zero k)]; rfl
  | negSucc m =>
    rw [decide_eq_true (Int.negSucc_lt_zero m)]
    cases y with
    | ofNat k => rw [decide_eq_false (show ¬ Int.ofNat k < 0 by exact Int.not_lt.2 (Int.natCast_nonneg k))]; rfl
    | negSucc k => rw [decide_eq_true (Int.negSucc_lt_zero k)]; rfl

theorem sgnd_mod (x y : Int) : sgnd (decide (x < 0)) (x.natAbs % y.natAbs) = x.tmod y := by
  unfold sgnd
  cases x with
  | ofNat m =>
    rw [decide_eq_false (show ¬ Int.ofNat m < 0 by exact Int.not_lt.2 (Int.natCast_nonneg m))]
    cases y with
    | ofNat k => rfl
    | negSucc k => rfl
  | negSucc m =>
    rw [decide_eq_true (Int.negSucc_lt_zero m)]
    cases y with
    | ofNat k => rfl
    | negSucc k => rfl

/-- The boxes filled with two results. -/
theorem Boxes4.filled {w W : World} {n n' : Bool} {s s' : Value} (B : Boxes4 w W n n' s s') {z z' : Int} {A A' : Option Addr} {c c' : Nat} (R : Rd W W.heap.size A c (digs z.natAbs)) (R' : Rd W W.heap.size A' c' (digs z'.natAbs)) (w' : World)
    (hw : w' = ((((W.setCell ⟨w.heap.size + 1 + 1, 0, none⟩ (.bool (decide (z < 0)))).setCell ⟨w.heap.size + 1 + 1, 1, none⟩ (.slice A (digs z.natAbs).length c)).setCell ⟨w.heap.size + 1 + 1 + 1, 0, none⟩ (.bool (decide (z' < 0)))).setCell ⟨w.heap.size + 1 + 1 + 1, 1, none⟩ (.slice A' (digs z'.natAbs).length c')) ∨
      w' = ((((W.setCell ⟨w.heap.size + 1 + 1 + 1, 0, none⟩ (.bool (decide (z' < 0)))).setCell ⟨w.heap.size + 1 + 1 + 1, 1, none⟩ (.slice A' (digs z'.natAbs).length c')).setCell ⟨w.heap.size + 1 + 1, 0, none⟩ (.bool (decide (z < 0)))).setCell ⟨w.heap.size + 1 + 1, 1, none⟩ (.slice A (digs z.natAbs).length c))) :
    (IsBig w' (.agg #[.bool (decide (z < 0)), .slice A (digs z.natAbs).length c]) z ∧ IsBig w' (.agg #[.bool (decide (z' < 0)), .slice A' (digs z'.natAbs).length c']) z' ∧ Below w.heap.size w w') ∧
    w'.cell? ⟨w.heap.size + 1 + 1, 0, none⟩ = some (.bool (decide (z < 0))) ∧ w'.cell? ⟨w.heap.size + 1 + 1, 1, none⟩ = some (.slice A (digs z.natAbs).length c) ∧
    w'.cell? ⟨w.heap.size + 1 + 1 + 1, 0, none⟩ = some (.bool (decide (z' < 0))) ∧ w'.cell? ⟨w.heap.size + 1 + 1 + 1, 1, none⟩ = some (.slice A' (digs z'.natAbs).length c') := by
  have n1 := ni_bool B.B.r0
  have n2 := ni_slice B.B.r1
  have n3 := ni_bool B.q0
  have n4 := ni_slice B.q1
  have r0 := B.B.r0
  have r1 := B.B.r1
  have q0 := B.q0
  have q1 := B.q1
  have vb : ∀ (b : Bool) (k : Int), Value.bool b ≠ .int .u32 k := fun b k e => by cases e
  have vs : ∀ (a : Option Addr) (n c : Nat) (k : Int), Value.slice a n c ≠ .int .u32 k := fun a n c k e => by cases e
  have h1 : ∀ k, w.heap.size ≤ (⟨w.heap.size + 1 + 1, k, none⟩ : Addr).block := fun k => by show w.heap.size ≤ w.heap.size + 1 + 1; omega
  have h2 : ∀ k, w.heap.size ≤ (⟨w.heap.size + 1 + 1 + 1, k, none⟩ : Addr).block := fun k => by show w.heap.size ≤ w.heap.size + 1 + 1 + 1; omega
  rcases hw with rfl | rfl
  · refine ⟨⟨⟨A, c, rfl, ?_⟩, ⟨A', c', rfl, ?_⟩, (((B.B.bel.setCell (h1 0) _).setCell (h1 1) _).setCell (h2 0) _).setCell (h2 1) _⟩, ?_, ?_, ?_, ?_⟩
    · simp only [World.size_setCell]
      exact rd_set (rd_set (rd_set (rd_set R n1) (n2.set (vb _))) ((n3.set (vb _)).set (vs _ _ _))) (((n4.set (vb _)).set (vs _ _ _)).set (vb _))
    · simp only [World.size_setCell]
      exact rd_set (rd_set (rd_set (rd_set R' n1) (n2.set (vb _))) ((n3.set (vb _)).set (vs _ _ _))) (((n4.set (vb _)).set (vs _ _ _)).set (vb _))
    all_goals simp [go_sem, r0, r1, q0, q1]
  · refine ⟨⟨⟨A, c, rfl, ?_⟩, ⟨A', c', rfl, ?_⟩, (((B.B.bel.setCell (h2 0) _).setCell (h2 1) _).setCell (h1 0) _).setCell (h1 1) _⟩, ?_, ?_, ?_, ?_⟩
    · simp only [World.size_setCell]
      exact rd_set (rd_set (rd_set (rd_set R n3) (n4.set (vb _))) ((n1.set (vb _)).set (vs _ _ _))) (((n2.set (vb _)).set (vs _ _ _)).set (vb _))
    · simp only [World.size_setCell]
      exact rd_set (rd_set (rd_set (rd_set R' n3) (n4.set (vb _))) ((n1.set (vb _)).set (vs _ _ _))) (((n2.set (vb _)).set (vs _ _ _)).set (vb _))
    all_goals simp [go_sem, r0, r1, q0, q1]

theorem filled_drew {w w' : World} {a b : Value} {z z' : Int} {p0 p1 p2 p3 : Addr} {v0 v1 v2 v3 : Value} (h : (IsBig w' a z ∧ IsBig w' b z' ∧ Below w.heap.size w w') ∧ w'.cell? p0 = some v0 ∧ w'.cell? p1 = some v1 ∧ w'.cell? p2 = some v2 ∧ w'.cell? p3 = some v3) :
    (IsBig w'.drew a z ∧ IsBig w'.drew b z' ∧ Below w.heap.size w w'.drew) ∧ w'.drew.cell? p0 = some v0 ∧ w'.drew.cell? p1 = some v1 ∧ w'.drew.cell? p2 = some v2 ∧ w'.drew.cell? p3 = some v3 :=
  ⟨⟨h.1.1.below (Below.refl _ _).drew, h.1.2.1.below (Below.refl _ _).drew, h.1.2.2.drew⟩, h.2.1, h.2.2.1, h.2.2.2.1, h.2.2.2.2⟩

end Go.Proofs.YtbeidpeoichakaaDoor.fz
