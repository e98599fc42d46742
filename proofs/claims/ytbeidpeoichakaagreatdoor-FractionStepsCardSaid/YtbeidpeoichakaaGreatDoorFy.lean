/- fraction: CmpBig, negated, FromInt. -/
import Derived.Test.YtbeidpeoichakaaGreatDoorFw
set_option linter.unusedSimpArgs false
namespace Go.Proofs.YtbeidpeoichakaaGreatDoor.fy
open Go.RowKit Go.Proofs.YtbeidpeoichakaaGreatDoor.fm Go.Proofs.YtbeidpeoichakaaGreatDoor.mem Go.Proofs.YtbeidpeoichakaaGreatDoor.fa Go.Proofs.YtbeidpeoichakaaGreatDoor.fb Go.Proofs.YtbeidpeoichakaaGreatDoor.fu Go.Proofs.YtbeidpeoichakaaGreatDoor.fv Go.Proofs.YtbeidpeoichakaaGreatDoor.fw Go.Proofs.YtbeidpeoichakaaGreatDoor.fx

theorem sgnd_self (n : Int) : sgnd (decide (n < 0)) n.natAbs = n := by
  unfold sgnd
  by_cases h : n < 0
  · rw [decide_eq_true h]; simp; omega
  · rw [decide_eq_false h]; simp; omega

theorem results_big1 {fn : Func} {p : Tmp} (h : fn.results = #[.cell p 28]) (tmps : Array Value) (w : World) (g : Nat) {v0 v1 : Value} (hp : tmps.getD p undef = .pointer (some ⟨g, 0, none⟩))
    (c0 : w.cell? ⟨g, 0, none⟩ = some v0) (c1 : w.cell? ⟨g, 1, none⟩ = some v1) : (results fn tmps).run Tryz.prog w = .ok (.agg #[v0, v1]) w := results_big h tmps w g hp c0 c1

/-- A result in a box of its own. -/
structure Box (w W : World) (g : Nat) : Prop where
  bel : Below w.heap.size w W
  lo : w.heap.size ≤ g
  size : g < W.heap.size
  r0 : W.cell? ⟨g, 0, none⟩ = some (.bool false)
  r1 : W.cell? ⟨g, 1, none⟩ = some (.slice none 0 0)
  fr : ∀ k, W.frozen? ⟨g, k, none⟩ = false

theorem box1_made (w : World) : Box w (w.alloc (.cells #[.bool false, .slice none 0 0] 28)) w.heap.size :=
  ⟨(Below.refl _ _).alloc (Nat.le_refl _) _, Nat.le_refl _, by simp, by simp [go_sem], by simp [go_sem], fun k => by simp [go_sem]⟩

theorem Box.after {w W w' : World} {g : Nat} (B : Box w W g) (h : Below W.heap.size W w') : Box w w' g :=
  ⟨B.bel.trans (h.mono B.bel.size), B.lo, Nat.lt_of_lt_of_le B.size h.size, (h.cell B.size).trans B.r0, (h.cell B.size).trans B.r1, fun k => (below_frozen h B.size).trans (B.fr k)⟩

theorem Box.filled {w W : World} {g : Nat} (B : Box w W g) {z : Int} {A : Option Addr} {c : Nat} (R : Rd W W.heap.size A c (digs z.natAbs)) :
    IsBig ((W.setCell ⟨g, 0, none⟩ (.bool (decide (z < 0)))).setCell ⟨g, 1, none⟩ (.slice A (digs z.natAbs).length c)) (.agg #[.bool (decide (z < 0)), .slice A (digs z.natAbs).length c]) z ∧
    Below w.heap.size w ((W.setCell ⟨g, 0, none⟩ (.bool (decide (z < 0)))).setCell ⟨g, 1, none⟩ (.slice A (digs z.natAbs).length c)) ∧
    ((W.setCell ⟨g, 0, none⟩ (.bool (decide (z < 0)))).setCell ⟨g, 1, none⟩ (.slice A (digs z.natAbs).length c)).cell? ⟨g, 0, none⟩ = some (.bool (decide (z < 0))) ∧
    ((W.setCell ⟨g, 0, none⟩ (.bool (decide (z < 0)))).setCell ⟨g, 1, none⟩ (.slice A (digs z.natAbs).length c)).cell? ⟨g, 1, none⟩ = some (.slice A (digs z.natAbs).length c) := by
  have hb1 := B.bel.setCell (show w.heap.size ≤ (⟨g, 0, none⟩ : Addr).block from B.lo) (.bool (decide (z < 0)))
  have hb2 := hb1.setCell (show w.heap.size ≤ (⟨g, 1, none⟩ : Addr).block from B.lo) (.slice A (digs z.natAbs).length c)
  refine ⟨⟨A, c, rfl, ?_⟩, hb2, ?_, ?_⟩
  rotate_left
  · exact (World.cell?_setCell_other _ _ _ _ (by intro h; cases h)).trans (World.cell?_setCell_same W _ _ B.r0)
  · exact World.cell?_setCell_same _ _ _ ((World.cell?_setCell_other W _ _ _ (by intro h; cases h)).trans B.r1)
  have R1 := Rd.stored (v := .bool (decide (z < 0))) R B.r0 (by intro k h; cases h)
  have r1 : (W.setCell ⟨g, 0, none⟩ (.bool (decide (z < 0)))).cell? ⟨g, 1, none⟩ = some (.slice none 0 0) := (World.cell?_setCell_other W _ _ _ (by intro h; cases h)).trans B.r1
  have R2 := Rd.stored (v := .slice A (digs z.natAbs).length c) R1 r1 (by intro k h; cases h)
  simpa using R2

set_option maxRecDepth 100000 in
set_option maxHeartbeats 1000000 in
theorem fromInt_any (w : World) (n : Int) (h1 : -9223372036854775808 ≤ n) (h2 : n < 9223372036854775808) :
    Calls Tryz.prog 31 #[.int .i64 n] w fun e w' => ∃ v, e = .returned v ∧ IsBig w' v n ∧ Below w.heap.size w w' := by
  go_enter Tryz.func31, Tryz.ntmps31
  by_cases hn : n < 0
  · have hs : sgnd true n.natAbs = n := by have := sgnd_self n; rwa [decide_eq_true hn] at this
    have hz : IntKind.u64.wrap (-IntKind.u64.wrap n) = ((n.natAbs : Nat) : Int) := by show (-(n % 18446744073709551616)) % 18446744073709551616 = _; omega
    have hA := box1_made w
    go_wp2_with fail
    refine (words64_any 0 n.natAbs _ (by decide) (by omega)).mono ?_
    rintro _ W1 ⟨v1, rfl, hO, hb1⟩
    rw [Nat.zero_mul, Nat.zero_add] at hO
    obtain ⟨A1, c1, rfl, R1⟩ := own_rd hO (ok_digs _)
    have B1 := hA.after hb1
    have H1 := Lib.hid B1
    clear hO hb1 B1
    go_wp2_with fail
    refine (big_any W1 true A1 c1 n.natAbs R1).mono ?_
    rintro _ W2 ⟨v2, rfl, hI, hb2⟩
    rw [hs] at hI
    have B2 := H1.out.after hb2
    obtain ⟨A2, c2, rfl, R2⟩ := hI
    have r0 := B2.r0
    have r1 := B2.r1
    have f0 := B2.fr 0
    have f1 := B2.fr 1
    obtain ⟨e1, e2, e3, e4⟩ := B2.filled R2
    rw [decide_eq_true hn] at e1 e2 e3 e4
    have HC := Lib.hid (And.intro e3 e4)
    have HE := Lib.hid (And.intro e1 e2)
    clear e1 e2 e3 e4 R2 B2 hb2 hA hs hz
    go_wp2
    (try simp only [Exit.inBlock, Exit.then])
    refine bodyPost_ret (results_big1 rfl _ _ w.heap.size rfl HC.out.1 HC.out.2) rfl ?_
    exact ⟨_, rfl, HE.out.1, HE.out.2⟩
  · have hs : sgnd false n.natAbs = n := by have := sgnd_self n; rwa [decide_eq_false hn] at this
    obtain ⟨m, rfl⟩ : ∃ m : Nat, n = (m : Int) := ⟨n.natAbs, by omega⟩
    rw [Int.natAbs_natCast] at hs
    have hz : True := trivial
    have hA := box1_made w
    go_wp2_with fail
    refine (words64_any 0 m _ (by decide) (by omega)).mono ?_
    rintro _ W1 ⟨v1, rfl, hO, hb1⟩
    rw [Nat.zero_mul, Nat.zero_add] at hO
    obtain ⟨A1, c1, rfl, R1⟩ := own_rd hO (ok_digs _)
    have B1 := hA.after hb1
    have H1 := Lib.hid B1
    clear hO hb1 B1
    go_wp2_with fail
    refine (big_any W1 false A1 c1 m R1).mono ?_
    rintro _ W2 ⟨v2, rfl, hI, hb2⟩
    rw [hs] at hI
    have B2 := H1.out.after hb2
    obtain ⟨A2, c2, rfl, R2⟩ := hI
    have r0 := B2.r0
    have r1 := B2.r1
    have f0 := B2.fr 0
    have f1 := B2.fr 1
    obtain ⟨e1, e2, e3, e4⟩ := B2.filled R2
    rw [decide_eq_false (show ¬ (m : Int) < 0 by omega)] at e1 e2 e3 e4
    have HC := Lib.hid (And.intro e3 e4)
    have HE := Lib.hid (And.intro e1 e2)
    clear e1 e2 e3 e4 R2 B2 hb2 hA hs hz
    go_wp2
    (try simp only [Exit.inBlock, Exit.then])
    refine bodyPost_ret (results_big1 rfl _ _ w.heap.size rfl HC.out.1 HC.out.2) rfl ?_
    exact ⟨_, rfl, HE.out.1, HE.out.2⟩

end Go.Proofs.YtbeidpeoichakaaGreatDoor.fy

/- fraction: DivBig. -/
set_option linter.unusedSimpArgs false
namespace Go.Proofs.YtbeidpeoichakaaGreatDoor.fz
open Go.RowKit Go.Proofs.YtbeidpeoichakaaGreatDoor.fm Go.Proofs.YtbeidpeoichakaaGreatDoor.mem Go.Proofs.YtbeidpeoichakaaGreatDoor.fa Go.Proofs.YtbeidpeoichakaaGreatDoor.fb Go.Proofs.YtbeidpeoichakaaGreatDoor.fq Go.Proofs.YtbeidpeoichakaaGreatDoor.fr Go.Proofs.YtbeidpeoichakaaGreatDoor.fu Go.Proofs.YtbeidpeoichakaaGreatDoor.fv Go.Proofs.YtbeidpeoichakaaGreatDoor.fw Go.Proofs.YtbeidpeoichakaaGreatDoor.fx Go.Proofs.YtbeidpeoichakaaGreatDoor.fy

/-- A cell that holds no word. -/
def NI (w : World) (p : Addr) : Prop := ∃ u, w.cell? p = some u ∧ ∀ k : Int, u ≠ .int .u32 k

theorem NI.set {w : World} {p p' : Addr} {v : Value} (h : NI w p) (hv : ∀ k : Int, v ≠ .int .u32 k) : NI (w.setCell p' v) p := by
  obtain ⟨u, h1, h2⟩ := h
  by_cases e : p' = p
  · subst e; exact ⟨v, World.cell?_setCell_same _ _ _ h1, hv⟩
  · exact ⟨u, (World.cell?_setCell_other _ _ _ _ e).trans h1, h2⟩

theorem rd_set {w : World} {B : Nat} {A : Option Addr} {c : Nat} {l : List Nat} (R : Rd w B A c l) {p : Addr} {v : Value} (h : NI w p) : Rd (w.setCell p v) B A c l := by
  obtain ⟨u, h1, h2⟩ := h
  exact Rd.stored R h1 h2

theorem ni_bool {w : World} {p : Addr} {b : Bool} (h : w.cell? p = some (.bool b)) : NI w p := ⟨_, h, fun k e => by cases e⟩
theorem ni_slice {w : World} {p : Addr} {a : Option Addr} {n c : Nat} (h : w.cell? p = some (.slice a n c)) : NI w p := ⟨_, h, fun k e => by cases e⟩

/-- Two parameters and two results in boxes of their own. -/
structure Boxes4 (w W : World) (n n' : Bool) (s s' : Value) : Prop where
  B : Boxes w W n n' s s'
  size : w.heap.size + 1 + 1 + 1 + 1 ≤ W.heap.size
  q0 : W.cell? ⟨w.heap.size + 1 + 1 + 1, 0, none⟩ = some (.bool false)
  q1 : W.cell? ⟨w.heap.size + 1 + 1 + 1, 1, none⟩ = some (.slice none 0 0)
  fq : ∀ k, W.frozen? ⟨w.heap.size + 1 + 1 + 1, k, none⟩ = false

theorem boxes4_made (w : World) (n n' : Bool) (s s' : Value) :
    Boxes4 w ((((w.alloc (.cells #[.bool n, s] 28)).alloc (.cells #[.bool n', s'] 28)).alloc (.cells #[.bool false, .slice none 0 0] 28)).alloc (.cells #[.bool false, .slice none 0 0] 28)) n n' s s' := by
  refine ⟨(boxes_made w n n' s s').after ((Below.refl _ _).alloc (Nat.le_refl _) _), by simp, ?_, ?_, ?_⟩
  · simp [go_sem]
  · simp [go_sem]
  · intro k; simp [go_sem]

theorem Boxes4.after {w W w' : World} {n n' : Bool} {s s' : Value} (B : Boxes4 w W n n' s s') (h : Below W.heap.size W w') : Boxes4 w w' n n' s s' := by
  have hs := B.size
  refine ⟨B.B.after h, Nat.le_trans hs h.size, ?_, ?_, ?_⟩
  · exact (h.cell (by show w.heap.size + 1 + 1 + 1 < _; omega)).trans B.q0
  · exact (h.cell (by show w.heap.size + 1 + 1 + 1 < _; omega)).trans B.q1
  · intro k
    exact (below_frozen h (by show w.heap.size + 1 + 1 + 1 < _; omega)).trans (B.fq k)

theorem results_big3 {fn : Func} {p q u : Tmp} (h : fn.results = #[.cell p 28, .cell q 28, .tmp u]) (tmps : Array Value) (w : World) (g g' : Nat) {v0 v1 u0 u1 : Value} (hp : tmps.getD p undef = .pointer (some ⟨g, 0, none⟩)) (hq : tmps.getD q undef = .pointer (some ⟨g', 0, none⟩))
    (c0 : w.cell? ⟨g, 0, none⟩ = some v0) (c1 : w.cell? ⟨g, 1, none⟩ = some v1) (d0 : w.cell? ⟨g', 0, none⟩ = some u0) (d1 : w.cell? ⟨g', 1, none⟩ = some u1) :
    (results fn tmps).run Tryz.prog w = .ok (.tuple #[.agg #[v0, v1], .agg #[u0, u1], tmps.getD u undef]) w := by
  have hp' : tmps[p]?.getD undef = .pointer (some ⟨g, 0, none⟩) := by simpa using hp
  have hq' : tmps[q]?.getD undef = .pointer (some ⟨g', 0, none⟩) := by simpa using hq
  simp [results, h, hp', hq', asAddr, go_sem, c0, c1, d0, d1]

/-- What DivBig gives. -/
def DividedBig (w : World) (x y : Int) (e : Ending) (w' : World) : Prop :=
  ∃ q r, e = .returned (.tuple #[q, r, .int .i64 (if y = 0 then 8 else 0)]) ∧ IsBig w' q (x.tdiv y) ∧ IsBig w' r (if y = 0 then 0 else x.tmod y) ∧ Below w.heap.size w w'

theorem sgnd_div (x y : Int) : sgnd (decide (x < 0) != decide (y < 0)) (x.natAbs / y.natAbs) = x.tdiv y := by
  unfold sgnd
  cases x with
  | ofNat m =>
    rw [decide_eq_false (show ¬ Int.ofNat m < 0 by exact Int.not_lt.2 (Int.natCast_nonneg m))]
    cases y with
    | ofNat k => rw [decide_eq_false (show ¬ Int.ofNat k < 0 by exact Int.not_lt.2 (Int.natCast_nonneg k))]; rfl
    | negSucc k => rw [decide_eq_true (Int.negSucc_lt_zero k)]; rfl
  | negSucc m =>
    rw [decide_eq_true (Int.negSucc_lt_zero m)]
    cases y with
    | ofNat k => rw [decide_eq_false (show ¬ Int.ofNat k < 0 by exact Int.not_lt.2 (Int.natCast_nonneg k))]; rfl
    | negSucc k => rw [decide_eq_true (Int.negSucc_lt_zero k)]; rfl

theorem sgnd_mod (x y : Int) : sgnd (decide (x < 0)) (x.natAbs % y.natAbs) = x.tmod y := by
  unfold sgnd
  cases x with
  | ofNat m =>
    rw [decide_eq_false (show ¬ Int.ofNat m < 0 by exact Int.not_lt.2 (Int.natCast_nonneg m))]
    cases y with
    | ofNat k => rfl
    | negSucc k => rfl
  | negSucc m =>
    rw [decide_eq_true (Int.negSucc_lt_zero m)]
    cases y with
    | ofNat k => rfl
    | negSucc k => rfl

/-- The boxes filled with two results. -/
theorem Boxes4.filled {w W : World} {n n' : Bool} {s s' : Value} (B : Boxes4 w W n n' s s') {z z' : Int} {A A' : Option Addr} {c c' : Nat} (R : Rd W W.heap.size A c (digs z.natAbs)) (R' : Rd W W.heap.size A' c' (digs z'.natAbs)) (w' : World)
    (hw : w' = ((((W.setCell ⟨w.heap.size + 1 + 1, 0, none⟩ (.bool (decide (z < 0)))).setCell ⟨w.heap.size + 1 + 1, 1, none⟩ (.slice A (digs z.natAbs).length c)).setCell ⟨w.heap.size + 1 + 1 + 1, 0, none⟩ (.bool (decide (z' < 0)))).setCell ⟨w.heap.size + 1 + 1 + 1, 1, none⟩ (.slice A' (digs z'.natAbs).length c')) ∨
      w' = ((((W.setCell ⟨w.heap.size + 1 + 1 + 1, 0, none⟩ (.bool (decide (z' < 0)))).setCell ⟨w.heap.size + 1 + 1 + 1, 1, none⟩ (.slice A' (digs z'.natAbs).length c')).setCell ⟨w.heap.size + 1 + 1, 0, none⟩ (.bool (decide (z < 0)))).setCell ⟨w.heap.size + 1 + 1, 1, none⟩ (.slice A (digs z.natAbs).length c))) :
    (IsBig w' (.agg #[.bool (decide (z < 0)), .slice A (digs z.natAbs).length c]) z ∧ IsBig w' (.agg #[.bool (decide (z' < 0)), .slice A' (digs z'.natAbs).length c']) z' ∧ Below w.heap.size w w') ∧
    w'.cell? ⟨w.heap.size + 1 + 1, 0, none⟩ = some (.bool (decide (z < 0))) ∧ w'.cell? ⟨w.heap.size + 1 + 1, 1, none⟩ = some (.slice A (digs z.natAbs).length c) ∧
    w'.cell? ⟨w.heap.size + 1 + 1 + 1, 0, none⟩ = some (.bool (decide (z' < 0))) ∧ w'.cell? ⟨w.heap.size + 1 + 1 + 1, 1, none⟩ = some (.slice A' (digs z'.natAbs).length c') := by
  have n1 := ni_bool B.B.r0
  have n2 := ni_slice B.B.r1
  have n3 := ni_bool B.q0
  have n4 := ni_slice B.q1
  have r0 := B.B.r0
  have r1 := B.B.r1
  have q0 := B.q0
  have q1 := B.q1
  have vb : ∀ (b : Bool) (k : Int), Value.bool b ≠ .int .u32 k := fun b k e => by cases e
  have vs : ∀ (a : Option Addr) (n c : Nat) (k : Int), Value.slice a n c ≠ .int .u32 k := fun a n c k e => by cases e
  have h1 : ∀ k, w.heap.size ≤ (⟨w.heap.size + 1 + 1, k, none⟩ : Addr).block := fun k => by show w.heap.size ≤ w.heap.size + 1 + 1; omega
  have h2 : ∀ k, w.heap.size ≤ (⟨w.heap.size + 1 + 1 + 1, k, none⟩ : Addr).block := fun k => by show w.heap.size ≤ w.heap.size + 1 + 1 + 1; omega
  rcases hw with rfl | rfl
  · refine ⟨⟨⟨A, c, rfl, ?_⟩, ⟨A', c', rfl, ?_⟩, (((B.B.bel.setCell (h1 0) _).setCell (h1 1) _).setCell (h2 0) _).setCell (h2 1) _⟩, ?_, ?_, ?_, ?_⟩
    · simp only [World.size_setCell]
      exact rd_set (rd_set (rd_set (rd_set R n1) (n2.set (vb _))) ((n3.set (vb _)).set (vs _ _ _))) (((n4.set (vb _)).set (vs _ _ _)).set (vb _))
    · simp only [World.size_setCell]
      exact rd_set (rd_set (rd_set (rd_set R' n1) (n2.set (vb _))) ((n3.set (vb _)).set (vs _ _ _))) (((n4.set (vb _)).set (vs _ _ _)).set (vb _))
    all_goals simp [go_sem, r0, r1, q0, q1]
  · refine ⟨⟨⟨A, c, rfl, ?_⟩, ⟨A', c', rfl, ?_⟩, (((B.B.bel.setCell (h2 0) _).setCell (h2 1) _).setCell (h1 0) _).setCell (h1 1) _⟩, ?_, ?_, ?_, ?_⟩
    · simp only [World.size_setCell]
      exact rd_set (rd_set (rd_set (rd_set R n3) (n4.set (vb _))) ((n1.set (vb _)).set (vs _ _ _))) (((n2.set (vb _)).set (vs _ _ _)).set (vb _))
    · simp only [World.size_setCell]
      exact rd_set (rd_set (rd_set (rd_set R' n3) (n4.set (vb _))) ((n1.set (vb _)).set (vs _ _ _))) (((n2.set (vb _)).set (vs _ _ _)).set (vb _))
    all_goals simp [go_sem, r0, r1, q0, q1]

theorem filled_drew {w w' : World} {a b : Value} {z z' : Int} {p0 p1 p2 p3 : Addr} {v0 v1 v2 v3 : Value} (h : (IsBig w' a z ∧ IsBig w' b z' ∧ Below w.heap.size w w') ∧ w'.cell? p0 = some v0 ∧ w'.cell? p1 = some v1 ∧ w'.cell? p2 = some v2 ∧ w'.cell? p3 = some v3) :
    (IsBig w'.drew a z ∧ IsBig w'.drew b z' ∧ Below w.heap.size w w'.drew) ∧ w'.drew.cell? p0 = some v0 ∧ w'.drew.cell? p1 = some v1 ∧ w'.drew.cell? p2 = some v2 ∧ w'.drew.cell? p3 = some v3 :=
  ⟨⟨h.1.1.below (Below.refl _ _).drew, h.1.2.1.below (Below.refl _ _).drew, h.1.2.2.drew⟩, h.2.1, h.2.2.1, h.2.2.2.1, h.2.2.2.2⟩

set_option maxRecDepth 100000 in
set_option maxHeartbeats 8000000 in
theorem divBig_any (w : World) (a b : Value) (x y : Int) (ha : IsBig w a x) (hb : IsBig w b y) (hl : (digs x.natAbs).length ≤ 256) (hl' : (digs y.natAbs).length ≤ 256) :
    Calls Tryz.prog 30 #[a, b] w (DividedBig w x y) := by
  obtain ⟨A, c, rfl, R⟩ := ha
  obtain ⟨A', c', rfl, R'⟩ := hb
  go_enter Tryz.func30, Tryz.ntmps30
  have hB := boxes4_made w (decide (x < 0)) (decide (y < 0)) (.slice A (digs x.natAbs).length c) (.slice A' (digs y.natAbs).length c')
  obtain ⟨W, hW⟩ : ∃ W, W = ((((w.alloc (.cells #[.bool (decide (x < 0)), .slice A (digs x.natAbs).length c] 28)).alloc (.cells #[.bool (decide (y < 0)), .slice A' (digs y.natAbs).length c'] 28)).alloc (.cells #[.bool false, .slice none 0 0] 28)).alloc (.cells #[.bool false, .slice none 0 0] 28)) := ⟨_, rfl⟩
  have hsz : W.heap.size = w.heap.size + 1 + 1 + 1 + 1 := by rw [hW]; simp
  rw [← hW] at hB
  have HB := Lib.hid (And.intro hB hsz)
  clear hB hsz
  go_wp2_with fail
  rw [← hW]
  clear hW
  refine (valid2 (W.alloc _) (w.heap.size + 1 + 1 + 1 + 1) 2 x y A A' c c' 28 (0, 0) (by rw [← HB.out.2]; exact heap_alloc_new W _) ?_ ?_ hl hl').mono ?_
  · exact ((HB.out.1.B.rd R).below ((Below.refl _ _).alloc (Nat.le_refl _) _)).more (by simp)
  · exact ((HB.out.1.B.rd R').below ((Below.refl _ _).alloc (Nat.le_refl _) _)).more (by simp)
  rintro _ W1 ⟨rfl, hb1⟩
  have hB1 := HB.out.1.after (((Below.refl _ _).alloc (Nat.le_refl _) _).trans (hb1.mono (by simp)))
  have a0 := hB1.B.a0
  have a1 := hB1.B.a1
  have b0 := hB1.B.b0
  have b1 := hB1.B.b1
  have r0 := hB1.B.r0
  have r1 := hB1.B.r1
  have q0 := hB1.q0
  have q1 := hB1.q1
  have f0 := hB1.fq 0
  have f1 := hB1.fq 1
  have f2 := hB1.B.fr (w.heap.size + 1 + 1) 0 (by omega) (by omega)
  have f3 := hB1.B.fr (w.heap.size + 1 + 1) 1 (by omega) (by omega)
  have H1 := Lib.hid hB1
  clear hB1 hb1
  by_cases hy : y = 0
  · have hz : (digs y.natAbs).length = 0 := digs_len_zero.2 (by omega)
    rw [hz] at b1
    have HY := Lib.hid hy
    have F := H1.out.filled (z := 0) (z' := 0) (A := none) (A' := none) (c := 0) (c' := 0) (by rw [show digs (0 : Int).natAbs = [] from digs_zero]; exact Rd.nil _ _ _ _) (by rw [show digs (0 : Int).natAbs = [] from digs_zero]; exact Rd.nil _ _ _ _)
    simp only [show digs (0 : Int).natAbs = [] from digs_zero, List.length_nil, show decide ((0 : Int) < 0) = false from rfl] at F
    have HF := Lib.hid F
    clear hy hz F
    go_wp2_with fail
    go_region_held3 (fun w' => w'.cell? ⟨w.heap.size + 1 + 1, 0, none⟩ = some (.bool false) ∧ w'.cell? ⟨w.heap.size + 1 + 1, 1, none⟩ = some (.slice none 0 0) ∧ w'.cell? ⟨w.heap.size + 1 + 1 + 1, 0, none⟩ = some (.bool false) ∧ w'.cell? ⟨w.heap.size + 1 + 1 + 1, 1, none⟩ = some (.slice none 0 0))
      (first | with_reducible exact ⟨r0, r1, q0, q1⟩ | (refine ⟨?_, ?_, ?_, ?_⟩ <;> simp [go_sem, r0, r1, q0, q1])) (fail)
    have HE := Lib.hid (filled_drew (HF.out _ (.inl rfl)))
    clear H1 HB HF r0 r1 q0 q1 R R' a0 a1 b0 b1 f0 f1 f2 f3 hl hl'
    go_wp2
    (try simp only [Exit.inBlock, Exit.then])
    refine bodyPost_ret (results_big3 rfl _ _ (w.heap.size + 1 + 1) (w.heap.size + 1 + 1 + 1) rfl rfl HE.out.2.1 HE.out.2.2.1 HE.out.2.2.2.1 HE.out.2.2.2.2) rfl ?_
    exact ⟨_, _, by rw [if_pos HY.out]; rfl, by rw [HY.out, Int.tdiv_zero]; exact HE.out.1.1, by rw [if_pos HY.out]; exact HE.out.1.2.1, HE.out.1.2.2⟩
  · have hz : ¬ (digs y.natAbs).length = 0 := fun e => hy (by have := digs_len_zero.1 e; omega)
    have HY := Lib.hid hy
    clear a0 b0 r0 r1 q0 q1 f0 f1 f2 f3
    go_wp2_with fail
    refine (divWords_any W1 A A' c c' _ _ (H1.out.B.rd R) (H1.out.B.rd R') (by omega) (by omega) (by omega)).mono ?_
    rintro _ W2 ⟨q, r, rfl, oq, orr, hb2⟩
    obtain ⟨A2, c2, rfl, R2⟩ := own_rd oq (ok_digs _)
    obtain ⟨A3, c3, rfl, R3⟩ := own_rd orr (ok_digs _)
    have hB2 := H1.out.after hb2
    have a0 := hB2.B.a0
    have b0 := hB2.B.b0
    have H2 := Lib.hid hB2
    have H2d := Lib.hid (hB2.after (Below.refl _ _).drew)
    have R2d : Rd W2.drew W2.drew.heap.size A2 c2 (digs (x.natAbs / y.natAbs)) := R2.drewN 1
    have R3d : Rd W2.drew W2.drew.heap.size A3 c3 (digs (x.natAbs % y.natAbs)) := R3.drewN 1
    clear oq orr hb2 hB2 a1 b1 hy hz R R' hl hl'
    obtain ⟨Z, hZ⟩ : ∃ Z, Z = x.tdiv y := ⟨_, rfl⟩
    obtain ⟨Z', hZ'⟩ : ∃ Z, Z = x.tmod y := ⟨_, rfl⟩
    have HZ := Lib.hid (And.intro hZ hZ')
    clear hZ hZ'
    go_wp2_with fail
    go_region_held3 (fun w' => w'.cell? ⟨w.heap.size, 0, none⟩ = some (.bool (decide (x < 0))) ∧ w'.cell? ⟨w.heap.size + 1, 0, none⟩ = some (.bool (decide (y < 0))))
      (first | with_reducible exact ⟨H2.out.B.a0, H2.out.B.b0⟩ | with_reducible exact ⟨H2d.out.B.a0, H2d.out.B.b0⟩ | with_reducible exact ⟨H3.out.B.a0, H3.out.B.b0⟩ | with_reducible exact ⟨H4.out.B.a0, H4.out.B.b0⟩ | (have q1 := H4.out.B.a0; have q2 := H4.out.B.b0; refine ⟨?_, ?_⟩ <;> simp [go_sem, q1, q2]))
      (first
        | (have R3f := R3e; clear R3e; go_at_call 50; refine (big_any W3 (decide (x < 0)) A3 c3 _ R3f).mono ?_; rintro _ W4 ⟨v4, rfl, hI4, hb4⟩
           rw [sgnd_mod, ← HZ.out.2] at hI4
           have h4 := H3.out.after hb4
           have r0 := h4.B.r0
           have r1 := h4.B.r1
           have q0 := h4.q0
           have q1 := h4.q1
           have f0 := h4.fq 0
           have f1 := h4.fq 1
           have f2 := h4.B.fr (w.heap.size + 1 + 1) 0 (by omega) (by omega)
           have f3 := h4.B.fr (w.heap.size + 1 + 1) 1 (by omega) (by omega)
           have H4 := Lib.hid h4
           obtain ⟨A5, c5, rfl, R5⟩ := hI3.below hb4
           obtain ⟨A6, c6, rfl, R6⟩ := hI4
           clear h4 hb4)
        | (go_at_call 50; refine (big_any W2.drew (decide (x < 0) != decide (y < 0)) A2 c2 _ R2d).mono ?_; rintro _ W3 ⟨v3, rfl, hI3, hb3⟩
           rw [sgnd_div, ← HZ.out.1] at hI3
           have H3 := Lib.hid (H2d.out.after hb3)
           have R3e := (R3d.below hb3).more hb3.size
           clear hb3))
    obtain ⟨e, d0, d1, d2, d3⟩ := H4.out.filled R5 R6 _ (.inl rfl)
    have HE := Lib.hid (And.intro e (And.intro d0 (And.intro d1 (And.intro d2 d3))))
    clear e d0 d1 d2 d3 R5 R6 R2 R3 R2d R3d R3f H1 H2 H2d H3 H4 HB
    go_wp2
    (try simp only [Exit.inBlock, Exit.then])
    refine bodyPost_ret (results_big3 rfl _ _ (w.heap.size + 1 + 1) (w.heap.size + 1 + 1 + 1) rfl rfl HE.out.2.1 HE.out.2.2.1 HE.out.2.2.2.1 HE.out.2.2.2.2) rfl ?_
    exact ⟨_, _, by rw [if_neg HY.out]; rfl, by rw [← HZ.out.1]; exact HE.out.1.1, by rw [if_neg HY.out, ← HZ.out.2]; exact HE.out.1.2.1, HE.out.1.2.2⟩

end Go.Proofs.YtbeidpeoichakaaGreatDoor.fz
