/- law 01: FractionDivides. -/
import Derived.Test.YtbeidpeoichakaaGreatDoorHf
import Derived.Test.YtbeidpeoichakaaGreatDoorHh
import Derived.Test.YtbeidpeoichakaaGreatDoorGf
import Derived.Test.YtbeidpeoichakaaGreatDoorFy
set_option linter.unusedSimpArgs false
namespace Go.Proofs.YtbeidpeoichakaaGreatDoor.hi
open Go.RowKit Go.Proofs.YtbeidpeoichakaaGreatDoor.fm Go.Proofs.YtbeidpeoichakaaGreatDoor.mem Go.Proofs.YtbeidpeoichakaaGreatDoor.fa Go.Proofs.YtbeidpeoichakaaGreatDoor.fb Go.Proofs.YtbeidpeoichakaaGreatDoor.fj Go.Proofs.YtbeidpeoichakaaGreatDoor.fu Go.Proofs.YtbeidpeoichakaaGreatDoor.fv Go.Proofs.YtbeidpeoichakaaGreatDoor.fw Go.Proofs.YtbeidpeoichakaaGreatDoor.fx Go.Proofs.YtbeidpeoichakaaGreatDoor.fy Go.Proofs.YtbeidpeoichakaaGreatDoor.fz Go.Proofs.YtbeidpeoichakaaGreatDoor.ga Go.Proofs.YtbeidpeoichakaaGreatDoor.gb Go.Proofs.YtbeidpeoichakaaGreatDoor.gc Go.Proofs.YtbeidpeoichakaaGreatDoor.gf Go.Proofs.YtbeidpeoichakaaGreatDoor.hb Go.Proofs.YtbeidpeoichakaaGreatDoor.hf Go.Proofs.YtbeidpeoichakaaGreatDoor.hg Go.Proofs.YtbeidpeoichakaaGreatDoor.hh Go.Proofs.YtbeidpeoichakaaGreatDoor.mill

/-- Two pairs of big integers in a row. -/
structure Pairs (w W : World) (gb : Nat) (x y : Nat → Int) : Prop where
  bel : Below w.heap.size w W
  lo : w.heap.size ≤ gb
  lt : gb < W.heap.size
  at' : ∀ k, k < 2 → ∃ A c A' c', W.cell? ⟨gb, k * 4, none⟩ = some (.bool (decide (x k < 0))) ∧ W.cell? ⟨gb, k * 4 + 1, none⟩ = some (.slice A (digs (x k).natAbs).length c) ∧
    W.cell? ⟨gb, k * 4 + 2, none⟩ = some (.bool (decide (y k < 0))) ∧ W.cell? ⟨gb, k * 4 + 3, none⟩ = some (.slice A' (digs (y k).natAbs).length c') ∧
    Rd W W.heap.size A c (digs (x k).natAbs) ∧ Rd W W.heap.size A' c' (digs (y k).natAbs)
  hx : ∀ k, (digs (x k).natAbs).length ≤ 256
  hy : ∀ k, (digs (y k).natAbs).length ≤ 256

theorem Pairs.after {w W W' : World} {gb : Nat} {x y : Nat → Int} (P : Pairs w W gb x y) (h : Below W.heap.size W W') : Pairs w W' gb x y :=
  ⟨P.bel.trans (h.mono P.bel.size), P.lo, Nat.lt_of_lt_of_le P.lt h.size, fun k hk => by
    obtain ⟨A, c, A', c', h0, h1, h2, h3, R, R'⟩ := P.at' k hk
    exact ⟨A, c, A', c', (h.cell P.lt).trans h0, (h.cell P.lt).trans h1, (h.cell P.lt).trans h2, (h.cell P.lt).trans h3, (R.below h).more h.size, (R'.below h).more h.size⟩, P.hx, P.hy⟩

theorem Pairs.set {w W : World} {gb : Nat} {x y : Nat → Int} (P : Pairs w W gb x y) {p : Addr} {v : Value} (h : NI W p) (hb : gb < p.block) : Pairs w (W.setCell p v) gb x y := by
  have hl := P.lo
  have hc : ∀ k, (W.setCell p v).cell? ⟨gb, k, none⟩ = W.cell? ⟨gb, k, none⟩ := fun k => World.cell?_setCell_other _ _ _ _ (by rintro rfl; exact absurd hb (by show ¬ gb < gb; omega))
  exact ⟨P.bel.trans ((Below.refl w.heap.size W).setCell (by omega) v), P.lo, by simpa using P.lt, fun k hk => by
    obtain ⟨A, c, A', c', h0, h1, h2, h3, R, R'⟩ := P.at' k hk
    exact ⟨A, c, A', c', (hc _).trans h0, (hc _).trans h1, (hc _).trans h2, (hc _).trans h3, (rd_set R h).more (by simp), (rd_set R' h).more (by simp)⟩, P.hx, P.hy⟩

theorem pairs_new {w W : World} {x0 y0 x1 y1 : Int} {A0 A1 A2 A3 : Option Addr} {c0 c1 c2 c3 : Nat} (hb : Below w.heap.size w W)
    (R0 : Rd W W.heap.size A0 c0 (digs x0.natAbs)) (R1 : Rd W W.heap.size A1 c1 (digs y0.natAbs)) (R2 : Rd W W.heap.size A2 c2 (digs x1.natAbs)) (R3 : Rd W W.heap.size A3 c3 (digs y1.natAbs))
    (l0 : (digs x0.natAbs).length ≤ 256) (l1 : (digs y0.natAbs).length ≤ 256) (l2 : (digs x1.natAbs).length ≤ 256) (l3 : (digs y1.natAbs).length ≤ 256) (t : TypeId) :
    Pairs w (W.alloc (.cells #[.bool (decide (x0 < 0)), .slice A0 (digs x0.natAbs).length c0, .bool (decide (y0 < 0)), .slice A1 (digs y0.natAbs).length c1, .bool (decide (x1 < 0)), .slice A2 (digs x1.natAbs).length c2, .bool (decide (y1 < 0)), .slice A3 (digs y1.natAbs).length c3] t)) W.heap.size
      (fun k => if k = 0 then x0 else x1) (fun k => if k = 0 then y0 else y1) := by
  have h := (Below.refl W.heap.size W).alloc (Nat.le_refl _) (.cells #[.bool (decide (x0 < 0)), .slice A0 (digs x0.natAbs).length c0, .bool (decide (y0 < 0)), .slice A1 (digs y0.natAbs).length c1, .bool (decide (x1 < 0)), .slice A2 (digs x1.natAbs).length c2, .bool (decide (y1 < 0)), .slice A3 (digs y1.natAbs).length c3] t)
  have hg := heap_alloc_new W (.cells #[.bool (decide (x0 < 0)), .slice A0 (digs x0.natAbs).length c0, .bool (decide (y0 < 0)), .slice A1 (digs y0.natAbs).length c1, .bool (decide (x1 < 0)), .slice A2 (digs x1.natAbs).length c2, .bool (decide (y1 < 0)), .slice A3 (digs y1.natAbs).length c3] t)
  refine ⟨hb.trans (h.mono hb.size), hb.size, by simp, fun k hk => ?_, fun k => ?_, fun k => ?_⟩
  · obtain rfl | rfl : k = 0 ∨ k = 1 := by omega
    · exact ⟨A0, c0, A1, c1, by rw [cell_of_row _ _ (0 * 4) _ _ _ hg]; rfl, by rw [cell_of_row _ _ (0 * 4 + 1) _ _ _ hg]; rfl, by rw [cell_of_row _ _ (0 * 4 + 2) _ _ _ hg]; rfl, by rw [cell_of_row _ _ (0 * 4 + 3) _ _ _ hg]; rfl, (R0.below h).more h.size, (R1.below h).more h.size⟩
    · exact ⟨A2, c2, A3, c3, by rw [cell_of_row _ _ (1 * 4) _ _ _ hg]; rfl, by rw [cell_of_row _ _ (1 * 4 + 1) _ _ _ hg]; rfl, by rw [cell_of_row _ _ (1 * 4 + 2) _ _ _ hg]; rfl, by rw [cell_of_row _ _ (1 * 4 + 3) _ _ _ hg]; rfl, (R2.below h).more h.size, (R3.below h).more h.size⟩
  · show (digs (if k = 0 then x0 else x1).natAbs).length ≤ 256
    split
    · exact l0
    · exact l2
  · show (digs (if k = 0 then y0 else y1).natAbs).length ≤ 256
    split
    · exact l1
    · exact l3

/-- A pair of big integers in a block of its own. -/
structure PairAt (W : World) (g : Nat) (a b : Int) (A : Option Addr) (c : Nat) (A' : Option Addr) (c' : Nat) : Prop where
  lt : g < W.heap.size
  c0 : W.cell? ⟨g, 0, none⟩ = some (.bool (decide (a < 0)))
  c1 : W.cell? ⟨g, 1, none⟩ = some (.slice A (digs a.natAbs).length c)
  c2 : W.cell? ⟨g, 2, none⟩ = some (.bool (decide (b < 0)))
  c3 : W.cell? ⟨g, 3, none⟩ = some (.slice A' (digs b.natAbs).length c')
  R : Rd W W.heap.size A c (digs a.natAbs)
  R' : Rd W W.heap.size A' c' (digs b.natAbs)

theorem PairAt.after {W W' : World} {g : Nat} {a b : Int} {A A' : Option Addr} {c c' : Nat} (P : PairAt W g a b A c A' c') (h : Below W.heap.size W W') : PairAt W' g a b A c A' c' :=
  ⟨Nat.lt_of_lt_of_le P.lt h.size, (h.cell P.lt).trans P.c0, (h.cell P.lt).trans P.c1, (h.cell P.lt).trans P.c2, (h.cell P.lt).trans P.c3, (P.R.below h).more h.size, (P.R'.below h).more h.size⟩
theorem PairAt.draw {W : World} {g : Nat} {a b : Int} {A A' : Option Addr} {c c' : Nat} (P : PairAt W g a b A c A' c') : PairAt W.drew g a b A c A' c' := P.after (Below.refl _ _).drew
theorem PairAt.alloc {W : World} {g : Nat} {a b : Int} {A A' : Option Addr} {c c' : Nat} (P : PairAt W g a b A c A' c') (o : Obj) : PairAt (W.alloc o) g a b A c A' c' := P.after ((Below.refl _ _).alloc (Nat.le_refl _) o)
theorem PairAt.held {W : World} {g : Nat} {a b : Int} {A A' : Option Addr} {c c' : Nat} (P : PairAt W g a b A c A' c') :
    W.cell? ⟨g, 0, none⟩ = some (.bool (decide (a < 0))) ∧ W.cell? ⟨g, 1, none⟩ = some (.slice A (digs a.natAbs).length c) ∧ W.cell? ⟨g, 2, none⟩ = some (.bool (decide (b < 0))) ∧ W.cell? ⟨g, 3, none⟩ = some (.slice A' (digs b.natAbs).length c') := ⟨P.c0, P.c1, P.c2, P.c3⟩
theorem pairAt_new {W : World} {a b : Int} {A A' : Option Addr} {c c' : Nat} (R : Rd W W.heap.size A c (digs a.natAbs)) (R' : Rd W W.heap.size A' c' (digs b.natAbs)) (t : TypeId) :
    PairAt (W.alloc (.cells #[.bool (decide (a < 0)), .slice A (digs a.natAbs).length c, .bool (decide (b < 0)), .slice A' (digs b.natAbs).length c'] t)) W.heap.size a b A c A' c' := by
  have h := (Below.refl W.heap.size W).alloc (Nat.le_refl _) (.cells #[.bool (decide (a < 0)), .slice A (digs a.natAbs).length c, .bool (decide (b < 0)), .slice A' (digs b.natAbs).length c'] t)
  exact ⟨by simp, by simp [go_sem], by simp [go_sem], by simp [go_sem], by simp [go_sem], (R.below h).more h.size, (R'.below h).more h.size⟩

/-- a and b in boxes of their own, besides the row of pairs. -/
structure TwoAt (w W : World) (gb : Nat) (x y : Nat → Int) (g10 g11 : Nat) (a b : Int) (A : Option Addr) (c : Nat) (A' : Option Addr) (c' : Nat) : Prop where
  P : Pairs w W gb x y
  a : BAt W g10 a A c
  b : BAt W g11 b A' c'
  lo : gb < g11
  fr : W.frozen? ⟨g11, 0, none⟩ = false
  ne : g10 ≠ g11

theorem TwoAt.after {w W W' : World} {gb : Nat} {x y : Nat → Int} {g10 g11 : Nat} {a b : Int} {A A' : Option Addr} {c c' : Nat} (T : TwoAt w W gb x y g10 g11 a b A c A' c') (h : Below W.heap.size W W') : TwoAt w W' gb x y g10 g11 a b A c A' c' :=
  ⟨T.P.after h, T.a.after h, T.b.after h, T.lo, (below_frozen h T.b.lt).trans T.fr, T.ne⟩

theorem two_allocs (X : World) (o o' : Obj) : Below X.heap.size X ((X.alloc o).alloc o') :=
  ((Below.refl _ _).alloc (Nat.le_refl _) o).trans (((Below.refl (X.alloc o).heap.size _).alloc (Nat.le_refl _) o').mono (by simp))

theorem div_open8 {w : World} {x y : Int} {e : Ending} {w' : World} (h : DividedBig w x y e w') (hy : y = 0) : ∃ (A : Option Addr) (c : Nat) (A' : Option Addr) (c' : Nat) (Q R : Int),
    e = .returned (.tuple #[.agg #[.bool (decide (Q < 0)), .slice A (digs Q.natAbs).length c], .agg #[.bool (decide (R < 0)), .slice A' (digs R.natAbs).length c'], .int .i64 8]) ∧ Below w.heap.size w w' := by
  obtain ⟨v3, v4, he, ⟨A, c, e1, R⟩, ⟨A', c', e2, R'⟩, hb⟩ := h
  rw [if_pos hy] at he e2 R'
  subst e1 e2
  exact ⟨A, c, A', c', _, _, he, hb⟩

/-- a and b, and two more, in boxes of their own -/
structure FourAt (w W : World) (gb : Nat) (x y : Nat → Int) (g10 g11 g12 g13 : Nat) (a b q r : Int) (A : Option Addr) (c : Nat) (A' : Option Addr) (c' : Nat) (A6 : Option Addr) (c6 : Nat) (A7 : Option Addr) (c7 : Nat) : Prop where
  T : TwoAt w W gb x y g10 g11 a b A c A' c'
  Q : BAt W g12 q A6 c6
  R : BAt W g13 r A7 c7
  lo : gb < g13
  fr : W.frozen? ⟨g13, 0, none⟩ = false
  ne : g11 ≠ g13

theorem FourAt.after {w W W' : World} {gb : Nat} {x y : Nat → Int} {g10 g11 g12 g13 : Nat} {a b q r : Int} {A A' A6 A7 : Option Addr} {c c' c6 c7 : Nat} (F : FourAt w W gb x y g10 g11 g12 g13 a b q r A c A' c' A6 c6 A7 c7) (h : Below W.heap.size W W') :
    FourAt w W' gb x y g10 g11 g12 g13 a b q r A c A' c' A6 c6 A7 c7 :=
  ⟨F.T.after h, F.Q.after h, F.R.after h, F.lo, (below_frozen h F.R.lt).trans F.fr, F.ne⟩

theorem fourAt_new {w X : World} {gb : Nat} {x y : Nat → Int} {g10 g11 : Nat} {a b q r : Int} {A A' A6 A7 : Option Addr} {c c' c6 c7 : Nat} (T : TwoAt w X gb x y g10 g11 a b A c A' c') (R6 : Rd X X.heap.size A6 c6 (digs q.natAbs)) (R7 : Rd X X.heap.size A7 c7 (digs r.natAbs)) :
    FourAt w ((X.alloc (.cells #[.bool (decide (q < 0)), .slice A6 (digs q.natAbs).length c6] 28)).alloc (.cells #[.bool (decide (r < 0)), .slice A7 (digs r.natAbs).length c7] 28)) gb x y g10 g11 X.heap.size (X.heap.size + 1) a b q r A c A' c' A6 c6 A7 c7 := by
  have h1 := (Below.refl X.heap.size X).alloc (Nat.le_refl _) (.cells #[.bool (decide (q < 0)), .slice A6 (digs q.natAbs).length c6] 28)
  have h2 := (Below.refl (X.alloc (.cells #[.bool (decide (q < 0)), .slice A6 (digs q.natAbs).length c6] 28)).heap.size _).alloc (Nat.le_refl _) (.cells #[.bool (decide (r < 0)), .slice A7 (digs r.natAbs).length c7] 28)
  have hsz : (X.alloc (.cells #[.bool (decide (q < 0)), .slice A6 (digs q.natAbs).length c6] 28)).heap.size = X.heap.size + 1 := by simp
  have hr := bat_new ((R7.below h1).more h1.size)
  rw [hsz] at hr
  have hlt := T.b.lt
  have hlo := T.lo
  exact ⟨(T.after h1).after h2, (bat_new R6).after h2, hr, by omega, by simp [go_sem], by omega⟩

theorem four_abs {w W : World} {gb : Nat} {x y : Nat → Int} {g10 g11 g12 g13 : Nat} {a b q r : Int} {A A' A6 A7 : Option Addr} {c c' c6 c7 : Nat} (F : FourAt w W gb x y g10 g11 g12 g13 a b q r A c A' c' A6 c6 A7 c7) :
    Pairs w ((W.setCell ⟨g11, 0, none⟩ (.bool false)).setCell ⟨g13, 0, none⟩ (.bool false)) gb x y ∧
    ((W.setCell ⟨g11, 0, none⟩ (.bool false)).setCell ⟨g13, 0, none⟩ (.bool false)).cell? ⟨g11, 0, none⟩ = some (.bool false) ∧
    ((W.setCell ⟨g11, 0, none⟩ (.bool false)).setCell ⟨g13, 0, none⟩ (.bool false)).cell? ⟨g11, 1, none⟩ = some (.slice A' (digs b.natAbs).length c') ∧
    ((W.setCell ⟨g11, 0, none⟩ (.bool false)).setCell ⟨g13, 0, none⟩ (.bool false)).cell? ⟨g13, 0, none⟩ = some (.bool false) ∧
    ((W.setCell ⟨g11, 0, none⟩ (.bool false)).setCell ⟨g13, 0, none⟩ (.bool false)).cell? ⟨g13, 1, none⟩ = some (.slice A7 (digs r.natAbs).length c7) ∧
    IsBig ((W.setCell ⟨g11, 0, none⟩ (.bool false)).setCell ⟨g13, 0, none⟩ (.bool false)) (.agg #[.bool false, .slice A7 (digs r.natAbs).length c7]) (r.natAbs : Int) ∧
    IsBig ((W.setCell ⟨g11, 0, none⟩ (.bool false)).setCell ⟨g13, 0, none⟩ (.bool false)) (.agg #[.bool false, .slice A' (digs b.natAbs).length c']) (b.natAbs : Int) := by
  have hne := F.ne
  have n0 : NI W ⟨g11, 0, none⟩ := ni_bool F.T.b.c0
  have n1 : NI (W.setCell ⟨g11, 0, none⟩ (.bool false)) ⟨g13, 0, none⟩ := NI.set (ni_bool F.R.c0) (fun k h => by cases h)
  have o1 : ∀ (V : World) (j k : Nat) (v : Value), (V.setCell ⟨g11, j, none⟩ v).cell? ⟨g13, k, none⟩ = V.cell? ⟨g13, k, none⟩ := fun V j k v => World.cell?_setCell_other _ _ _ _ (by intro h; injection h with h; exact hne h)
  have o2 : ∀ (V : World) (j k : Nat) (v : Value), (V.setCell ⟨g13, j, none⟩ v).cell? ⟨g11, k, none⟩ = V.cell? ⟨g11, k, none⟩ := fun V j k v => World.cell?_setCell_other _ _ _ _ (by intro h; injection h with h; exact hne h.symm)
  have hd : ∀ {V : World} {A : Option Addr} {c d : Nat}, Rd V V.heap.size A c (digs d) → IsBig V (.agg #[.bool false, .slice A (digs d).length c]) (d : Int) := fun {V} {A} {c} {d} R => ⟨A, c, by rw [decide_eq_false (by omega)]; rfl, R⟩
  refine ⟨(F.T.P.set n0 F.T.lo).set n1 F.lo, ?_, ?_, ?_, ?_, hd ?_, hd ?_⟩
  · rw [o2]; exact World.cell?_setCell_same _ _ _ F.T.b.c0
  · rw [o2]; exact (World.cell?_setCell_other _ _ _ _ (by intro h; cases h)).trans F.T.b.c1
  · exact World.cell?_setCell_same _ _ _ ((o1 _ _ _ _).trans F.R.c0)
  · exact (World.cell?_setCell_other _ _ _ _ (by intro h; cases h)).trans ((o1 _ _ _ _).trans F.R.c1)
  · exact (rd_set (rd_set F.R.R n0) n1).more (by simp)
  · exact (rd_set (rd_set F.T.b.R n0) n1).more (by simp)

theorem tdiv_mul_le (a b : Int) : (a.tdiv b * b).natAbs ≤ a.natAbs := by
  rw [Int.natAbs_mul, Int.natAbs_tdiv]
  exact Nat.div_mul_le_self _ _
theorem tmod_lt (a : Int) {b : Int} (hb : b ≠ 0) : (a.tmod b).natAbs < b.natAbs := by
  rw [Int.natAbs_tmod]
  exact Nat.mod_lt _ (by omega)
theorem tmod_sign (a b : Int) (h : a.tmod b ≠ 0) : decide (a.tmod b < 0) = decide (a < 0) := by
  rcases Int.lt_or_le a 0 with ha | ha
  · have h1 : (-a).tmod b = -(a.tmod b) := Int.neg_tmod a b
    have h2 : 0 ≤ (-a).tmod b := Int.tmod_nonneg b (by omega)
    rw [decide_eq_true (by omega), decide_eq_true ha]
  · have h2 : 0 ≤ a.tmod b := Int.tmod_nonneg b ha
    rw [decide_eq_false (by omega), decide_eq_false (by omega)]

theorem twoAt_ab {w V : World} {gb : Nat} {x y : Nat → Int} {a b : Int} {A A' : Option Addr} {c c' : Nat} (P : Pairs w V gb x y) (R : Rd V V.heap.size A c (digs a.natAbs)) (R' : Rd V V.heap.size A' c' (digs b.natAbs)) :
    TwoAt w ((V.alloc (.cells #[.bool (decide (a < 0)), .slice A (digs a.natAbs).length c] 28)).alloc (.cells #[.bool (decide (b < 0)), .slice A' (digs b.natAbs).length c'] 28)).drew gb x y V.heap.size (V.heap.size + 1) a b A c A' c' := by
  have h1 := (Below.refl V.heap.size V).alloc (Nat.le_refl _) (.cells #[.bool (decide (a < 0)), .slice A (digs a.natAbs).length c] 28)
  have h2 := (Below.refl (V.alloc (.cells #[.bool (decide (a < 0)), .slice A (digs a.natAbs).length c] 28)).heap.size _).alloc (Nat.le_refl _) (.cells #[.bool (decide (b < 0)), .slice A' (digs b.natAbs).length c'] 28)
  have hsz : (V.alloc (.cells #[.bool (decide (a < 0)), .slice A (digs a.natAbs).length c] 28)).heap.size = V.heap.size + 1 := by simp
  have hb := bat_new ((R'.below h1).more h1.size)
  rw [hsz] at hb
  have hlt := P.lt
  exact (⟨(P.after h1).after h2, (bat_new R).after h2, hb, by omega, by simp [go_sem], by omega⟩ : TwoAt w _ gb x y V.heap.size (V.heap.size + 1) a b A c A' c').after (Below.refl _ _).drew

theorem twoAt_ba {w V : World} {gb : Nat} {x y : Nat → Int} {a b : Int} {A A' : Option Addr} {c c' : Nat} (P : Pairs w V gb x y) (R : Rd V V.heap.size A c (digs a.natAbs)) (R' : Rd V V.heap.size A' c' (digs b.natAbs)) :
    TwoAt w ((V.alloc (.cells #[.bool (decide (b < 0)), .slice A' (digs b.natAbs).length c'] 28)).alloc (.cells #[.bool (decide (a < 0)), .slice A (digs a.natAbs).length c] 28)).drew gb x y (V.heap.size + 1) V.heap.size a b A c A' c' := by
  have h1 := (Below.refl V.heap.size V).alloc (Nat.le_refl _) (.cells #[.bool (decide (b < 0)), .slice A' (digs b.natAbs).length c'] 28)
  have h2 := (Below.refl (V.alloc (.cells #[.bool (decide (b < 0)), .slice A' (digs b.natAbs).length c'] 28)).heap.size _).alloc (Nat.le_refl _) (.cells #[.bool (decide (a < 0)), .slice A (digs a.natAbs).length c] 28)
  have hsz : (V.alloc (.cells #[.bool (decide (b < 0)), .slice A' (digs b.natAbs).length c'] 28)).heap.size = V.heap.size + 1 := by simp
  have ha := bat_new ((R.below h1).more h1.size)
  rw [hsz] at ha
  have hlt := P.lt
  exact (⟨(P.after h1).after h2, ha, (bat_new R').after h2, by omega, by simp [go_sem], by omega⟩ : TwoAt w _ gb x y (V.heap.size + 1) V.heap.size a b A c A' c').after (Below.refl _ _).drew

end Go.Proofs.YtbeidpeoichakaaGreatDoor.hi
