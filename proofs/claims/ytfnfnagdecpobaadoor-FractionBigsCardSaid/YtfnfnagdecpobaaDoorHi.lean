/- law 01: FractionDivides. -/
import Derived.Test.YtfnfnagdecpobaaDoorHf
import Derived.Test.YtfnfnagdecpobaaDoorHh
import Derived.Test.YtfnfnagdecpobaaDoorGf
import Derived.Test.YtfnfnagdecpobaaDoorFy
set_option linter.unusedSimpArgs false
namespace Go.Proofs.YtfnfnagdecpobaaDoor.hi
open Go.RowKit Go.Proofs.YtfnfnagdecpobaaDoor.fm Go.Proofs.YtfnfnagdecpobaaDoor.mem Go.Proofs.YtfnfnagdecpobaaDoor.fa Go.Proofs.YtfnfnagdecpobaaDoor.fb Go.Proofs.YtfnfnagdecpobaaDoor.fj Go.Proofs.YtfnfnagdecpobaaDoor.fu Go.Proofs.YtfnfnagdecpobaaDoor.fv Go.Proofs.YtfnfnagdecpobaaDoor.fw Go.Proofs.YtfnfnagdecpobaaDoor.fx Go.Proofs.YtfnfnagdecpobaaDoor.fy Go.Proofs.YtfnfnagdecpobaaDoor.fz Go.Proofs.YtfnfnagdecpobaaDoor.ga Go.Proofs.YtfnfnagdecpobaaDoor.gb Go.Proofs.YtfnfnagdecpobaaDoor.gc Go.Proofs.YtfnfnagdecpobaaDoor.gf Go.Proofs.YtfnfnagdecpobaaDoor.hb Go.Proofs.YtfnfnagdecpobaaDoor.hf Go.Proofs.YtfnfnagdecpobaaDoor.hg Go.Proofs.YtfnfnagdecpobaaDoor.hh Go.Proofs.YtfnfnagdecpobaaDoor.mill

theorem order_any (w : World) (x y : Int) : Calls Tryd.prog 44 #[.int .i64 x, .int .i64 y] w fun e w' => e = .returned (.int .i64 (fw.order x y)) ∧ w = w' := by
  go_enter Tryd.func44, Tryd.ntmps44
  unfold fw.order
  by_cases h1 : x < y
  · rw [if_pos h1]
    go_wp2_with fail
    go_ret
    exact ⟨rfl, rfl⟩
  · rw [if_neg h1]
    by_cases h2 : y < x
    · rw [if_pos h2]
      go_wp2_with fail
      go_ret
      exact ⟨rfl, rfl⟩
    · rw [if_neg h2]
      go_wp2_with fail
      go_ret
      exact ⟨rfl, rfl⟩

/-- Two pairs of big integers in a row. -/
structure Pairs (w W : World) (gb : Nat) (x y : Nat → Int) : Prop where
  bel : Below w.heap.size w W
  lo : w.heap.size ≤ gb
  lt : gb < W.heap.size
  at' : ∀ k, k < 2 → ∃ A c A' c', W.cell? ⟨gb, k * 4, none⟩ = some (.bool (decide (x k < 0))) ∧ W.cell? ⟨gb, k * 4 + 1, none⟩ = some (.slice A (digs (x k).natAbs).length c) ∧
    W.cell? ⟨gb, k * 4 + 2, none⟩ = some (.bool (decide (y k < 0))) ∧ W.cell? ⟨gb, k * 4 + 3, none⟩ = some (.slice A' (digs (y k).natAbs).length c') ∧
    Rd W W.heap.size A c (digs (x k).natAbs) ∧ Rd W W.heap.size A' c' (digs (y k).natAbs)
  hx : ∀ k, (digs (x k).natAbs).length ≤ 256
  hy : ∀ k, (digs (y k).natAbs).length ≤ 256

theorem Pairs.after {w W W' : World} {gb : Nat} {x y : Nat → Int} (P : Pairs w W gb x y) (h : Below W.heap.size W W') : Pairs w W' gb x y :=
  ⟨P.bel.trans (h.mono P.bel.size), P.lo, Nat.lt_of_lt_of_le P.lt h.size, fun k hk => by
    obtain ⟨A, c, A', c', h0, h1, h2, h3, R, R'⟩ := P.at' k hk
    exact ⟨A, c, A', c', (h.cell P.lt).trans h0, (h.cell P.lt).trans h1, (h.cell P.lt).trans h2, (h.cell P.lt).trans h3, (R.below h).more h.size, (R'.below h).more h.size⟩, P.hx, P.hy⟩

theorem Pairs.set {w W : World} {gb : Nat} {x y : Nat → Int} (P : Pairs w W gb x y) {p : Addr} {v : Value} (h : NI W p) (hb : gb < p.block) : Pairs w (W.setCell p v) gb x y := by
  have hl := P.lo
  have hc : ∀ k, (W.setCell p v).cell? ⟨gb, k, none⟩ = W.cell? ⟨gb, k, none⟩ := fun k => World.cell?_setCell_other _ _ _ _ (by rintro rfl; exact absurd hb (by show ¬ gb < gb; omega))
  exact ⟨P.bel.trans ((Below.refl w.heap.size W).setCell (by omega) v), P.lo, by simpa using P.lt, fun k hk => by
    obtain ⟨A, c, A', c', h0, h1, h2, h3, R, R'⟩ := P.at' k hk
    exact ⟨A, c, A', c', (hc _).trans h0, (hc _).trans h1, (hc _).trans h2, (hc _).trans h3, (rd_set R h).more (by simp), (rd_set R' h).more (by simp)⟩, P.hx, P.hy⟩

theorem pairs_new {w W : World} {x0 y0 x1 y1 : Int} {A0 A1 A2 A3 : Option Addr} {c0 c1 c2 c3 : Nat} (hb : Below w.heap.size w W)
    (R0 : Rd W W.heap.size A0 c0 (digs x0.natAbs)) (R1 : Rd W W.heap.size A1 c1 (digs y0.natAbs)) (R2 : Rd W W.heap.size A2 c2 (digs x1.natAbs)) (R3 : Rd W W.heap.size A3 c3 (digs y1.natAbs))
    (l0 : (digs x0.natAbs).length ≤ 256) (l1 : (digs y0.natAbs).length ≤ 256) (l2 : (digs x1.natAbs).length ≤ 256) (l3 : (digs y1.natAbs).length ≤ 256) (t : TypeId) :
    Pairs w (W.alloc (.cells #[.bool (decide (x0 < 0)), .slice A0 (digs x0.natAbs).length c0, .bool (decide (y0 < 0)), .slice A1 (digs y0.natAbs).length c1, .bool (decide (x1 < 0)), .slice A2 (digs x1.natAbs).length c2, .bool (decide (y1 < 0)), .slice A3 (digs y1.natAbs).length c3] t)) W.heap.size
      (fun k => if k = 0 then x0 else x1) (fun k => if k = 0 then y0 else y1) := by
  have h := (Below.refl W.heap.size W).alloc (Nat.le_refl _) (.cells #[.bool (decide (x0 < 0)), .slice A0 (digs x0.natAbs).length c0, .bool (decide (y0 < 0)), .slice A1 (digs y0.natAbs).length c1, .bool (decide (x1 < 0)), .slice A2 (digs x1.natAbs).length c2, .bool (decide (y1 < 0)), .slice A3 (digs y1.natAbs).length c3] t)
  have hg := heap_alloc_new W (.cells #[.bool (decide (x0 < 0)), .slice A0 (digs x0.natAbs).length c0, .bool (decide (y0 < 0)), .slice A1 (digs y0.natAbs).length c1, .bool (decide (x1 < 0)), .slice A2 (digs x1.natAbs).length c2, .bool (decide (y1 < 0)), .slice A3 (digs y1.natAbs).length c3] t)
  refine ⟨hb.trans (h.mono hb.size), hb.size, by simp, fun k hk => ?_, fun k => ?_, fun k => ?_⟩
  · obtain rfl | rfl : k = 0 ∨ k = 1 := by omega
    · exact ⟨A0, c0, A1, c1, by rw [cell_of_row _ _ (0 * 4) _ _ _ hg]; rfl, by rw [cell_of_row _ _ (0 * 4 + 1) _ _ _ hg]; rfl, by rw [cell_of_row _ _ (0 * 4 + 2) _ _ _ hg]; rfl, by rw [cell_of_row _ _ (0 * 4 + 3) _ _ _ hg]; rfl, (R0.below h).more h.size, (R1.below h).more h.size⟩
    · exact ⟨A2, c2, A3, c3, by rw [cell_of_row _ _ (1 * 4) _ _ _ hg]; rfl, by rw [cell_of_row _ _ (1 * 4 + 1) _ _ _ hg]; rfl, by rw [cell_of_row _ _ (1 * 4 + 2) _ _ _ hg]; rfl, by rw [cell_of_row _ _ (1 * 4 + 3) _ _ _ hg]; rfl, (R2.below h).more h.size, (R3.below h).more h.size⟩
  · show (digs (if k = 0 then x0 else x1).natAbs).length ≤ 256
    split
    · exact l0
    · exact l2
  · show (digs (if k = 0 then y0 else y1).natAbs).length ≤ 256
    split
    · exact l1
    · exact l3

/-- A pair of big integers in a block of its own. -/
structure PairAt (W : World) (g : Nat) (a b : Int) (A : Option Addr) (c : Nat) (A' : Option Addr) (c' : Nat) : Prop where
  lt : g < W.heap.size
  c0 : W.cell? ⟨g, 0, none⟩ = some (.bool (decide (a < 0)))
  c1 : W.cell? ⟨g, 1, none⟩ = some (.slice A (digs a.natAbs).length c)
  c2 : W.cell? ⟨g, 2, none⟩ = some (.bool (decide (b < 0)))
  c3 : W.cell? ⟨g, 3, none⟩ = some (.slice A' (digs b.natAbs).length c')
  R : Rd W W.heap.size A c (digs a.natAbs)
  R' : Rd W W.heap.size A' c' (digs b.natAbs)

theorem PairAt.after {W W' : World} {g : Nat} {a b : Int} {A A' : Option Addr} {c c' : Nat} (P : PairAt W g a b A c A' c') (h : Below W.heap.size W W') : PairAt W' g a b A c A' c' :=
  ⟨Nat.lt_of_lt_of_le P.lt h.size, (h.cell P.lt).trans P.c0, (h.cell P.lt).trans P.c1, (h.cell P.lt).trans P.c2, (h.cell P.lt).trans P.c3, (P.R.below h).more h.size, (P.R'.below h).more h.size⟩
theorem PairAt.draw {W : World} {g : Nat} {a b : Int} {A A' : Option Addr} {c c' : Nat} (P : PairAt W g a b A c A' c') : PairAt W.drew g a b A c A' c' := P.after (Below.refl _ _).drew
theorem PairAt.alloc {W : World} {g : Nat} {a b : Int} {A A' : Option Addr} {c c' : Nat} (P : PairAt W g a b A c A' c') (o : Obj) : PairAt (W.alloc o) g a b A c A' c' := P.after ((Below.refl _ _).alloc (Nat.le_refl _) o)
theorem PairAt.held {W : World} {g : Nat} {a b : Int} {A A' : Option Addr} {c c' : Nat} (P : PairAt W g a b A c A' c') :
    W.cell? ⟨g, 0, none⟩ = some (.bool (decide (a < 0))) ∧ W.cell? ⟨g, 1, none⟩ = some (.slice A (digs a.natAbs).length c) ∧ W.cell? ⟨g, 2, none⟩ = some (.bool (decide (b < 0))) ∧ W.cell? ⟨g, 3, none⟩ = some (.slice A' (digs b.natAbs).length c') := ⟨P.c0, P.c1, P.c2, P.c3⟩
theorem pairAt_new {W : World} {a b : Int} {A A' : Option Addr} {c c' : Nat} (R : Rd W W.heap.size A c (digs a.natAbs)) (R' : Rd W W.heap.size A' c' (digs b.natAbs)) (t : TypeId) :
    PairAt (W.alloc (.cells #[.bool (decide (a < 0)), .slice A (digs a.natAbs).length c, .bool (decide (b < 0)), .slice A' (digs b.natAbs).length c'] t)) W.heap.size a b A c A' c' := by
  have h := (Below.refl W.heap.size W).alloc (Nat.le_refl _) (.cells #[.bool (decide (a < 0)), .slice A (digs a.natAbs).length c, .bool (decide (b < 0)), .slice A' (digs b.natAbs).length c'] t)
  exact ⟨by simp, by simp [go_sem], by simp [go_sem], by simp [go_sem], by simp [go_sem], (R.below h).more h.size, (R'.below h).more h.size⟩

/-- a and b in boxes of their own, besides the row of pairs. -/
structure TwoAt (w W : World) (gb : Nat) (x y : Nat → Int) (g10 g11 : Nat) (a b : Int) (A : Option Addr) (c : Nat) (A' : Option Addr) (c' : Nat) : Prop where
  P : Pairs w W gb x y
  a : BAt W g10 a A c
  b : BAt W g11 b A' c'
  lo : gb < g11
  fr : W.frozen? ⟨g11, 0, none⟩ = false
  ne : g10 ≠ g11

theorem TwoAt.after {w W W' : World} {gb : Nat} {x y : Nat → Int} {g10 g11 : Nat} {a b : Int} {A A' : Option Addr} {c c' : Nat} (T : TwoAt w W gb x y g10 g11 a b A c A' c') (h : Below W.heap.size W W') : TwoAt w W' gb x y g10 g11 a b A c A' c' :=
  ⟨T.P.after h, T.a.after h, T.b.after h, T.lo, (below_frozen h T.b.lt).trans T.fr, T.ne⟩

theorem two_allocs (X : World) (o o' : Obj) : Below X.heap.size X ((X.alloc o).alloc o') :=
  ((Below.refl _ _).alloc (Nat.le_refl _) o).trans (((Below.refl (X.alloc o).heap.size _).alloc (Nat.le_refl _) o').mono (by simp))

theorem div_open8 {w : World} {x y : Int} {e : Ending} {w' : World} (h : DividedBig w x y e w') (hy : y = 0) : ∃ (A : Option Addr) (c : Nat) (A' : Option Addr) (c' : Nat) (Q R : Int),
    e = .returned (.tuple #[.agg #[.bool (decide (Q < 0)), .slice A (digs Q.natAbs).length c], .agg #[.bool (decide (R < 0)), .slice A' (digs R.natAbs).length c'], .int .i64 8]) ∧ Below w.heap.size w w' := by
  obtain ⟨v3, v4, he, ⟨A, c, e1, R⟩, ⟨A', c', e2, R'⟩, hb⟩ := h
  rw [if_pos hy] at he e2 R'
  subst e1 e2
  exact ⟨A, c, A', c', _, _, he, hb⟩

/-- a and b, and two more, in boxes of their own -/
structure FourAt (w W : World) (gb : Nat) (x y : Nat → Int) (g10 g11 g12 g13 : Nat) (a b q r : Int) (A : Option Addr) (c : Nat) (A' : Option Addr) (c' : Nat) (A6 : Option Addr) (c6 : Nat) (A7 : Option Addr) (c7 : Nat) : Prop where
  T : TwoAt w W gb x y g10 g11 a b A c A' c'
  Q : BAt W g12 q A6 c6
  R : BAt W g13 r A7 c7
  lo : gb < g13
  fr : W.frozen? ⟨g13, 0, none⟩ = false
  ne : g11 ≠ g13

theorem FourAt.after {w W W' : World} {gb : Nat} {x y : Nat → Int} {g10 g11 g12 g13 : Nat} {a b q r : Int} {A A' A6 A7 : Option Addr} {c c' c6 c7 : Nat} (F : FourAt w W gb x y g10 g11 g12 g13 a b q r A c A' c' A6 c6 A7 c7) (h : Below W.heap.size W W') :
    FourAt w W' gb x y g10 g11 g12 g13 a b q r A c A' c' A6 c6 A7 c7 :=
  ⟨F.T.after h, F.Q.after h, F.R.after h, F.lo, (below_frozen h F.R.lt).trans F.fr, F.ne⟩

theorem fourAt_new {w X : World} {gb : Nat} {x y : Nat → Int} {g10 g11 : Nat} {a b q r : Int} {A A' A6 A7 : Option Addr} {c c' c6 c7 : Nat} (T : TwoAt w X gb x y g10 g11 a b A c A' c') (R6 : Rd X X.heap.size A6 c6 (digs q.natAbs)) (R7 : Rd X X.heap.size A7 c7 (digs r.natAbs)) :
    FourAt w ((X.alloc (.cells #[.bool (decide (q < 0)), .slice A6 (digs q.natAbs).length c6] 28)).alloc (.cells #[.bool (decide (r < 0)), .slice A7 (digs r.natAbs).length c7] 28)) gb x y g10 g11 X.heap.size (X.heap.size + 1) a b q r A c A' c' A6 c6 A7 c7 := by
  have h1 := (Below.refl X.heap.size X).alloc (Nat.le_refl _) (.cells #[.bool (decide (q < 0)), .slice A6 (digs q.natAbs).length c6] 28)
  have h2 := (Below.refl (X.alloc (.cells #[.bool (decide (q < 0)), .slice A6 (digs q.natAbs).length c6] 28)).heap.size _).alloc (Nat.le_refl _) (.cells #[.bool (decide (r < 0)), .slice A7 (digs r.natAbs).length c7] 28)
  have hsz : (X.alloc (.cells #[.bool (decide (q < 0)), .slice A6 (digs q.natAbs).length c6] 28)).heap.size = X.heap.size + 1 := by simp
  have hr := bat_new ((R7.below h1).more h1.size)
  rw [hsz] at hr
  have hlt := T.b.lt
  have hlo := T.lo
  exact ⟨(T.after h1).after h2, (bat_new R6).after h2, hr, by omega, by simp [go_sem], by omega⟩

theorem four_abs {w W : World} {gb : Nat} {x y : Nat → Int} {g10 g11 g12 g13 : Nat} {a b q r : Int} {A A' A6 A7 : Option Addr} {c c' c6 c7 : Nat} (F : FourAt w W gb x y g10 g11 g12 g13 a b q r A c A' c' A6 c6 A7 c7) :
    Pairs w ((W.setCell ⟨g11, 0, none⟩ (.bool false)).setCell ⟨g13, 0, none⟩ (.bool false)) gb x y ∧
    ((W.setCell ⟨g11, 0, none⟩ (.bool false)).setCell ⟨g13, 0, none⟩ (.bool false)).cell? ⟨g11, 0, none⟩ = some (.bool false) ∧
    ((W.setCell ⟨g11, 0, none⟩ (.bool false)).setCell ⟨g13, 0, none⟩ (.bool false)).cell? ⟨g11, 1, none⟩ = some (.slice A' (digs b.natAbs).length c') ∧
    ((W.setCell ⟨g11, 0, none⟩ (.bool false)).setCell ⟨g13, 0, none⟩ (.bool false)).cell? ⟨g13, 0, none⟩ = some (.bool false) ∧
    ((W.setCell ⟨g11, 0, none⟩ (.bool false)).setCell ⟨g13, 0, none⟩ (.bool false)).cell? ⟨g13, 1, none⟩ = some (.slice A7 (digs r.natAbs).length c7) ∧
    IsBig ((W.setCell ⟨g11, 0, none⟩ (.bool false)).setCell ⟨g13, 0, none⟩ (.bool false)) (.agg #[.bool false, .slice A7 (digs r.natAbs).length c7]) (r.natAbs : Int) ∧
    IsBig ((W.setCell ⟨g11, 0, none⟩ (.bool false)).setCell ⟨g13, 0, none⟩ (.bool false)) (.agg #[.bool false, .slice A' (digs b.natAbs).length c']) (b.natAbs : Int) := by
  have hne := F.ne
  have n0 : NI W ⟨g11, 0, none⟩ := ni_bool F.T.b.c0
  have n1 : NI (W.setCell ⟨g11, 0, none⟩ (.bool false)) ⟨g13, 0, none⟩ := NI.set (ni_bool F.R.c0) (fun k h => by cases h)
  have o1 : ∀ (V : World) (j k : Nat) (v : Value), (V.setCell ⟨g11, j, none⟩ v).cell? ⟨g13, k, none⟩ = V.cell? ⟨g13, k, none⟩ := fun V j k v => World.cell?_setCell_other _ _ _ _ (by intro h; injection h with h; exact hne h)
  have o2 : ∀ (V : World) (j k : Nat) (v : Value), (V.setCell ⟨g13, j, none⟩ v).cell? ⟨g11, k, none⟩ = V.cell? ⟨g11, k, none⟩ := fun V j k v => World.cell?_setCell_other _ _ _ _ (by intro h; injection h with h; exact hne h.symm)
  have hd : ∀ {V : World} {A : Option Addr} {c d : Nat}, Rd V V.heap.size A c (digs d) → IsBig V (.agg #[.bool false, .slice A (digs d).length c]) (d : Int) := fun {V} {A} {c} {d} R => ⟨A, c, by rw [decide_eq_false (by omega)]; rfl, R⟩
  refine ⟨(F.T.P.set n0 F.T.lo).set n1 F.lo, ?_, ?_, ?_, ?_, hd ?_, hd ?_⟩
  · rw [o2]; exact World.cell?_setCell_same _ _ _ F.T.b.c0
  · rw [o2]; exact (World.cell?_setCell_other _ _ _ _ (by intro h; cases h)).trans F.T.b.c1
  · exact World.cell?_setCell_same _ _ _ ((o1 _ _ _ _).trans F.R.c0)
  · exact (World.cell?_setCell_other _ _ _ _ (by intro h; cases h)).trans ((o1 _ _ _ _).trans F.R.c1)
  · exact (rd_set (rd_set F.R.R n0) n1).more (by simp)
  · exact (rd_set (rd_set F.T.b.R n0) n1).more (by simp)

theorem tdiv_mul_le (a b : Int) : (a.tdiv b * b).natAbs ≤ a.natAbs := by
  rw [Int.natAbs_mul, Int.natAbs_tdiv]
  exact Nat.div_mul_le_self _ _
theorem tmod_lt (a : Int) {b : Int} (hb : b ≠ 0) : (a.tmod b).natAbs < b.natAbs := by
  rw [Int.natAbs_tmod]
  exact Nat.mod_lt _ (by omega)
theorem tmod_sign (a b : Int) (h : a.tmod b ≠ 0) : decide (a.tmod b < 0) = decide (a < 0) := by
  rcases Int.lt_or_le a 0 with ha | ha
  · have h1 : (-a).tmod b = -(a.tmod b) := Int.neg_tmod a b
    have h2 : 0 ≤ (-a).tmod b := Int.tmod_nonneg b (by omega)
    rw [decide_eq_true (by omega), decide_eq_true ha]
  · have h2 : 0 ≤ a.tmod b := Int.tmod_nonneg b ha
    rw [decide_eq_false (by omega), decide_eq_false (by omega)]

theorem twoAt_ab {w V : World} {gb : Nat} {x y : Nat → Int} {a b : Int} {A A' : Option Addr} {c c' : Nat} (P : Pairs w V gb x y) (R : Rd V V.heap.size A c (digs a.natAbs)) (R' : Rd V V.heap.size A' c' (digs b.natAbs)) :
    TwoAt w ((V.alloc (.cells #[.bool (decide (a < 0)), .slice A (digs a.natAbs).length c] 28)).alloc (.cells #[.bool (decide (b < 0)), .slice A' (digs b.natAbs).length c'] 28)).drew gb x y V.heap.size (V.heap.size + 1) a b A c A' c' := by
  have h1 := (Below.refl V.heap.size V).alloc (Nat.le_refl _) (.cells #[.bool (decide (a < 0)), .slice A (digs a.natAbs).length c] 28)
  have h2 := (Below.refl (V.alloc (.cells #[.bool (decide (a < 0)), .slice A (digs a.natAbs).length c] 28)).heap.size _).alloc (Nat.le_refl _) (.cells #[.bool (decide (b < 0)), .slice A' (digs b.natAbs).length c'] 28)
  have hsz : (V.alloc (.cells #[.bool (decide (a < 0)), .slice A (digs a.natAbs).length c] 28)).heap.size = V.heap.size + 1 := by simp
  have hb := bat_new ((R'.below h1).more h1.size)
  rw [hsz] at hb
  have hlt := P.lt
  exact (⟨(P.after h1).after h2, (bat_new R).after h2, hb, by omega, by simp [go_sem], by omega⟩ : TwoAt w _ gb x y V.heap.size (V.heap.size + 1) a b A c A' c').after (Below.refl _ _).drew

theorem twoAt_ba {w V : World} {gb : Nat} {x y : Nat → Int} {a b : Int} {A A' : Option Addr} {c c' : Nat} (P : Pairs w V gb x y) (R : Rd V V.heap.size A c (digs a.natAbs)) (R' : Rd V V.heap.size A' c' (digs b.natAbs)) :
    TwoAt w ((V.alloc (.cells #[.bool (decide (b < 0)), .slice A' (digs b.natAbs).length c'] 28)).alloc (.cells #[.bool (decide (a < 0)), .slice A (digs a.natAbs).length c] 28)).drew gb x y (V.heap.size + 1) V.heap.size a b A c A' c' := by
  have h1 := (Below.refl V.heap.size V).alloc (Nat.le_refl _) (.cells #[.bool (decide (b < 0)), .slice A' (digs b.natAbs).length c'] 28)
  have h2 := (Below.refl (V.alloc (.cells #[.bool (decide (b < 0)), .slice A' (digs b.natAbs).length c'] 28)).heap.size _).alloc (Nat.le_refl _) (.cells #[.bool (decide (a < 0)), .slice A (digs a.natAbs).length c] 28)
  have hsz : (V.alloc (.cells #[.bool (decide (b < 0)), .slice A' (digs b.natAbs).length c'] 28)).heap.size = V.heap.size + 1 := by simp
  have ha := bat_new ((R.below h1).more h1.size)
  rw [hsz] at ha
  have hlt := P.lt
  exact (⟨(P.after h1).after h2, ha, (bat_new R').after h2, by omega, by simp [go_sem], by omega⟩ : TwoAt w _ gb x y (V.heap.size + 1) V.heap.size a b A c A' c').after (Below.refl _ _).drew

set_option maxRecDepth 100000 in
set_option maxHeartbeats 8000000 in
theorem divides_any (w : World) (A : Option Addr) (c : Nat) (l : List Nat) (S : Seeds w w.heap.size A c l) (hl : l.length ≤ maxLen) (n m : Int) (hn1 : -9223372036854775808 ≤ n) (hn2 : n < 9223372036854775808) (hm1 : -9223372036854775808 ≤ m) (hm2 : m < 9223372036854775808) (hT : Tabs w) (hP : Pow w) :
    Calls Tryd.prog 6 #[.slice A l.length c, .int .i64 n, .int .i64 m] w fun e w' => e = .returned (.bool true) ∧ Below w.heap.size w w' := by
  go_enter Tryd.func6, Tryd.ntmps6
  have HS := Lib.hid S
  have HI := Lib.hid (And.intro (And.intro hn1 hn2) (And.intro hm1 hm2))
  clear S hn1 hn2 hm1 hm2
  go_wp2_with fail
  refine (sane_any w hT hP).mono ?_
  rintro _ W1 ⟨rfl, hb1⟩
  go_wp2_with fail
  refine (new_any W1 A c l ((HS.out.below hb1).more hb1.size) hl).mono ?_
  rintro _ W2 ⟨rfl, hD2, hb2⟩
  obtain ⟨l2, hl2⟩ : ∃ l2, l2 = l.take 300 := ⟨_, rfl⟩
  rw [← hl2] at hD2
  clear hl2
  have H2 := Lib.hid (hb1.trans (hb2.mono hb1.size))
  have Hg : w.heap.size ≤ W1.heap.size := hb1.size
  generalize W1.heap.size = g at *
  clear hb1 hb2
  go_wp2_with fail
  refine (diceBig_any W2 g l2 0 hD2).mono ?_
  rintro _ W3 ⟨v3, x0, k3, rfl, hI3, hx0, hD3, hK3⟩
  go_wp2_with fail
  refine (diceBig_any W3 g l2 k3 hD3).mono ?_
  rintro _ W4 ⟨v4, y0, k4, rfl, hI4, hy0, hD4, hK4⟩
  have hI3' := isBig_kept hI3 hK4
  obtain ⟨A0, c0, rfl, R0⟩ := hI3'
  obtain ⟨A1, c1, rfl, R1⟩ := hI4
  have h4 : Below w.heap.size w W4 := H2.out.trans ((hK3.trans hK4).bel.mono Hg)
  clear hI3 hK3 hK4 hD2 hD3 hD4
  go_wp2_with fail
  refine (fromInt_any W4 n HI.out.1.1 HI.out.1.2).mono ?_
  rintro _ W5 ⟨v5, rfl, hI5, hb5⟩
  go_wp2_with fail
  refine (fromInt_any W5 m HI.out.2.1 HI.out.2.2).mono ?_
  rintro _ W6 ⟨v6, rfl, hI6, hb6⟩
  have hb56 : Below W4.heap.size W4 W6 := hb5.trans (hb6.mono hb5.size)
  obtain ⟨A2, c2, rfl, R2⟩ := hI5.below hb6
  obtain ⟨A3, c3, rfl, R3⟩ := hI6
  have hP6 := fun t => pairs_new (h4.trans (hb56.mono h4.size)) ((R0.below hb56).more hb56.size) ((R1.below hb56).more hb56.size) R2 R3 (by omega) (by omega) (Nat.le_trans (int_len HI.out.1.1 HI.out.1.2) (by decide)) (Nat.le_trans (int_len HI.out.2.1 HI.out.2.2) (by decide)) t
  have H6 := Lib.hid hP6
  clear hP6 R0 R1 R2 R3 hb5 hb6 hI5 h4 H2 hb56
  go_wp2_with fail
  obtain ⟨W7, hW7⟩ : ∃ W7, W7 = W6.alloc (.cells #[.bool (decide (x0 < 0)), .slice A0 (digs x0.natAbs).length c0, .bool (decide (y0 < 0)), .slice A1 (digs y0.natAbs).length c1, .bool (decide (n < 0)), .slice A2 (digs n.natAbs).length c2, .bool (decide (m < 0)), .slice A3 (digs m.natAbs).length c3] 30) := ⟨_, rfl⟩
  have hP7 : ∃ x y : Nat → Int, Pairs w W7 W6.heap.size x y := ⟨_, _, by rw [hW7]; exact H6.out _⟩
  rw [← hW7]
  obtain ⟨x, y, P7⟩ := hP7
  generalize W6.heap.size = gb at *
  clear hW7 H6
  go_loopw [37] (fun s37 wr => ∃ k : Nat, k ≤ 2 ∧ s37 = .int .i64 (k : Int) ∧ Pairs w wr gb x y) (fun s37 _ => 2 - (intOf s37).toNat)
  case atStart => exact ⟨0, by decide, rfl, P7⟩
  case round =>
    clear P7
    obtain ⟨k, hk, rfl, P⟩ := hrel
    have HP := Lib.hid P
    clear P
    by_cases hk2 : k < 2
    · obtain ⟨A4, c4, A5, c5, h0, h1, h2, h3, R4, R5⟩ := HP.out.at' k hk2
      have la := HP.out.hx k
      have lb := HP.out.hy k
      generalize x k = a at *
      generalize y k = b at *
      have hkz : (k : Int) < 2 := by omega
      go_upto_region 7 with fail
      have hbV : Below wr.heap.size wr (wr.alloc (.cells #[.bool (decide (a < 0)), .slice A4 (digs a.natAbs).length c4, .bool (decide (b < 0)), .slice A5 (digs b.natAbs).length c5] 30)) := (Below.refl _ _).alloc (Nat.le_refl _) _
      have hPV := pairAt_new R4 R5 30
      obtain ⟨V, hV⟩ : ∃ V, V = wr.alloc (.cells #[.bool (decide (a < 0)), .slice A4 (digs a.natAbs).length c4, .bool (decide (b < 0)), .slice A5 (digs b.natAbs).length c5] 30) := ⟨_, rfl⟩
      rw [← hV] at hbV hPV ⊢
      have HV := Lib.hid (And.intro (HP.out.after hbV) hPV)
      generalize wr.heap.size = g9 at *
      obtain ⟨p0, p1, p2, p3⟩ := hPV.held
      clear hV hbV hPV h0 h1 h2 h3 R4 R5 HP
      go_cut [10, 11] (fun s10 s11 wx => ∃ g10 g11, s10 = .pointer (some ⟨g10, 0, none⟩) ∧ s11 = .pointer (some ⟨g11, 0, none⟩) ∧ TwoAt w wx gb x y g10 g11 a b A4 c4 A5 c5)
      case first =>
        go_region_held3 (fun w' => w'.cell? ⟨g9, 0, none⟩ = some (.bool (decide (a < 0))) ∧ w'.cell? ⟨g9, 1, none⟩ = some (.slice A4 (digs a.natAbs).length c4) ∧ w'.cell? ⟨g9, 2, none⟩ = some (.bool (decide (b < 0))) ∧ w'.cell? ⟨g9, 3, none⟩ = some (.slice A5 (digs b.natAbs).length c5))
          (first | with_reducible exact HV.out.2.held | with_reducible exact HV.out.2.draw.held | with_reducible exact (HV.out.2.alloc _).held | with_reducible exact (HV.out.2.draw.alloc _).held | with_reducible exact ((HV.out.2.draw.alloc _).alloc _).held | with_reducible exact (HV.out.2.alloc _).draw.held | with_reducible exact ((HV.out.2.alloc _).alloc _).held | with_reducible exact ((HV.out.2.alloc _).alloc _).draw.held)
          (fail)
        all_goals (go_wp2_with fail; go_meet; first | exact ⟨_, _, rfl, rfl, twoAt_ab HV.out.1 HV.out.2.R HV.out.2.R'⟩ | exact ⟨_, _, rfl, rfl, twoAt_ba HV.out.1 HV.out.2.R HV.out.2.R'⟩)
      case rest =>
      obtain ⟨g10, g11, rfl, rfl, T⟩ := hcut
      have HT2 := Lib.hid T
      have a0 := T.a.c0
      have a1 := T.a.c1
      have b0 := T.b.c0
      have b1 := T.b.c1
      clear T p0 p1 p2 p3 HV
      by_cases hb0 : b = 0
      · have HB0 := Lib.hid hb0
        have z1 : (((digs b.natAbs).length : Int) == 0) = true := by rw [hb0]; rfl
        clear hb0
        go_wp2_with fail
        refine (divBig_any _ _ _ a b HT2.out.a.big HT2.out.b.big la lb).mono ?_
        rintro _ X1 hF
        obtain ⟨A6, c6, A7, c7, q, r, rfl, hb8⟩ := div_open8 hF HB0.out
        clear hF a0 a1 b0 b1
        have T1 := HT2.out.after hb8
        go_upto_region 9 with fail
        have T2 := T1.after ((two_allocs X1 (.cells #[.bool (decide (q < 0)), .slice A6 (digs q.natAbs).length c6] 28) (.cells #[.bool (decide (r < 0)), .slice A7 (digs r.natAbs).length c7] 28)))
        obtain ⟨X2, hX2⟩ : ∃ X2, X2 = (X1.alloc (.cells #[.bool (decide (q < 0)), .slice A6 (digs q.natAbs).length c6] 28)).alloc (.cells #[.bool (decide (r < 0)), .slice A7 (digs r.natAbs).length c7] 28) := ⟨_, rfl⟩
        rw [← hX2] at T2 ⊢
        have b0 := T2.b.c0
        have b1 := T2.b.c1
        have HT3 := Lib.hid T2
        clear T1 T2 hX2 hb8 HT2
        go_wp2_with fail
        exact ⟨⟨k + 1, by omega, by go_num, HT3.out.P⟩, by simp [intOf]; omega⟩
      · have hbl : (digs b.natAbs).length ≠ 0 := fun e => hb0 (by have := digs_len_zero.1 e; omega)
        have z1 : (((digs b.natAbs).length : Int) == 0) = false := beq_eq_false_iff_ne.2 (by omega)
        have HB0 := Lib.hid hb0
        clear hb0 hbl
        go_wp2_with fail
        refine (divBig_any _ _ _ a b HT2.out.a.big HT2.out.b.big la lb).mono ?_
        rintro _ X1 hF
        obtain ⟨A6, c6, A7, c7, q, r, rfl, R6, R7, hb8, HQ⟩ := div_open hF HB0.out
        clear hF a0 a1 b0 b1
        have T1 := HT2.out.after hb8
        go_upto_region 9 with fail
        have F2 := fourAt_new T1 R6 R7
        obtain ⟨X2, hX2⟩ : ∃ X2, X2 = (X1.alloc (.cells #[.bool (decide (q < 0)), .slice A6 (digs q.natAbs).length c6] 28)).alloc (.cells #[.bool (decide (r < 0)), .slice A7 (digs r.natAbs).length c7] 28) := ⟨_, rfl⟩
        rw [← hX2] at F2 ⊢
        generalize X1.heap.size = g12 at *
        have HF2 := Lib.hid F2
        have b0 := F2.T.b.c0
        have b1 := F2.T.b.c1
        have q0 := F2.Q.c0
        have q1 := F2.Q.c1
        clear F2 T1 hX2 R6 R7 hb8 HT2
        have hab : q * b + r = a := by rw [HQ.out.1, HQ.out.2]; exact Int.mul_comm b _ ▸ Int.mul_tdiv_add_tmod a b
        have hqa : (q * b).natAbs ≤ a.natAbs := by rw [HQ.out.1]; exact tdiv_mul_le a b
        have hra : r.natAbs < b.natAbs := by rw [HQ.out.2]; exact tmod_lt a HB0.out
        have hrs : r ≠ 0 → decide (r < 0) = decide (a < 0) := by rw [HQ.out.2]; exact tmod_sign a b
        have hql : (digs q.natAbs).length ≤ 256 := Nat.le_trans (len_mono (by rw [HQ.out.1, Int.natAbs_tdiv]; exact Nat.div_le_self _ _)) la
        have hrl : (digs r.natAbs).length ≤ 256 := Nat.le_trans (len_mono (Nat.le_of_lt hra)) lb
        have hqbl : (digs (q * b).natAbs).length ≤ 256 := Nat.le_trans (len_mono hqa) la
        have HM := Lib.hid (And.intro hab (And.intro hra (And.intro hrs hqbl)))
        clear hab hqa hra hrs hqbl
        go_wp2_with fail
        refine (mulBig_any X2 _ _ q b HF2.out.Q.big HF2.out.T.b.big hql lb).mono ?_
        rintro _ X3 hF
        obtain ⟨A8, c8, Z1, k1, rfl, R8, hb9, hk1⟩ := limited_open hF
        have hk2 : k1 = 0 := by rw [hk1.out.1]; unfold lerr; rw [if_pos HM.out.2.2.2]
        have hz1 : Z1 = q * b := by rw [hk1.out.2]; unfold lim; rw [if_pos HM.out.2.2.2]
        subst hk2
        have HZ1 := Lib.hid hz1
        clear hF hk1 hz1 b0 b1 q0 q1
        go_upto_region 13 with fail
        have F3 := (HF2.out.after hb9).after ((Below.refl X3.heap.size X3).alloc (Nat.le_refl _) (.cells #[.bool (decide (Z1 < 0)), .slice A8 (digs Z1.natAbs).length c8] 28))
        have B8 := bat_new R8
        obtain ⟨X4, hX4⟩ : ∃ X4, X4 = X3.alloc (.cells #[.bool (decide (Z1 < 0)), .slice A8 (digs Z1.natAbs).length c8] 28) := ⟨_, rfl⟩
        rw [← hX4] at F3 B8 ⊢
        generalize X3.heap.size = g15 at *
        have HF3 := Lib.hid (And.intro F3 B8)
        have z0 := B8.c0
        have z1' := B8.c1
        have r0 := F3.R.c0
        have r1 := F3.R.c1
        clear F3 B8 hX4 R8 hb9 HF2
        go_wp2_with fail
        refine (addBig_any X4 _ _ Z1 r HF3.out.2.big HF3.out.1.R.big (by rw [HZ1.out]; exact HM.out.2.2.2) hrl).mono ?_
        rintro _ X5 hF
        have hsum : Z1 + r = a := by rw [HZ1.out]; exact HM.out.1
        rw [hsum] at hF
        obtain ⟨A9, c9, Z2, k2, rfl, R9, hb10, hk3⟩ := limited_open hF
        have hk4 : k2 = 0 := by rw [hk3.out.1]; unfold lerr; rw [if_pos la]
        have hz2 : Z2 = a := by rw [hk3.out.2]; unfold lim; rw [if_pos la]
        subst hk4
        have HZ2 := Lib.hid hz2
        clear hF hk3 hz2 hsum z0 z1' r0 r1
        go_upto_region 14 with fail
        have F4 := (HF3.out.1.after hb10).after ((Below.refl X5.heap.size X5).alloc (Nat.le_refl _) (.cells #[.bool (decide (Z2 < 0)), .slice A9 (digs Z2.natAbs).length c9] 28))
        have B9 := bat_new R9
        obtain ⟨X6, hX6⟩ : ∃ X6, X6 = X5.alloc (.cells #[.bool (decide (Z2 < 0)), .slice A9 (digs Z2.natAbs).length c9] 28) := ⟨_, rfl⟩
        rw [← hX6] at F4 B9 ⊢
        generalize X5.heap.size = g17 at *
        have HF4 := Lib.hid (And.intro F4 B9)
        have z0 := B9.c0
        have z1' := B9.c1
        have a0 := F4.T.a.c0
        have a1 := F4.T.a.c1
        clear F4 B9 hX6 R9 hb10 HF3
        go_wp2_with fail
        refine (cmpBig_any X6 _ _ Z2 a HF4.out.2.big HF4.out.1.T.a.big (by rw [HZ2.out]; exact la) la).mono ?_
        rintro _ X7 ⟨rfl, hb11⟩
        rw [show fw.order Z2 a = 0 by rw [HZ2.out]; unfold fw.order; simp]
        have F5 := HF4.out.1.after hb11
        have HF5 := Lib.hid F5
        clear z0 z1' a0 a1
        have a0 := F5.T.a.c0
        have r0 := F5.R.c0
        have r1 := F5.R.c1
        have b0 := F5.T.b.c0
        have b1 := F5.T.b.c1
        have f11 := F5.T.fr
        have f13 := F5.fr
        have n11 : ¬ g11 = g12 + 1 := F5.ne
        have n12 : ¬ g12 + 1 = g11 := fun e => F5.ne e.symm
        clear F5 hb11 HF4
        by_cases hr0 : r = 0
        · have z2 : ¬ (0 : Int) < ((digs r.natAbs).length : Int) := by rw [hr0]; decide
          clear hr0
          go_upto_region 17 with fail
          have hE := four_abs HF5.out
          obtain ⟨X8, hX8⟩ : ∃ X8, X8 = (X7.setCell ⟨g11, 0, none⟩ (.bool false)).setCell ⟨g12 + 1, 0, none⟩ (.bool false) := ⟨_, rfl⟩
          rw [← hX8] at hE ⊢
          obtain ⟨hp, e0, e1, e2, e3, i7, i5⟩ := hE
          have HE := Lib.hid (And.intro hp (And.intro i7 i5))
          clear hX8 hp i7 i5 a0 r0 r1 b0 b1 f11 f13 n11 n12 HF5
          go_wp2_with fail
          refine (cmpBig_any X8 _ _ (r.natAbs : Int) (b.natAbs : Int) HE.out.2.1 HE.out.2.2 (by rw [Int.natAbs_natCast]; exact hrl) (by rw [Int.natAbs_natCast]; exact lb)).mono ?_
          rintro _ X9 ⟨rfl, hb12⟩
          rw [show fw.order (r.natAbs : Int) (b.natAbs : Int) = -1 by unfold fw.order; rw [if_pos (by have := HM.out.2.1; omega)]]
          have HF := Lib.hid (HE.out.1.after hb12)
          clear e0 e1 e2 e3 HE hb12
          go_wp2_with fail
          exact ⟨⟨k + 1, by omega, by go_num, HF.out⟩, by simp [intOf]; omega⟩
        · have z2 : (0 : Int) < ((digs r.natAbs).length : Int) := by
            have : (digs r.natAbs).length ≠ 0 := fun e => hr0 (by have := digs_len_zero.1 e; omega)
            omega
          rw [HM.out.2.2.1 hr0] at r0
          clear hr0
          go_upto_region 17 with fail
          have hE := four_abs HF5.out
          obtain ⟨X8, hX8⟩ : ∃ X8, X8 = (X7.setCell ⟨g11, 0, none⟩ (.bool false)).setCell ⟨g12 + 1, 0, none⟩ (.bool false) := ⟨_, rfl⟩
          rw [← hX8] at hE ⊢
          obtain ⟨hp, e0, e1, e2, e3, i7, i5⟩ := hE
          have HE := Lib.hid (And.intro hp (And.intro i7 i5))
          clear hX8 hp i7 i5 a0 r0 r1 b0 b1 f11 f13 n11 n12 HF5
          go_wp2_with fail
          refine (cmpBig_any X8 _ _ (r.natAbs : Int) (b.natAbs : Int) HE.out.2.1 HE.out.2.2 (by rw [Int.natAbs_natCast]; exact hrl) (by rw [Int.natAbs_natCast]; exact lb)).mono ?_
          rintro _ X9 ⟨rfl, hb12⟩
          rw [show fw.order (r.natAbs : Int) (b.natAbs : Int) = -1 by unfold fw.order; rw [if_pos (by have := HM.out.2.1; omega)]]
          have HF := Lib.hid (HE.out.1.after hb12)
          clear e0 e1 e2 e3 HE hb12
          go_wp2_with fail
          exact ⟨⟨k + 1, by omega, by go_num, HF.out⟩, by simp [intOf]; omega⟩
    · obtain rfl : k = 2 := by omega
      clear hk hk2
      go_wp2_with fail
      refine (fromInt_any wr n HI.out.1.1 HI.out.1.2).mono ?_
      rintro _ X1 ⟨v1, rfl, hI1, hb1⟩
      go_wp2_with fail
      refine (int_any X1 v1 n hI1 HI.out.1.1 HI.out.1.2).mono ?_
      rintro _ X2 ⟨rfl, hb2⟩
      go_wp2_with fail
      refine (fromInt_any X2 n HI.out.1.1 HI.out.1.2).mono ?_
      rintro _ X3 ⟨v3, rfl, hI3, hb3⟩
      go_wp2_with fail
      refine (fromInt_any X3 m HI.out.2.1 HI.out.2.2).mono ?_
      rintro _ X4 ⟨v4, rfl, hI4, hb4⟩
      go_wp2_with fail
      refine (cmpBig_any X4 v3 v4 n m (hI3.below hb4) hI4 (Nat.le_trans (int_len HI.out.1.1 HI.out.1.2) (by decide)) (Nat.le_trans (int_len HI.out.2.1 HI.out.2.2) (by decide))).mono ?_
      rintro _ X5 ⟨rfl, hb5⟩
      have hbe : Below w.heap.size w X5 := HP.out.bel.trans ((hb1.trans ((hb2.trans ((hb3.trans ((hb4.trans (hb5.mono hb4.size)).mono hb3.size)).mono hb2.size)).mono hb1.size)).mono HP.out.bel.size)
      have HBE := Lib.hid hbe
      clear hbe hb1 hb2 hb3 hb4 hb5 hI1 hI3 hI4
      go_wp2_with fail
      refine (order_any X5 n m).mono ?_
      rintro _ _ ⟨rfl, rfl⟩
      go_wp2_with fail
      go_ret
      exact ⟨rfl, HBE.out⟩

end Go.Proofs.YtfnfnagdecpobaaDoor.hi
