/- fraction: CmpBig, negated, FromInt. -/
import Derived.Test.YtfnfnagdecpobaaDoorFx
set_option linter.unusedSimpArgs false
namespace Go.Proofs.YtfnfnagdecpobaaDoor.fy
open Go.RowKit Go.Proofs.YtfnfnagdecpobaaDoor.fm Go.Proofs.YtfnfnagdecpobaaDoor.mem Go.Proofs.YtfnfnagdecpobaaDoor.fa Go.Proofs.YtfnfnagdecpobaaDoor.fb Go.Proofs.YtfnfnagdecpobaaDoor.fu Go.Proofs.YtfnfnagdecpobaaDoor.fv Go.Proofs.YtfnfnagdecpobaaDoor.fw Go.Proofs.YtfnfnagdecpobaaDoor.fx

set_option maxRecDepth 100000 in
set_option maxHeartbeats 1000000 in
theorem cmpBig_any (w : World) (a b : Value) (x y : Int) (ha : IsBig w a x) (hb : IsBig w b y) (hl : (digs x.natAbs).length ≤ 256) (hl' : (digs y.natAbs).length ≤ 256) :
    Calls Tryd.prog 20 #[a, b] w fun e w' => e = .returned (.int .i64 (order x y)) ∧ Below w.heap.size w w' := by
  obtain ⟨A, c, rfl, R⟩ := ha
  obtain ⟨A', c', rfl, R'⟩ := hb
  go_enter Tryd.func20, Tryd.ntmps20
  have hb2 : Below w.heap.size w ((w.alloc (.cells #[.bool (decide (x < 0)), .slice A (digs x.natAbs).length c] 28)).alloc (.cells #[.bool (decide (y < 0)), .slice A' (digs y.natAbs).length c'] 28)) := ((Below.refl _ _).alloc (Nat.le_refl _) _).alloc (by simp) _
  obtain ⟨W, hW⟩ : ∃ W, W = ((w.alloc (.cells #[.bool (decide (x < 0)), .slice A (digs x.natAbs).length c] 28)).alloc (.cells #[.bool (decide (y < 0)), .slice A' (digs y.natAbs).length c'] 28)) := ⟨_, rfl⟩
  have hsz : W.heap.size = w.heap.size + 1 + 1 := by rw [hW]; simp
  have k0 : W.cell? ⟨w.heap.size, 0, none⟩ = some (.bool (decide (x < 0))) := by rw [hW]; simp [go_sem]
  have k1 : W.cell? ⟨w.heap.size, 1, none⟩ = some (.slice A (digs x.natAbs).length c) := by rw [hW]; simp [go_sem]
  have k2 : W.cell? ⟨w.heap.size + 1, 0, none⟩ = some (.bool (decide (y < 0))) := by rw [hW]; simp [go_sem]
  have k3 : W.cell? ⟨w.heap.size + 1, 1, none⟩ = some (.slice A' (digs y.natAbs).length c') := by rw [hW]; simp [go_sem]
  rw [← hW] at hb2
  have HB := Lib.hid (And.intro hb2 (And.intro hsz (And.intro k0 (And.intro k1 (And.intro k2 k3)))))
  clear hb2 hsz k0 k1 k2 k3
  go_wp2_with fail
  rw [← hW]
  clear hW
  have hbA := HB.out.1.alloc HB.out.1.size (.cells #[.bool (decide (x < 0)), .slice A (digs x.natAbs).length c, .bool (decide (y < 0)), .slice A' (digs y.natAbs).length c'] 28)
  refine (valid2 (W.alloc _) (w.heap.size + 1 + 1) 2 x y A A' c c' 28 (0, 0) (by rw [← HB.out.2.1]; exact heap_alloc_new W _) ((R.below hbA).more hbA.size) ((R'.below hbA).more hbA.size) hl hl').mono ?_
  rintro _ W1 ⟨rfl, hb1⟩
  have hc : Below W.heap.size W W1 := ((Below.refl _ _).alloc (Nat.le_refl _) _).trans (hb1.mono (by simp))
  have hb3 := HB.out.1.trans (hc.mono HB.out.1.size)
  have a0 := (hc.cell (p := ⟨w.heap.size, 0, none⟩) (by show w.heap.size < _; have := HB.out.2.1; omega)).trans HB.out.2.2.1
  have a1 := (hc.cell (p := ⟨w.heap.size, 1, none⟩) (by show w.heap.size < _; have := HB.out.2.1; omega)).trans HB.out.2.2.2.1
  have b0 := (hc.cell (p := ⟨w.heap.size + 1, 0, none⟩) (by show w.heap.size + 1 < _; have := HB.out.2.1; omega)).trans HB.out.2.2.2.2.1
  have b1 := (hc.cell (p := ⟨w.heap.size + 1, 1, none⟩) (by show w.heap.size + 1 < _; have := HB.out.2.1; omega)).trans HB.out.2.2.2.2.2
  have H3 := Lib.hid hb3
  clear hb1 hc hb3 HB hbA
  go_wp2_with fail
  refine (compare_any W1 _ _ x y ⟨A, c, rfl, (R.below H3.out).more H3.out.size⟩ ⟨A', c', rfl, (R'.below H3.out).more H3.out.size⟩ (by omega) (by omega)).mono ?_
  rintro _ W2 ⟨rfl, hb4⟩
  have H4 := Lib.hid (H3.out.trans (hb4.mono H3.out.size))
  clear hb4 a0 a1 b0 b1
  go_wp2
  go_ret
  exact ⟨rfl, H4.out⟩

theorem sgnd_self (n : Int) : sgnd (decide (n < 0)) n.natAbs = n := by
  unfold sgnd
  by_cases h : n < 0
  · rw [decide_eq_true h]; simp; omega
  · rw [decide_eq_false h]; simp; omega

theorem results_big1 {fn : Func} {p : Tmp} (h : fn.results = #[.cell p 28]) (tmps : Array Value) (w : World) (g : Nat) {v0 v1 : Value} (hp : tmps.getD p undef = .pointer (some ⟨g, 0, none⟩))
    (c0 : w.cell? ⟨g, 0, none⟩ = some v0) (c1 : w.cell? ⟨g, 1, none⟩ = some v1) : (results fn tmps).run Tryd.prog w = .ok (.agg #[v0, v1]) w := results_big h tmps w g hp c0 c1

/-- A result in a box of its own. -/
structure Box (w W : World) (g : Nat) : Prop where
  bel : Below w.heap.size w W
  lo : w.heap.size ≤ g
  size : g < W.heap.size
  r0 : W.cell? ⟨g, 0, none⟩ = some (.bool false)
  r1 : W.cell? ⟨g, 1, none⟩ = some (.slice none 0 0)
  fr : ∀ k, W.frozen? ⟨g, k, none⟩ = false

theorem box1_made (w : World) : Box w (w.alloc (.cells #[.bool false, .slice none 0 0] 28)) w.heap.size :=
  ⟨(Below.refl _ _).alloc (Nat.le_refl _) _, Nat.le_refl _, by simp, by simp [go_sem], by simp [go_sem], fun k => by simp [go_sem]⟩

theorem Box.after {w W w' : World} {g : Nat} (B : Box w W g) (h : Below W.heap.size W w') : Box w w' g :=
  ⟨B.bel.trans (h.mono B.bel.size), B.lo, Nat.lt_of_lt_of_le B.size h.size, (h.cell B.size).trans B.r0, (h.cell B.size).trans B.r1, fun k => (below_frozen h B.size).trans (B.fr k)⟩

theorem Box.filled {w W : World} {g : Nat} (B : Box w W g) {z : Int} {A : Option Addr} {c : Nat} (R : Rd W W.heap.size A c (digs z.natAbs)) :
    IsBig ((W.setCell ⟨g, 0, none⟩ (.bool (decide (z < 0)))).setCell ⟨g, 1, none⟩ (.slice A (digs z.natAbs).length c)) (.agg #[.bool (decide (z < 0)), .slice A (digs z.natAbs).length c]) z ∧
    Below w.heap.size w ((W.setCell ⟨g, 0, none⟩ (.bool (decide (z < 0)))).setCell ⟨g, 1, none⟩ (.slice A (digs z.natAbs).length c)) ∧
    ((W.setCell ⟨g, 0, none⟩ (.bool (decide (z < 0)))).setCell ⟨g, 1, none⟩ (.slice A (digs z.natAbs).length c)).cell? ⟨g, 0, none⟩ = some (.bool (decide (z < 0))) ∧
    ((W.setCell ⟨g, 0, none⟩ (.bool (decide (z < 0)))).setCell ⟨g, 1, none⟩ (.slice A (digs z.natAbs).length c)).cell? ⟨g, 1, none⟩ = some (.slice A (digs z.natAbs).length c) := by
  have hb1 := B.bel.setCell (show w.heap.size ≤ (⟨g, 0, none⟩ : Addr).block from B.lo) (.bool (decide (z < 0)))
  have hb2 := hb1.setCell (show w.heap.size ≤ (⟨g, 1, none⟩ : Addr).block from B.lo) (.slice A (digs z.natAbs).length c)
  refine ⟨⟨A, c, rfl, ?_⟩, hb2, ?_, ?_⟩
  rotate_left
  · exact (World.cell?_setCell_other _ _ _ _ (by intro h; cases h)).trans (World.cell?_setCell_same W _ _ B.r0)
  · exact World.cell?_setCell_same _ _ _ ((World.cell?_setCell_other W _ _ _ (by intro h; cases h)).trans B.r1)
  have R1 := Rd.stored (v := .bool (decide (z < 0))) R B.r0 (by intro k h; cases h)
  have r1 : (W.setCell ⟨g, 0, none⟩ (.bool (decide (z < 0)))).cell? ⟨g, 1, none⟩ = some (.slice none 0 0) := (World.cell?_setCell_other W _ _ _ (by intro h; cases h)).trans B.r1
  have R2 := Rd.stored (v := .slice A (digs z.natAbs).length c) R1 r1 (by intro k h; cases h)
  simpa using R2

set_option maxRecDepth 100000 in
set_option maxHeartbeats 1000000 in
theorem fromInt_any (w : World) (n : Int) (h1 : -9223372036854775808 ≤ n) (h2 : n < 9223372036854775808) :
    Calls Tryd.prog 26 #[.int .i64 n] w fun e w' => ∃ v, e = .returned v ∧ IsBig w' v n ∧ Below w.heap.size w w' := by
  go_enter Tryd.func26, Tryd.ntmps26
  by_cases hn : n < 0
  · have hs : sgnd true n.natAbs = n := by have := sgnd_self n; rwa [decide_eq_true hn] at this
    have hz : IntKind.u64.wrap (-IntKind.u64.wrap n) = ((n.natAbs : Nat) : Int) := by show (-(n % 18446744073709551616)) % 18446744073709551616 = _; omega
    have hA := box1_made w
    go_wp2_with fail
    refine (words64_any 0 n.natAbs _ (by decide) (by omega)).mono ?_
    rintro _ W1 ⟨v1, rfl, hO, hb1⟩
    rw [Nat.zero_mul, Nat.zero_add] at hO
    obtain ⟨A1, c1, rfl, R1⟩ := own_rd hO (ok_digs _)
    have B1 := hA.after hb1
    have H1 := Lib.hid B1
    clear hO hb1 B1
    go_wp2_with fail
    refine (big_any W1 true A1 c1 n.natAbs R1).mono ?_
    rintro _ W2 ⟨v2, rfl, hI, hb2⟩
    rw [hs] at hI
    have B2 := H1.out.after hb2
    obtain ⟨A2, c2, rfl, R2⟩ := hI
    have r0 := B2.r0
    have r1 := B2.r1
    have f0 := B2.fr 0
    have f1 := B2.fr 1
    obtain ⟨e1, e2, e3, e4⟩ := B2.filled R2
    rw [decide_eq_true hn] at e1 e2 e3 e4
    have HC := Lib.hid (And.intro e3 e4)
    have HE := Lib.hid (And.intro e1 e2)
    clear e1 e2 e3 e4 R2 B2 hb2 hA hs hz
    go_wp2
    (try simp only [Exit.inBlock, Exit.then])
    refine bodyPost_ret (results_big1 rfl _ _ w.heap.size rfl HC.out.1 HC.out.2) rfl ?_
    exact ⟨_, rfl, HE.out.1, HE.out.2⟩
  · have hs : sgnd false n.natAbs = n := by have := sgnd_self n; rwa [decide_eq_false hn] at this
    obtain ⟨m, rfl⟩ : ∃ m : Nat, n = (m : Int) := ⟨n.natAbs, by omega⟩
    rw [Int.natAbs_natCast] at hs
    have hz : True := trivial
    have hA := box1_made w
    go_wp2_with fail
    refine (words64_any 0 m _ (by decide) (by omega)).mono ?_
    rintro _ W1 ⟨v1, rfl, hO, hb1⟩
    rw [Nat.zero_mul, Nat.zero_add] at hO
    obtain ⟨A1, c1, rfl, R1⟩ := own_rd hO (ok_digs _)
    have B1 := hA.after hb1
    have H1 := Lib.hid B1
    clear hO hb1 B1
    go_wp2_with fail
    refine (big_any W1 false A1 c1 m R1).mono ?_
    rintro _ W2 ⟨v2, rfl, hI, hb2⟩
    rw [hs] at hI
    have B2 := H1.out.after hb2
    obtain ⟨A2, c2, rfl, R2⟩ := hI
    have r0 := B2.r0
    have r1 := B2.r1
    have f0 := B2.fr 0
    have f1 := B2.fr 1
    obtain ⟨e1, e2, e3, e4⟩ := B2.filled R2
    rw [decide_eq_false (show ¬ (m : Int) < 0 by omega)] at e1 e2 e3 e4
    have HC := Lib.hid (And.intro e3 e4)
    have HE := Lib.hid (And.intro e1 e2)
    clear e1 e2 e3 e4 R2 B2 hb2 hA hs hz
    go_wp2
    (try simp only [Exit.inBlock, Exit.then])
    refine bodyPost_ret (results_big1 rfl _ _ w.heap.size rfl HC.out.1 HC.out.2) rfl ?_
    exact ⟨_, rfl, HE.out.1, HE.out.2⟩

end Go.Proofs.YtfnfnagdecpobaaDoor.fy
