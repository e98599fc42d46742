/- law 01: FractionBigs: what lies in memory. -/
import Derived.Test.YtfnfnagdecpobaaDoorRg
import Derived.Test.YtfnfnagdecpobaaDoorRf
import Derived.Test.YtfnfnagdecpobaaDoorHi
import Derived.Test.YtfnfnagdecpobaaDoorPc
set_option linter.unusedSimpArgs false
set_option linter.unusedVariables false
namespace Go.Proofs.YtfnfnagdecpobaaDoor.rh
open Go.RowKit Go.Proofs.YtfnfnagdecpobaaDoor.fm Go.Proofs.YtfnfnagdecpobaaDoor.mem Go.Proofs.YtfnfnagdecpobaaDoor.fu Go.Proofs.YtfnfnagdecpobaaDoor.fv Go.Proofs.YtfnfnagdecpobaaDoor.fw Go.Proofs.YtfnfnagdecpobaaDoor.fx Go.Proofs.YtfnfnagdecpobaaDoor.fy Go.Proofs.YtfnfnagdecpobaaDoor.fz Go.Proofs.YtfnfnagdecpobaaDoor.hf Go.Proofs.YtfnfnagdecpobaaDoor.rf Go.Proofs.YtfnfnagdecpobaaDoor.rg

/-- a and b in boxes of their own -/
structure AB (w W : World) (g : Nat) (z1 : Int) (A1 : Option Addr) (c1 : Nat) (z2 : Int) (A2 : Option Addr) (c2 : Nat) : Prop where
  bel : Below w.heap.size w W
  a : BAt W g z1 A1 c1
  b : BAt W (g + 1) z2 A2 c2

section
variable {w W W' : World} {g : Nat} {z1 z2 : Int} {A1 A2 : Option Addr} {c1 c2 : Nat}
theorem AB.after (S : AB w W g z1 A1 c1 z2 A2 c2) (h : Below W.heap.size W W') : AB w W' g z1 A1 c1 z2 A2 c2 := ⟨S.bel.trans (h.mono S.bel.size), S.a.after h, S.b.after h⟩
theorem AB.draw (S : AB w W g z1 A1 c1 z2 A2 c2) : AB w W.drew g z1 A1 c1 z2 A2 c2 := S.after (Below.refl _ _).drew
theorem AB.held (S : AB w W g z1 A1 c1 z2 A2 c2) : W.cell? ⟨g, 0, none⟩ = some (.bool (decide (z1 < 0))) ∧ W.cell? ⟨g, 1, none⟩ = some (.slice A1 (digs z1.natAbs).length c1) ∧ W.cell? ⟨g + 1, 0, none⟩ = some (.bool (decide (z2 < 0))) ∧ W.cell? ⟨g + 1, 1, none⟩ = some (.slice A2 (digs z2.natAbs).length c2) := ⟨S.a.c0, S.a.c1, S.b.c0, S.b.c1⟩
theorem AB.alloc (S : AB w W g z1 A1 c1 z2 A2 c2) (o : Obj) : AB w (W.alloc o) g z1 A1 c1 z2 A2 c2 := S.after ((Below.refl _ _).alloc (Nat.le_refl _) o)

theorem ab_new {w X : World} {z1 z2 : Int} {A1 A2 : Option Addr} {c1 c2 : Nat} (hb : Below w.heap.size w X) (R1 : Rd X X.heap.size A1 c1 (digs z1.natAbs)) (R2 : Rd X X.heap.size A2 c2 (digs z2.natAbs)) :
    AB w ((X.alloc (.cells #[.bool (decide (z1 < 0)), .slice A1 (digs z1.natAbs).length c1] 28)).alloc (.cells #[.bool (decide (z2 < 0)), .slice A2 (digs z2.natAbs).length c2] 28)) X.heap.size z1 A1 c1 z2 A2 c2 := by
  have h1 := (Below.refl X.heap.size X).alloc (Nat.le_refl _) (.cells #[.bool (decide (z1 < 0)), .slice A1 (digs z1.natAbs).length c1] 28)
  have h2 := (Below.refl (X.alloc (.cells #[.bool (decide (z1 < 0)), .slice A1 (digs z1.natAbs).length c1] 28)).heap.size _).alloc (Nat.le_refl _) (.cells #[.bool (decide (z2 < 0)), .slice A2 (digs z2.natAbs).length c2] 28)
  have hsz : (X.alloc (.cells #[.bool (decide (z1 < 0)), .slice A1 (digs z1.natAbs).length c1] 28)).heap.size = X.heap.size + 1 := by simp
  have hr := bat_new ((R2.below h1).more h1.size)
  rw [hsz] at hr
  exact ⟨hb.trans ((h1.trans (h2.mono h1.size)).mono hb.size), (bat_new R1).after h2, hr⟩
end

/-- Values that lie in memory, a sign and words each. -/
def Anys (W : World) (L : List (Bool × Option Addr × Nat × List Nat)) : Prop := ∀ e, e ∈ L → Rd W W.heap.size e.2.1 e.2.2.1 e.2.2.2 ∧ e.2.2.2.length ≤ 257
theorem Anys.after {W W' : World} {L : List (Bool × Option Addr × Nat × List Nat)} (h : Anys W L) (hb : Below W.heap.size W W') : Anys W' L := fun e he => ⟨((h e he).1.below hb).more hb.size, (h e he).2⟩
theorem Anys.cons {W : World} {L : List (Bool × Option Addr × Nat × List Nat)} (h : Anys W L) {n : Bool} {A : Option Addr} {c : Nat} {l : List Nat} (R : Rd W W.heap.size A c l) (hl : l.length ≤ 257) : Anys W ((n, A, c, l) :: L) := by
  intro e he
  rcases List.mem_cons.1 he with rfl | he
  · exact ⟨R, hl⟩
  · exact h e he
theorem anys_nil (W : World) : Anys W [] := fun e he => absurd he (by simp)

/-- what lies in a block: pairs -/
def pairCells (a b : Bool × Option Addr × Nat × List Nat) : List Value := [.bool a.1, .slice a.2.1 a.2.2.2.length a.2.2.1, .bool b.1, .slice b.2.1 b.2.2.2.length b.2.2.1]

/-- A row of pairs in memory. -/
structure Row6 (w W : World) (gb : Nat) (es : Nat → (Bool × List Nat) × (Bool × List Nat)) : Prop where
  bel : Below w.heap.size w W
  lo : w.heap.size ≤ gb
  lt : gb < W.heap.size
  at' : ∀ k, k < 6 → ∃ A c A' c', W.cell? ⟨gb, k * 4, none⟩ = some (.bool (es k).1.1) ∧ W.cell? ⟨gb, k * 4 + 1, none⟩ = some (.slice A (es k).1.2.length c) ∧ W.cell? ⟨gb, k * 4 + 2, none⟩ = some (.bool (es k).2.1) ∧ W.cell? ⟨gb, k * 4 + 3, none⟩ = some (.slice A' (es k).2.2.length c') ∧
    Rd W W.heap.size A c (es k).1.2 ∧ Rd W W.heap.size A' c' (es k).2.2
  len : ∀ k, k < 6 → (es k).1.2.length ≤ 257 ∧ (es k).2.2.length ≤ 257

theorem Row6.after {w W W' : World} {gb : Nat} {es : Nat → (Bool × List Nat) × (Bool × List Nat)} (P : Row6 w W gb es) (h : Below W.heap.size W W') : Row6 w W' gb es := by
  refine ⟨P.bel.trans (h.mono P.bel.size), P.lo, Nat.lt_of_lt_of_le P.lt h.size, fun k hk => ?_, P.len⟩
  obtain ⟨A, c, A', c', h0, h1, h2, h3, R, R'⟩ := P.at' k hk
  exact ⟨A, c, A', c', (h.cell (p := ⟨gb, k * 4, none⟩) P.lt).trans h0, (h.cell (p := ⟨gb, k * 4 + 1, none⟩) P.lt).trans h1, (h.cell (p := ⟨gb, k * 4 + 2, none⟩) P.lt).trans h2, (h.cell (p := ⟨gb, k * 4 + 3, none⟩) P.lt).trans h3, (R.below h).more h.size, (R'.below h).more h.size⟩

/-- from six pairs -/
theorem row6_new {w X : World} (hb : Below w.heap.size w X) {L : List (Bool × Option Addr × Nat × List Nat)} (hL : Anys X L) (ps : List ((Bool × Option Addr × Nat × List Nat) × (Bool × Option Addr × Nat × List Nat))) (hp : ps.length = 6) (hm : ∀ p, p ∈ ps → p.1 ∈ L ∧ p.2 ∈ L) (t : TypeId) (cs : Array Value)
    (hcs : cs.toList = ps.flatMap fun p => pairCells p.1 p.2) : Row6 w (X.alloc (.cells cs t)) X.heap.size (fun k => (((ps.getD k default).1.1, (ps.getD k default).1.2.2.2), ((ps.getD k default).2.1, (ps.getD k default).2.2.2.2))) := by
  have h := (Below.refl X.heap.size X).alloc (Nat.le_refl _) (.cells cs t)
  have hg := heap_alloc_new X (.cells cs t)
  have hmem : ∀ k, k < 6 → ps.getD k default ∈ ps := fun k hk => by
    rw [List.getD_eq_getElem?_getD, List.getElem?_eq_getElem (by omega)]
    exact List.getElem_mem _
  have hcell : ∀ k j, k < 6 → j < 4 → cs[k * 4 + j]? = (pairCells (ps.getD k default).1 (ps.getD k default).2)[j]? := by
    intro k j hk hj
    rw [← Array.getElem?_toList, hcs]
    have key : ∀ (ps : List ((Bool × Option Addr × Nat × List Nat) × (Bool × Option Addr × Nat × List Nat))) (k : Nat), k < ps.length → (ps.flatMap fun p => pairCells p.1 p.2)[k * 4 + j]? = (pairCells (ps.getD k default).1 (ps.getD k default).2)[j]? := by
      intro ps
      induction ps with
      | nil => intro k hk; exact absurd hk (by simp)
      | cons p ps ih =>
        intro k hk
        rw [List.flatMap_cons]
        cases k with
        | zero => rw [List.getElem?_append_left (by show 0 * 4 + j < 4; omega), Nat.zero_mul, Nat.zero_add]; rfl
        | succ k =>
          rw [List.getElem?_append_right (by show 4 ≤ _; omega)]
          have e : (k + 1) * 4 + j - (pairCells p.1 p.2).length = k * 4 + j := by show (k + 1) * 4 + j - 4 = _; omega
          rw [e, ih k (by simpa using hk)]
          rfl
    exact key ps k (by omega)
  refine ⟨hb.trans (h.mono hb.size), hb.size, by simp, fun k hk => ?_, fun k hk => ?_⟩
  · obtain ⟨m1, m2⟩ := hm _ (hmem k hk)
    have e0 := hcell k 0 hk (by decide)
    have e1 := hcell k 1 hk (by decide)
    have e2 := hcell k 2 hk (by decide)
    have e3 := hcell k 3 hk (by decide)
    refine ⟨(ps.getD k default).1.2.1, (ps.getD k default).1.2.2.1, (ps.getD k default).2.2.1, (ps.getD k default).2.2.2.1, ?_, ?_, ?_, ?_, ((hL _ m1).1.below h).more h.size, ((hL _ m2).1.below h).more h.size⟩
    · rw [cell_of_row _ _ (k * 4) _ _ _ hg]; exact e0
    · rw [cell_of_row _ _ (k * 4 + 1) _ _ _ hg]; exact e1
    · rw [cell_of_row _ _ (k * 4 + 2) _ _ _ hg]; exact e2
    · rw [cell_of_row _ _ (k * 4 + 3) _ _ _ hg]; exact e3
  · obtain ⟨m1, m2⟩ := hm _ (hmem k hk)
    exact ⟨(hL _ m1).2, (hL _ m2).2⟩

/-- A pair in a block of its own. -/
structure PairG (W : World) (g : Nat) (n : Bool) (l : List Nat) (A : Option Addr) (c : Nat) (n' : Bool) (l' : List Nat) (A' : Option Addr) (c' : Nat) : Prop where
  lt : g < W.heap.size
  c0 : W.cell? ⟨g, 0, none⟩ = some (.bool n)
  c1 : W.cell? ⟨g, 1, none⟩ = some (.slice A l.length c)
  c2 : W.cell? ⟨g, 2, none⟩ = some (.bool n')
  c3 : W.cell? ⟨g, 3, none⟩ = some (.slice A' l'.length c')
  R : Rd W W.heap.size A c l
  R' : Rd W W.heap.size A' c' l'

section
variable {W W' : World} {g : Nat} {n n' : Bool} {l l' : List Nat} {A A' : Option Addr} {c c' : Nat}
theorem PairG.after (P : PairG W g n l A c n' l' A' c') (h : Below W.heap.size W W') : PairG W' g n l A c n' l' A' c' :=
  ⟨Nat.lt_of_lt_of_le P.lt h.size, (h.cell P.lt).trans P.c0, (h.cell P.lt).trans P.c1, (h.cell P.lt).trans P.c2, (h.cell P.lt).trans P.c3, (P.R.below h).more h.size, (P.R'.below h).more h.size⟩
theorem pairG_new {W : World} {n n' : Bool} {l l' : List Nat} {A A' : Option Addr} {c c' : Nat} (R : Rd W W.heap.size A c l) (R' : Rd W W.heap.size A' c' l') (t : TypeId) :
    PairG (W.alloc (.cells #[.bool n, .slice A l.length c, .bool n', .slice A' l'.length c'] t)) W.heap.size n l A c n' l' A' c' := by
  have h := (Below.refl W.heap.size W).alloc (Nat.le_refl _) (.cells #[.bool n, .slice A l.length c, .bool n', .slice A' l'.length c'] t)
  exact ⟨by simp, by simp [go_sem], by simp [go_sem], by simp [go_sem], by simp [go_sem], (R.below h).more h.size, (R'.below h).more h.size⟩
theorem PairG.fst (P : PairG W g n l A c n' l' A' c') : IsAny W (.agg #[.bool n, .slice A l.length c]) n l := ⟨A, c, rfl, P.R⟩
theorem PairG.snd (P : PairG W g n l A c n' l' A' c') : IsAny W (.agg #[.bool n', .slice A' l'.length c']) n' l' := ⟨A', c', rfl, P.R'⟩
theorem PairG.held (P : PairG W g n l A c n' l' A' c') : W.cell? ⟨g, 0, none⟩ = some (.bool n) ∧ W.cell? ⟨g, 1, none⟩ = some (.slice A l.length c) ∧ W.cell? ⟨g, 2, none⟩ = some (.bool n') ∧ W.cell? ⟨g, 3, none⟩ = some (.slice A' l'.length c') := ⟨P.c0, P.c1, P.c2, P.c3⟩
end

/-- Two stores into a box change nothing else. -/
structure Elsewhere (h : Nat) (W W' : World) : Prop where
  size : W'.heap.size = W.heap.size
  bel : Below h W W'
  cell : ∀ p : Addr, p.block ≠ h → W'.cell? p = W.cell? p
  fr : ∀ p : Addr, W'.frozen? p = W.frozen? p
  rd : ∀ {A : Option Addr} {c : Nat} {l : List Nat}, Rd W W.heap.size A c l → Rd W' W'.heap.size A c l

theorem put_elsewhere {W : World} {h : Nat} {b : Bool} {A : Option Addr} {n c : Nat} (c0 : W.cell? ⟨h, 0, none⟩ = some (.bool b)) (c1 : W.cell? ⟨h, 1, none⟩ = some (.slice A n c)) (b' : Bool) (A' : Option Addr) (n' c' : Nat) :
    Elsewhere h W ((W.setCell ⟨h, 0, none⟩ (.bool b')).setCell ⟨h, 1, none⟩ (.slice A' n' c')) := by
  have e1 : (W.setCell ⟨h, 0, none⟩ (.bool b')).cell? ⟨h, 1, none⟩ = some (.slice A n c) := (World.cell?_setCell_other _ _ _ _ (by intro h; cases h)).trans c1
  refine ⟨by simp, ((Below.refl _ _).setCell (p := ⟨h, 0, none⟩) (Nat.le_refl _) _).setCell (p := ⟨h, 1, none⟩) (Nat.le_refl _) _, fun p hp => ?_, fun p => by simp [go_sem], fun {A3} {c3} {m} R => ?_⟩
  · exact (World.cell?_setCell_other _ _ _ _ (by rintro rfl; exact hp rfl)).trans (World.cell?_setCell_other _ _ _ _ (by rintro rfl; exact hp rfl))
  · have h1 : Rd (W.setCell ⟨h, 0, none⟩ (.bool b')) W.heap.size A3 c3 m := rd_set R (ni_bool c0)
    exact (rd_set (v := .slice A' n' c') h1 (ni_slice e1)).more (by simp)

theorem Row6.elsewhere {w W W' : World} {gb h : Nat} {es : Nat → (Bool × List Nat) × (Bool × List Nat)} (P : Row6 w W gb es) (E : Elsewhere h W W') (hn : gb < h) : Row6 w W' gb es := by
  refine ⟨P.bel.trans (E.bel.mono (by have := P.lo; omega)), P.lo, by rw [E.size]; exact P.lt, fun k hk => ?_, P.len⟩
  obtain ⟨A, c, A', c', h0, h1, h2, h3, R, R'⟩ := P.at' k hk
  have hne : gb ≠ h := by omega
  exact ⟨A, c, A', c', (E.cell ⟨gb, k * 4, none⟩ hne).trans h0, (E.cell ⟨gb, k * 4 + 1, none⟩ hne).trans h1, (E.cell ⟨gb, k * 4 + 2, none⟩ hne).trans h2, (E.cell ⟨gb, k * 4 + 3, none⟩ hne).trans h3, E.rd R, E.rd R'⟩
theorem PairG.elsewhere {W W' : World} {g h : Nat} {n n' : Bool} {l l' : List Nat} {A A' : Option Addr} {c c' : Nat} (P : PairG W g n l A c n' l' A' c') (E : Elsewhere h W W') (hn : g ≠ h) : PairG W' g n l A c n' l' A' c' :=
  ⟨by rw [E.size]; exact P.lt, (E.cell ⟨g, 0, none⟩ hn).trans P.c0, (E.cell ⟨g, 1, none⟩ hn).trans P.c1, (E.cell ⟨g, 2, none⟩ hn).trans P.c2, (E.cell ⟨g, 3, none⟩ hn).trans P.c3, E.rd P.R, E.rd P.R'⟩
theorem bat_elsewhere {W W' : World} {g h : Nat} {z : Int} {A : Option Addr} {c : Nat} (B : BAt W g z A c) (E : Elsewhere h W W') (hn : g ≠ h) : BAt W' g z A c :=
  ⟨by rw [E.size]; exact B.lt, (E.cell ⟨g, 0, none⟩ hn).trans B.c0, (E.cell ⟨g, 1, none⟩ hn).trans B.c1, E.rd B.R⟩

/-- another number in a box -/
theorem bat_put {W : World} {h : Nat} {z z' : Int} {A A' : Option Addr} {c c' : Nat} (B : BAt W h z A c) (R : Rd W W.heap.size A' c' (digs z'.natAbs)) :
    BAt ((W.setCell ⟨h, 0, none⟩ (.bool (decide (z' < 0)))).setCell ⟨h, 1, none⟩ (.slice A' (digs z'.natAbs).length c')) h z' A' c' ∧ Elsewhere h W ((W.setCell ⟨h, 0, none⟩ (.bool (decide (z' < 0)))).setCell ⟨h, 1, none⟩ (.slice A' (digs z'.natAbs).length c')) := by
  have E := put_elsewhere B.c0 B.c1 (decide (z' < 0)) A' (digs z'.natAbs).length c'
  have e1 : (W.setCell ⟨h, 0, none⟩ (.bool (decide (z' < 0)))).cell? ⟨h, 1, none⟩ = some (.slice A (digs z.natAbs).length c) := (World.cell?_setCell_other _ _ _ _ (by intro h; cases h)).trans B.c1
  exact ⟨⟨by rw [E.size]; exact B.lt, (World.cell?_setCell_other _ _ _ _ (by intro h; cases h)).trans (World.cell?_setCell_same _ _ _ B.c0), World.cell?_setCell_same _ _ _ e1, E.rd R⟩, E⟩

/-- The row of pairs, the pair at hand, and boxes with big integers. -/
structure RS (w W : World) (gb : Nat) (es : Nat → (Bool × List Nat) × (Bool × List Nat)) (gp : Nat) (n : Bool) (l : List Nat) (A : Option Addr) (c : Nat) (n' : Bool) (l' : List Nat) (A' : Option Addr) (c' : Nat) (L : List (Nat × Int × Option Addr × Nat)) : Prop where
  P : Row6 w W gb es
  G : PairG W gp n l A c n' l' A' c'
  lo : gb < gp
  B : ∀ e, e ∈ L → gp < e.1 ∧ BAt W e.1 e.2.1 e.2.2.1 e.2.2.2 ∧ ∀ k, W.frozen? ⟨e.1, k, none⟩ = false
  dist : L.Pairwise fun a b => a.1 ≠ b.1

section
variable {w W W' X : World} {gb gp : Nat} {es : Nat → (Bool × List Nat) × (Bool × List Nat)} {n n' : Bool} {l l' : List Nat} {A A' : Option Addr} {c c' : Nat} {L : List (Nat × Int × Option Addr × Nat)}
theorem RS.after (S : RS w W gb es gp n l A c n' l' A' c' L) (h : Below W.heap.size W W') : RS w W' gb es gp n l A c n' l' A' c' L :=
  ⟨S.P.after h, S.G.after h, S.lo, fun e he => ⟨(S.B e he).1, (S.B e he).2.1.after h, fun k => (below_frozen h (p := ⟨e.1, k, none⟩) (S.B e he).2.1.lt).trans ((S.B e he).2.2 k)⟩, S.dist⟩
theorem RS.draw (S : RS w W gb es gp n l A c n' l' A' c' L) : RS w W.drew gb es gp n l A c n' l' A' c' L := S.after (Below.refl _ _).drew
theorem RS.new (S : RS w W gb es gp n l A c n' l' A' c' L) (h : Below W.heap.size W X) {z : Int} {B : Option Addr} {d : Nat} (R : Rd X X.heap.size B d (digs z.natAbs)) :
    RS w (X.alloc (.cells #[.bool (decide (z < 0)), .slice B (digs z.natAbs).length d] 28)) gb es gp n l A c n' l' A' c' ((X.heap.size, z, B, d) :: L) := by
  have hX := S.after h
  have ha := (Below.refl X.heap.size X).alloc (Nat.le_refl _) (.cells #[.bool (decide (z < 0)), .slice B (digs z.natAbs).length d] 28)
  have h2 := hX.after ha
  refine ⟨h2.P, h2.G, h2.lo, fun e he => ?_, List.pairwise_cons.2 ⟨fun e he => ?_, S.dist⟩⟩
  · rcases List.mem_cons.1 he with rfl | he
    · exact ⟨hX.G.lt, bat_new R, fun k => by simp [go_sem]⟩
    · exact h2.B e he
  · have := (hX.B e he).2.1.lt
    show X.heap.size ≠ e.1
    omega
theorem RS.new2 (S : RS w W gb es gp n l A c n' l' A' c' L) (h : Below W.heap.size W X) {z z' : Int} {B B' : Option Addr} {d d' : Nat} (R : Rd X X.heap.size B d (digs z.natAbs)) (R' : Rd X X.heap.size B' d' (digs z'.natAbs)) :
    RS w ((X.alloc (.cells #[.bool (decide (z < 0)), .slice B (digs z.natAbs).length d] 28)).alloc (.cells #[.bool (decide (z' < 0)), .slice B' (digs z'.natAbs).length d'] 28)) gb es gp n l A c n' l' A' c' ((X.heap.size + 1, z', B', d') :: (X.heap.size, z, B, d) :: L) := by
  have ha := (Below.refl X.heap.size X).alloc (Nat.le_refl _) (.cells #[.bool (decide (z < 0)), .slice B (digs z.natAbs).length d] 28)
  have h2 := (S.new h R).new (Below.refl _ _) ((R'.below ha).more ha.size)
  have hsz : (X.alloc (.cells #[.bool (decide (z < 0)), .slice B (digs z.natAbs).length d] 28)).heap.size = X.heap.size + 1 := by simp
  rw [hsz] at h2
  exact h2
theorem RS.drop {L' : List (Nat × Int × Option Addr × Nat)} (S : RS w W gb es gp n l A c n' l' A' c' L) (h : L'.Sublist L) : RS w W gb es gp n l A c n' l' A' c' L' :=
  ⟨S.P, S.G, S.lo, fun e he => S.B e (h.subset he), S.dist.sublist h⟩
theorem RS.swap {a b : Nat × Int × Option Addr × Nat} (S : RS w W gb es gp n l A c n' l' A' c' (a :: b :: L)) : RS w W gb es gp n l A c n' l' A' c' (b :: a :: L) := by
  have hd := List.pairwise_cons.1 S.dist
  have hd2 := List.pairwise_cons.1 hd.2
  refine ⟨S.P, S.G, S.lo, fun e he => S.B e ?_, List.pairwise_cons.2 ⟨fun e he => ?_, List.pairwise_cons.2 ⟨fun e he => hd.1 e (List.mem_cons_of_mem _ he), hd2.2⟩⟩⟩
  · simp only [List.mem_cons] at he ⊢
    rcases he with h | h | h
    · exact .inr (.inl h)
    · exact .inl h
    · exact .inr (.inr h)
  · rcases List.mem_cons.1 he with rfl | he
    · exact fun h => hd.1 b (List.mem_cons_self ..) h.symm
    · exact hd2.1 e he
theorem RS.put {g : Nat} {z z' : Int} {B B' : Option Addr} {d d' : Nat} (S : RS w W gb es gp n l A c n' l' A' c' ((g, z, B, d) :: L)) (R : Rd W W.heap.size B' d' (digs z'.natAbs)) :
    RS w ((W.setCell ⟨g, 0, none⟩ (.bool (decide (z' < 0)))).setCell ⟨g, 1, none⟩ (.slice B' (digs z'.natAbs).length d')) gb es gp n l A c n' l' A' c' ((g, z', B', d') :: L) := by
  have h0 := S.B _ (List.mem_cons_self ..)
  obtain ⟨hb, E⟩ := bat_put h0.2.1 R
  have hd := List.pairwise_cons.1 S.dist
  have hg : gp < g := h0.1
  have hlo := S.lo
  refine ⟨S.P.elsewhere E (by omega), S.G.elsewhere E (by omega), S.lo, fun e he => ?_, List.pairwise_cons.2 ⟨hd.1, hd.2⟩⟩
  rcases List.mem_cons.1 he with rfl | he
  · exact ⟨hg, hb, fun k => (E.fr _).trans (h0.2.2 k)⟩
  · have h1 := S.B e (List.mem_cons_of_mem _ he)
    exact ⟨h1.1, bat_elsewhere h1.2.1 E (fun h => hd.1 e he h.symm), fun k => (E.fr _).trans (h1.2.2 k)⟩
theorem RS.hd {a : Nat × Int × Option Addr × Nat} (S : RS w W gb es gp n l A c n' l' A' c' (a :: L)) : BAt W a.1 a.2.1 a.2.2.1 a.2.2.2 := (S.B _ (List.mem_cons_self ..)).2.1
theorem RS.tl {a : Nat × Int × Option Addr × Nat} (S : RS w W gb es gp n l A c n' l' A' c' (a :: L)) : RS w W gb es gp n l A c n' l' A' c' L := S.drop (List.sublist_cons_self ..)
theorem RS.fr {a : Nat × Int × Option Addr × Nat} (S : RS w W gb es gp n l A c n' l' A' c' (a :: L)) (k : Nat) : W.frozen? ⟨a.1, k, none⟩ = false := (S.B _ (List.mem_cons_self ..)).2.2 k
theorem RS.held8 {a b : Nat × Int × Option Addr × Nat} (S : RS w W gb es gp n l A c n' l' A' c' (a :: b :: L)) :
    W.cell? ⟨gp, 0, none⟩ = some (.bool n) ∧ W.cell? ⟨gp, 1, none⟩ = some (.slice A l.length c) ∧ W.cell? ⟨gp, 2, none⟩ = some (.bool n') ∧ W.cell? ⟨gp, 3, none⟩ = some (.slice A' l'.length c') ∧
    W.cell? ⟨a.1, 0, none⟩ = some (.bool (decide (a.2.1 < 0))) ∧ W.cell? ⟨a.1, 1, none⟩ = some (.slice a.2.2.1 (digs a.2.1.natAbs).length a.2.2.2) ∧ W.cell? ⟨b.1, 0, none⟩ = some (.bool (decide (b.2.1 < 0))) ∧ W.cell? ⟨b.1, 1, none⟩ = some (.slice b.2.2.1 (digs b.2.1.natAbs).length b.2.2.2) :=
  ⟨S.G.c0, S.G.c1, S.G.c2, S.G.c3, S.hd.c0, S.hd.c1, S.tl.hd.c0, S.tl.hd.c1⟩
end

end Go.Proofs.YtfnfnagdecpobaaDoor.rh
