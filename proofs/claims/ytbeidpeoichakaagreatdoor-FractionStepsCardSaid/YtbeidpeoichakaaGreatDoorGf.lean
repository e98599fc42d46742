/- fraction: SubBig. -/
import Derived.Test.YtbeidpeoichakaaGreatDoorGa
import Derived.Test.YtbeidpeoichakaaGreatDoorGc
set_option linter.unusedSimpArgs false
namespace Go.Proofs.YtbeidpeoichakaaGreatDoor.gf
open Go.RowKit Go.Proofs.YtbeidpeoichakaaGreatDoor.fm Go.Proofs.YtbeidpeoichakaaGreatDoor.mem Go.Proofs.YtbeidpeoichakaaGreatDoor.fu Go.Proofs.YtbeidpeoichakaaGreatDoor.fv Go.Proofs.YtbeidpeoichakaaGreatDoor.fw Go.Proofs.YtbeidpeoichakaaGreatDoor.fx Go.Proofs.YtbeidpeoichakaaGreatDoor.fy Go.Proofs.YtbeidpeoichakaaGreatDoor.ga

theorem limited_open {w : World} {z : Int} {e : Ending} {w' : World} (h : Limited w z e w') : ∃ (A : Option Addr) (c : Nat) (Z1 k1 : Int), e = .returned (.tuple #[.agg #[.bool (decide (Z1 < 0)), .slice A (digs Z1.natAbs).length c], .int .i64 k1]) ∧ Rd w' w'.heap.size A c (digs Z1.natAbs) ∧ Below w.heap.size w w' ∧ Hid (k1 = lerr z ∧ Z1 = lim z) := by
  obtain ⟨v, rfl, ⟨A, c, rfl, R⟩, hb⟩ := h
  exact ⟨A, c, _, _, rfl, R, hb, Lib.hid ⟨rfl, rfl⟩⟩

end Go.Proofs.YtbeidpeoichakaaGreatDoor.gf

/- fraction: Add of fractions. -/
set_option linter.unusedSimpArgs false
namespace Go.Proofs.YtbeidpeoichakaaGreatDoor.gg
open Go.RowKit Go.Proofs.YtbeidpeoichakaaGreatDoor.fm Go.Proofs.YtbeidpeoichakaaGreatDoor.mem Go.Proofs.YtbeidpeoichakaaGreatDoor.fa Go.Proofs.YtbeidpeoichakaaGreatDoor.fb Go.Proofs.YtbeidpeoichakaaGreatDoor.fd Go.Proofs.YtbeidpeoichakaaGreatDoor.fe Go.Proofs.YtbeidpeoichakaaGreatDoor.fj Go.Proofs.YtbeidpeoichakaaGreatDoor.fq Go.Proofs.YtbeidpeoichakaaGreatDoor.fr Go.Proofs.YtbeidpeoichakaaGreatDoor.ft Go.Proofs.YtbeidpeoichakaaGreatDoor.fu Go.Proofs.YtbeidpeoichakaaGreatDoor.fv Go.Proofs.YtbeidpeoichakaaGreatDoor.fw Go.Proofs.YtbeidpeoichakaaGreatDoor.fx Go.Proofs.YtbeidpeoichakaaGreatDoor.fy Go.Proofs.YtbeidpeoichakaaGreatDoor.fz Go.Proofs.YtbeidpeoichakaaGreatDoor.gb Go.Proofs.YtbeidpeoichakaaGreatDoor.gc Go.Proofs.YtbeidpeoichakaaGreatDoor.gd

/-- Two fractions and a result in boxes of their own. -/
structure Two4 (w W : World) (n n' : Bool) (s t s' t' : Value) : Prop where
  F : FBox w W (w.heap.size + 1 + 1)
  a0 : W.cell? ⟨w.heap.size, 0, none⟩ = some (.bool n)
  a1 : W.cell? ⟨w.heap.size, 1, none⟩ = some s
  a2 : W.cell? ⟨w.heap.size, 2, none⟩ = some (.bool false)
  a3 : W.cell? ⟨w.heap.size, 3, none⟩ = some t
  b0 : W.cell? ⟨w.heap.size + 1, 0, none⟩ = some (.bool n')
  b1 : W.cell? ⟨w.heap.size + 1, 1, none⟩ = some s'
  b2 : W.cell? ⟨w.heap.size + 1, 2, none⟩ = some (.bool false)
  b3 : W.cell? ⟨w.heap.size + 1, 3, none⟩ = some t'

theorem Two4.after {w W w' : World} {n n' : Bool} {s t s' t' : Value} (B : Two4 w W n n' s t s' t') (h : Below W.heap.size W w') : Two4 w w' n n' s t s' t' := by
  have hs := B.F.size
  have ha : w.heap.size < W.heap.size := by omega
  have hb : w.heap.size + 1 < W.heap.size := by omega
  exact ⟨B.F.after h, (h.cell ha).trans B.a0, (h.cell ha).trans B.a1, (h.cell ha).trans B.a2, (h.cell ha).trans B.a3, (h.cell hb).trans B.b0, (h.cell hb).trans B.b1, (h.cell hb).trans B.b2, (h.cell hb).trans B.b3⟩

theorem Two4.high {w W w' : World} {n n' : Bool} {s t s' t' : Value} (B : Two4 w W n n' s t s' t') (h : Below (w.heap.size + 1 + 1 + 1) W w') : Two4 w w' n n' s t s' t' := by
  have ha : w.heap.size < w.heap.size + 1 + 1 + 1 := by omega
  have hb : w.heap.size + 1 < w.heap.size + 1 + 1 + 1 := by omega
  have hc : w.heap.size + 1 + 1 < w.heap.size + 1 + 1 + 1 := by omega
  exact ⟨⟨B.F.bel.trans (h.mono (by omega)), B.F.lo, Nat.lt_of_lt_of_le B.F.size h.size, (h.cell hc).trans B.F.r0, (h.cell hc).trans B.F.r1, (h.cell hc).trans B.F.r2, (h.cell hc).trans B.F.r3, fun k => (below_frozen h hc).trans (B.F.fr k)⟩,
    (h.cell ha).trans B.a0, (h.cell ha).trans B.a1, (h.cell ha).trans B.a2, (h.cell ha).trans B.a3, (h.cell hb).trans B.b0, (h.cell hb).trans B.b1, (h.cell hb).trans B.b2, (h.cell hb).trans B.b3⟩

theorem two4_made (w : World) (n n' : Bool) (s t s' t' : Value) :
    Two4 w (((w.alloc (.cells #[.bool n, s, .bool false, t] 30)).alloc (.cells #[.bool n', s', .bool false, t'] 30)).alloc (.cells #[.bool false, .slice none 0 0, .bool false, .slice none 0 0] 30)) n n' s t s' t' := by
  refine ⟨⟨(((Below.refl _ _).alloc (Nat.le_refl _) _).alloc (by simp) _).alloc (by simp; omega) _, by omega, by simp, ?_, ?_, ?_, ?_, ?_⟩, ?_, ?_, ?_, ?_, ?_, ?_, ?_, ?_⟩
  all_goals first | (intro k; simp [go_sem]) | simp [go_sem]

theorem Two4.rd {w W : World} {n n' : Bool} {s t s' t' : Value} (B : Two4 w W n n' s t s' t') {A : Option Addr} {c : Nat} {l : List Nat} (R : Rd w w.heap.size A c l) : Rd W W.heap.size A c l := (R.below B.F.bel).more B.F.bel.size

theorem validAll2 (W : World) (g cap : Nat) (x y : Int) (d d' : Nat) (A B A' B' : Option Addr) (c k c' k' : Nat) (ty : TypeId) (fr : Nat × Nat) (hT : Tabs W) (F : Fine x d) (F' : Fine y d')
    (hg : W.heap[g]? = some (.cells #[.bool (decide (x < 0)), .slice A (digs x.natAbs).length c, .bool false, .slice B (digs d).length k, .bool (decide (y < 0)), .slice A' (digs y.natAbs).length c', .bool false, .slice B' (digs d').length k'] ty fr))
    (R : Rd W W.heap.size A c (digs x.natAbs)) (S : Rd W W.heap.size B k (digs d)) (R' : Rd W W.heap.size A' c' (digs y.natAbs)) (S' : Rd W W.heap.size B' k' (digs d')) :
    Calls Tryz.prog 38 #[.slice (some ⟨g, 0, none⟩) 2 cap] W fun e w' => e = .returned (.bool true) ∧ Below W.heap.size W w' := by
  have hlt : g < W.heap.size := (Array.getElem?_eq_some_iff.1 hg).1
  refine validAll_any W g cap [(x, d), (y, d')] hlt (by simp) (fun j hj => ?_) hT
  obtain rfl | rfl : j = 0 ∨ j = 1 := by simp at hj; omega
  · exact ⟨⟨A, c, B, k, by rw [cell_of_row W g (0 * 4) _ ty fr hg]; rfl, by rw [cell_of_row W g (0 * 4 + 1) _ ty fr hg]; rfl, by rw [cell_of_row W g (0 * 4 + 2) _ ty fr hg]; rfl, by rw [cell_of_row W g (0 * 4 + 3) _ ty fr hg]; rfl, R, S⟩, F⟩
  · exact ⟨⟨A', c', B', k', by rw [cell_of_row W g (1 * 4) _ ty fr hg]; rfl, by rw [cell_of_row W g (1 * 4 + 1) _ ty fr hg]; rfl, by rw [cell_of_row W g (1 * 4 + 2) _ ty fr hg]; rfl, by rw [cell_of_row W g (1 * 4 + 3) _ ty fr hg]; rfl, R', S'⟩, F'⟩

theorem len_add (k : Nat) {x y : Int} (hx : (digs x.natAbs).length ≤ k) (hy : (digs y.natAbs).length ≤ k) : (digs (x + y).natAbs).length ≤ k + 1 := by
  have h1 := (lt_len_iff _ k).1 hx
  have h2 := (lt_len_iff _ k).1 hy
  refine (lt_len_iff _ (k + 1)).2 ?_
  have h3 : (x + y).natAbs ≤ x.natAbs + y.natAbs := Int.natAbs_add_le x y
  rw [Nat.pow_succ]
  generalize (4294967296 : Nat) ^ k = p at *
  omega

theorem len_mul (j k : Nat) {x y : Int} (hx : (digs x.natAbs).length ≤ j) (hy : (digs y.natAbs).length ≤ k) : (digs (x * y).natAbs).length ≤ j + k := by
  refine (lt_len_iff _ (j + k)).2 ?_
  have h1 := (lt_len_iff _ j).1 hx
  have h2 := (lt_len_iff _ k).1 hy
  rw [Int.natAbs_mul, Nat.pow_add]
  exact Nat.mul_lt_mul'' h1 h2

theorem add_len (x y : Int) (hx : (digs x.natAbs).length ≤ 256) (hy : (digs y.natAbs).length ≤ 256) : (digs (x + y).natAbs).length ≤ 257 := len_add 256 hx hy
theorem add_len2 {x y : Int} (hx : (digs x.natAbs).length ≤ 1000) (hy : (digs y.natAbs).length ≤ 1000) : (digs (x + y).natAbs).length ≤ 2000 := Nat.le_trans (len_add 1000 hx hy) (by decide)
theorem mul_len {x y : Int} (hx : (digs x.natAbs).length ≤ 256) (hy : (digs y.natAbs).length ≤ 256) : (digs (x * y).natAbs).length ≤ 1000 := Nat.le_trans (len_mul 256 256 hx hy) (by decide)

theorem low_same (s : Int) (d : Nat) (hd : d ≠ 0) : (s * d).tdiv (Nat.gcd (s * d).natAbs (d * d) : Nat) = s.tdiv (Nat.gcd s.natAbs d : Nat) ∧ d * d / Nat.gcd (s * d).natAbs (d * d) = d / Nat.gcd s.natAbs d := by
  have e : Nat.gcd (s * d).natAbs (d * d) = Nat.gcd s.natAbs d * d := by rw [Int.natAbs_mul, Int.natAbs_natCast, Nat.gcd_mul_right]
  rw [e]
  refine ⟨?_, Nat.mul_div_mul_right _ _ (by omega)⟩
  rw [Int.natCast_mul]
  exact Int.mul_tdiv_mul_of_pos_left _ _ (by omega)

/-- A big integer in a box of its own at block g, behind the boxes of two fractions. -/
structure NumAt (w W : World) (n n' : Bool) (s t s' t' : Value) (z : Int) (g : Nat) (A : Option Addr) (c : Nat) : Prop where
  T : Two4 w W n n' s t s' t'
  lo : w.heap.size + 1 + 1 + 1 ≤ g
  hi : g < W.heap.size
  c0 : W.cell? ⟨g, 0, none⟩ = some (.bool (decide (z < 0)))
  c1 : W.cell? ⟨g, 1, none⟩ = some (.slice A (digs z.natAbs).length c)
  rd : Rd W W.heap.size A c (digs z.natAbs)

theorem NumAt.after {w W W' : World} {n n' : Bool} {s t s' t' : Value} {z : Int} {g : Nat} {A : Option Addr} {c : Nat} (N : NumAt w W n n' s t s' t' z g A c) (h : Below W.heap.size W W') : NumAt w W' n n' s t s' t' z g A c :=
  ⟨N.T.after h, N.lo, Nat.lt_of_lt_of_le N.hi h.size, (h.cell N.hi).trans N.c0, (h.cell N.hi).trans N.c1, (N.rd.below h).more h.size⟩

theorem Two4.alloc {w W : World} {n n' : Bool} {s t s' t' : Value} (B : Two4 w W n n' s t s' t') (o : Obj) : Two4 w (W.alloc o) n n' s t s' t' := B.after ((Below.refl _ _).alloc (Nat.le_refl _) o)

theorem Two4.held8 {w W : World} {n n' : Bool} {s t s' t' : Value} (B : Two4 w W n n' s t s' t') :
    W.cell? ⟨w.heap.size, 0, none⟩ = some (.bool n) ∧ W.cell? ⟨w.heap.size, 1, none⟩ = some s ∧ W.cell? ⟨w.heap.size, 2, none⟩ = some (.bool false) ∧ W.cell? ⟨w.heap.size, 3, none⟩ = some t ∧
    W.cell? ⟨w.heap.size + 1, 0, none⟩ = some (.bool n') ∧ W.cell? ⟨w.heap.size + 1, 1, none⟩ = some s' ∧ W.cell? ⟨w.heap.size + 1, 2, none⟩ = some (.bool false) ∧ W.cell? ⟨w.heap.size + 1, 3, none⟩ = some t' :=
  ⟨B.a0, B.a1, B.a2, B.a3, B.b0, B.b1, B.b2, B.b3⟩

theorem isBig_alloc {w : World} {v : Value} {z : Int} (h : IsBig w v z) (o : Obj) : IsBig (w.alloc o) v z := h.below ((Below.refl _ _).alloc (Nat.le_refl _) o)

theorem isBig_den {w : World} {A : Option Addr} {c d : Nat} (R : Rd w w.heap.size A c (digs d)) : IsBig w (.agg #[.bool false, .slice A (digs d).length c]) (d : Int) :=
  ⟨A, c, by rw [decide_eq_false (by omega)]; rfl, R⟩

theorem Two4.draw {w W : World} {n n' : Bool} {s t s' t' : Value} (B : Two4 w W n n' s t s' t') : Two4 w W.drew n n' s t s' t' := B.after (Below.refl _ _).drew

/-- An empty box for a big integer at block g, behind the boxes of two fractions. -/
structure Spare (w W : World) (g : Nat) : Prop where
  lo : w.heap.size + 1 + 1 + 1 ≤ g
  hi : g < W.heap.size
  e0 : W.cell? ⟨g, 0, none⟩ = some (.bool false)
  e1 : W.cell? ⟨g, 1, none⟩ = some (.slice none 0 0)
  f0 : W.frozen? ⟨g, 0, none⟩ = false
  f1 : W.frozen? ⟨g, 1, none⟩ = false

theorem Spare.after {w W W' : World} {g : Nat} (N : Spare w W g) (h : Below W.heap.size W W') : Spare w W' g :=
  ⟨N.lo, Nat.lt_of_lt_of_le N.hi h.size, (h.cell N.hi).trans N.e0, (h.cell N.hi).trans N.e1, (h.frozen N.hi).trans N.f0, (h.frozen N.hi).trans N.f1⟩

theorem Spare.draw {w W : World} {g : Nat} (N : Spare w W g) : Spare w W.drew g := N.after (Below.refl _ _).drew

theorem spare_new {w W : World} {n n' : Bool} {s t s' t' : Value} (B : Two4 w W n n' s t s' t') : Spare w (W.alloc (.cells #[.bool false, .slice none 0 0] 28)) W.heap.size := by
  have := B.F.size
  refine ⟨by omega, by simp, ?_, ?_, ?_, ?_⟩ <;> simp [go_sem]

theorem four_other {W : World} {g : Nat} {v0 v1 v2 v3 : Value} {p : Addr} (hp : p.block ≠ g) :
    ((((W.setCell ⟨g, 0, none⟩ v0).setCell ⟨g, 1, none⟩ v1).setCell ⟨g, 2, none⟩ v2).setCell ⟨g, 3, none⟩ v3).cell? p = W.cell? p := by
  have h : ∀ (V : World) (k : Nat) (v : Value), (V.setCell ⟨g, k, none⟩ v).cell? p = V.cell? p := fun V k v => World.cell?_setCell_other _ _ _ _ (by rintro rfl; exact hp rfl)
  rw [h, h, h, h]

theorem numAt_new {w W : World} {n n' : Bool} {s t s' t' : Value} {z : Int} {A : Option Addr} {c : Nat} (B : Two4 w W n n' s t s' t') (R : Rd W W.heap.size A c (digs z.natAbs)) :
    NumAt w (W.alloc (.cells #[.bool (decide (z < 0)), .slice A (digs z.natAbs).length c] 28)) n n' s t s' t' z W.heap.size A c := by
  have := B.F.size
  exact ⟨B.alloc _, by omega, by simp, by simp [go_sem], by simp [go_sem], (R.below ((Below.refl _ _).alloc (Nat.le_refl _) _)).more (by simp)⟩

theorem NumAt.held {w W : World} {n n' : Bool} {s t s' t' : Value} {z : Int} {g : Nat} {A : Option Addr} {c : Nat} (N : NumAt w W n n' s t s' t' z g A c) :
    W.cell? ⟨g, 0, none⟩ = some (.bool (decide (z < 0))) ∧ W.cell? ⟨g, 1, none⟩ = some (.slice A (digs z.natAbs).length c) ∧ W.cell? ⟨w.heap.size, 3, none⟩ = some t ∧ W.cell? ⟨w.heap.size + 1, 3, none⟩ = some t' :=
  ⟨N.c0, N.c1, N.T.a3, N.T.b3⟩

theorem numAt_put {w W : World} {n n' : Bool} {s t s' t' : Value} {z : Int} {g : Nat} {A : Option Addr} {c : Nat} (B : Two4 w W n n' s t s' t') (S : Spare w W g) (R : Rd W W.heap.size A c (digs z.natAbs)) :
    NumAt w ((W.setCell ⟨g, 0, none⟩ (.bool (decide (z < 0)))).setCell ⟨g, 1, none⟩ (.slice A (digs z.natAbs).length c)) n n' s t s' t' z g A c := by
  have hlo := S.lo
  have hs := B.F.size
  have hb : Below (w.heap.size + 1 + 1 + 1) W ((W.setCell ⟨g, 0, none⟩ (.bool (decide (z < 0)))).setCell ⟨g, 1, none⟩ (.slice A (digs z.natAbs).length c)) :=
    ((Below.refl _ _).setCell (p := ⟨g, 0, none⟩) hlo _).setCell (p := ⟨g, 1, none⟩) hlo _
  have e1 : (W.setCell ⟨g, 0, none⟩ (.bool (decide (z < 0)))).cell? ⟨g, 1, none⟩ = some (.slice none 0 0) := (World.cell?_setCell_other _ _ _ _ (by intro h; cases h)).trans S.e1
  refine ⟨?_, hlo, by simpa using S.hi, ?_, ?_, ?_⟩
  · exact B.high hb
  · exact (World.cell?_setCell_other _ _ _ _ (by intro h; cases h)).trans (World.cell?_setCell_same _ _ _ S.e0)
  · exact World.cell?_setCell_same _ _ _ e1
  · have h1 : Rd (W.setCell ⟨g, 0, none⟩ (.bool (decide (z < 0)))) W.heap.size A c (digs z.natAbs) := rd_set R (ni_bool S.e0)
    have h2 := rd_set (v := .slice A (digs z.natAbs).length c) h1 (ni_slice e1)
    exact h2.more (by simp)

set_option maxRecDepth 100000 in
set_option maxHeartbeats 8000000 in
theorem addFrac_any (w : World) (a b : Value) (x y : Int) (d d' : Nat) (ha : IsFrac w a x d) (hb : IsFrac w b y d') (F : Fine x d) (F' : Fine y d') (hT : Tabs w) :
    Calls Tryz.prog 11 #[a, b] w (Low w (x * d' + y * d) (d * d')) := by
  obtain ⟨A, c, B, k, rfl, R, S⟩ := ha
  obtain ⟨A', c', B', k', rfl, R', S'⟩ := hb
  go_enter Tryz.func11, Tryz.ntmps11
  have hB := two4_made w (decide (x < 0)) (decide (y < 0)) (.slice A (digs x.natAbs).length c) (.slice B (digs d).length k) (.slice A' (digs y.natAbs).length c') (.slice B' (digs d').length k')
  obtain ⟨W, hW⟩ : ∃ W, W = (((w.alloc (.cells #[.bool (decide (x < 0)), .slice A (digs x.natAbs).length c, .bool false, .slice B (digs d).length k] 30)).alloc (.cells #[.bool (decide (y < 0)), .slice A' (digs y.natAbs).length c', .bool false, .slice B' (digs d').length k'] 30)).alloc (.cells #[.bool false, .slice none 0 0, .bool false, .slice none 0 0] 30)) := ⟨_, rfl⟩
  have hsz : W.heap.size = w.heap.size + 1 + 1 + 1 := by rw [hW]; simp
  rw [← hW] at hB
  have HB := Lib.hid (And.intro hB hsz)
  clear hB hsz
  go_wp2_with fail
  rw [← hW]
  clear hW
  have hbA : ∀ o, Below W.heap.size W (W.alloc o) := fun o => (Below.refl _ _).alloc (Nat.le_refl _) o
  refine (validAll2 (W.alloc _) (w.heap.size + 1 + 1 + 1) 2 x y d d' A B A' B' c k c' k' 30 (0, 0) (hT.below (HB.out.1.F.bel.trans ((hbA _).mono HB.out.1.F.bel.size))) F F' (by rw [← HB.out.2]; exact heap_alloc_new W _)
    (((HB.out.1.rd R).below (hbA _)).more (by simp)) (((HB.out.1.rd S).below (hbA _)).more (by simp)) (((HB.out.1.rd R').below (hbA _)).more (by simp)) (((HB.out.1.rd S').below (hbA _)).more (by simp))).mono ?_
  rintro _ W1 ⟨rfl, hb1⟩
  have hB1 := HB.out.1.after ((hbA _).trans (hb1.mono (by simp)))
  have H1 := Lib.hid hB1
  have a0 := hB1.a0
  have a1 := hB1.a1
  have a2 := hB1.a2
  have a3 := hB1.a3
  have b0 := hB1.b0
  have b1 := hB1.b1
  have b2 := hB1.b2
  have b3 := hB1.b3
  have HF := Lib.hid (And.intro F F')
  clear hB1 hb1 HB hbA F F'
  go_wp2_with fail
  refine (cmpWords_any W1 _ B B' k k' d d' (H1.out.rd S) (H1.out.rd S') (by have := HF.out.1.hd; omega) (by have := HF.out.2.hd; omega)).mono ?_
  rintro _ _ ⟨rfl, j, rfl⟩
  by_cases hdd : d = d'
  · have hcv : cmp d d' = 0 := by rw [hdd]; unfold cmp; simp
    rw [hcv]
    have H2 := Lib.hid (H1.out.after (show Below W1.heap.size W1 (W1.drewN j) from ⟨rfl, rfl, rfl, Nat.le_refl _, fun _ _ => rfl⟩))
    have HD := Lib.hid hdd
    obtain ⟨Z0, hZ0⟩ : ∃ Z0, Z0 = x + y := ⟨_, rfl⟩
    have hzl : (digs Z0.natAbs).length ≤ 400000 := by
      have h1 := add_len x y HF.out.1.hz HF.out.2.hz
      rw [← hZ0] at h1
      omega
    have HZ := Lib.hid hZ0
    clear hdd hcv hZ0
    obtain ⟨W2, hW2⟩ : ∃ W2, W2 = W1.drewN j := ⟨_, rfl⟩
    rw [← hW2] at H2 ⊢
    clear hW2 a0 a1 a2 a3 b0 b1 b2 b3
    have a0 := H2.out.a0
    have a1 := H2.out.a1
    have a3 := H2.out.a3
    have b0 := H2.out.b0
    have b1 := H2.out.b1
    have H2d := Lib.hid (H2.out.after (Below.refl _ _).drew)
    go_wp2_with fail
    go_region_held3 (fun w' => w'.cell? ⟨w.heap.size, 0, none⟩ = some (.bool (decide (x < 0))) ∧ w'.cell? ⟨w.heap.size, 1, none⟩ = some (.slice A (digs x.natAbs).length c) ∧ w'.cell? ⟨w.heap.size, 3, none⟩ = some (.slice B (digs d).length k) ∧ w'.cell? ⟨w.heap.size + 1, 0, none⟩ = some (.bool (decide (y < 0))) ∧ w'.cell? ⟨w.heap.size + 1, 1, none⟩ = some (.slice A' (digs y.natAbs).length c'))
      (first | with_reducible exact ⟨H2.out.a0, H2.out.a1, H2.out.a3, H2.out.b0, H2.out.b1⟩ | with_reducible exact ⟨H2d.out.a0, H2d.out.a1, H2d.out.a3, H2d.out.b0, H2d.out.b1⟩ | with_reducible exact ⟨H3.out.a0, H3.out.a1, H3.out.a3, H3.out.b0, H3.out.b1⟩ | with_reducible exact ⟨H4.out.a0, H4.out.a1, H4.out.a3, H4.out.b0, H4.out.b1⟩ | with_reducible exact ⟨H5.out.a0, H5.out.a1, H5.out.a3, H5.out.b0, H5.out.b1⟩ | (have q1 := H5.out.a0; have q2 := H5.out.a1; have q3 := H5.out.a3; have q4 := H5.out.b0; have q5 := H5.out.b1; refine ⟨?_, ?_, ?_, ?_, ?_⟩ <;> simp [go_sem, q1, q2, q3, q4, q5]))
      (first
        | (have R4b := R4; go_at_call 40; refine (lowest_any W4 v3 Z0 d A4 c4 hI4 R4b HF.out.1.d0 hzl (by have := HF.out.1.hd; omega) (hT.below H4.out.F.bel)).mono ?_
           rintro _ W5 hF
           obtain ⟨A5, c5, A6, c6, Z1, D1, k1, rfl, R5, R6, hb5, hk⟩ := frac_open hF
           have S5 := H4.out.after hb5
           have H5 := Lib.hid S5
           have r0 := S5.F.r0
           have r1 := S5.F.r1
           have r2 := S5.F.r2
           have r3 := S5.F.r3
           have f0 := S5.F.fr 0
           have f1 := S5.F.fr 1
           have f2 := S5.F.fr 2
           have f3 := S5.F.fr 3
           clear hF hb5 S5 R4b)
        | (have hI3b := hI3; go_at_call 42; refine (clone_any W3 B k (digs d) (H3.out.rd S) (by have := HF.out.1.hd; omega)).mono ?_; rintro _ W4 ⟨v4, rfl, hO4, hb4⟩
           obtain ⟨A4, c4, rfl, R4⟩ := own_rd hO4 (ok_digs _)
           have H4 := Lib.hid (H3.out.after hb4)
           have hI4 := hI3.below hb4
           clear hO4 hb4 hI3 hI3b)
        | (go_at_call 41; refine (sum_any W2.drew _ _ x y ⟨A, c, rfl, H2d.out.rd R⟩ ⟨A', c', rfl, H2d.out.rd R'⟩ (by have := HF.out.1.hz; omega) (by have := HF.out.2.hz; omega)).mono ?_; rintro _ W3 ⟨v3, rfl, hI3, hb3⟩
           rw [← HZ.out] at hI3
           have H3 := Lib.hid (H2d.out.after hb3)
           clear hb3))
    obtain ⟨e, d0, d1, d2, d3⟩ := H5.out.F.filled R5 R6 _ rfl
    have HE := Lib.hid (And.intro e (And.intro d0 (And.intro d1 (And.intro d2 d3))))
    clear e d0 d1 d2 d3 R5 R6 R4 R R' S S' H1 H2 H2d H3 H4 H5 a0 a1 a3 b0 b1 hI4
    go_wp2
    (try simp only [Exit.inBlock, Exit.then])
    refine bodyPost_ret (results_frac rfl _ _ (w.heap.size + 1 + 1) rfl HE.out.2.1 HE.out.2.2.1 HE.out.2.2.2.1 HE.out.2.2.2.2) rfl ?_
    have hdd := HD.out
    subst hdd
    have hz := HZ.out
    subst hz
    unfold Low
    obtain ⟨s1, s2⟩ := low_same (x + y) d HF.out.1.d0
    rw [← Int.add_mul, s1, s2]
    exact frac_shut hk HE.out.1.1 HE.out.1.2
  · have H2 := Lib.hid (H1.out.after (show Below W1.heap.size W1 (W1.drewN j) from ⟨rfl, rfl, rfl, Nat.le_refl _, fun _ _ => rfl⟩))
    have z1 : (cmp d d' == 0) = false := beq_eq_false_iff_ne.2 (by unfold cmp; split <;> (try split) <;> omega)
    obtain ⟨Z0, hZ0⟩ : ∃ Z0, Z0 = x * d' + y * d := ⟨_, rfl⟩
    obtain ⟨X1, hX1⟩ : ∃ X1, X1 = x * (d' : Int) := ⟨_, rfl⟩
    obtain ⟨Y1, hY1⟩ : ∃ Y1, Y1 = y * (d : Int) := ⟨_, rfl⟩
    have HZ := Lib.hid (And.intro hZ0 (And.intro hX1 (And.intro hY1 (show X1 + Y1 = Z0 by rw [hZ0, hX1, hY1]))))
    have hX1l : (digs X1.natAbs).length ≤ 1000 := by rw [hX1]; exact mul_len HF.out.1.hz (by simpa using HF.out.2.hd)
    have hY1l : (digs Y1.natAbs).length ≤ 1000 := by rw [hY1]; exact mul_len HF.out.2.hz (by simpa using HF.out.1.hd)
    have HL := Lib.hid (And.intro hX1l hY1l)
    clear hdd hZ0 hX1 hY1 hX1l hY1l
    generalize cmp d d' = cv at *
    obtain ⟨W2, hW2⟩ : ∃ W2, W2 = W1.drewN j := ⟨_, rfl⟩
    rw [← hW2] at H2 ⊢
    clear hW2 a0 a1 a2 a3 b0 b1 b2 b3
    have a0 := H2.out.a0
    have a1 := H2.out.a1
    have a2 := H2.out.a2
    have a3 := H2.out.a3
    have b0 := H2.out.b0
    have b1 := H2.out.b1
    have b2 := H2.out.b2
    have b3 := H2.out.b3
    have H2d := Lib.hid (H2.out.after (Below.refl _ _).drew)
    go_upto_region 5 with fail
    go_cut [6] (fun s6 wx => ∃ g A1 c1, s6 = .pointer (some ⟨g, 0, none⟩) ∧ NumAt w wx (decide (x < 0)) (decide (y < 0)) (.slice A (digs x.natAbs).length c) (.slice B (digs d).length k) (.slice A' (digs y.natAbs).length c') (.slice B' (digs d').length k') Z0 g A1 c1)
    case first =>
      go_region_held3 (fun w' => w'.cell? ⟨w.heap.size, 0, none⟩ = some (.bool (decide (x < 0))) ∧ w'.cell? ⟨w.heap.size, 1, none⟩ = some (.slice A (digs x.natAbs).length c) ∧ w'.cell? ⟨w.heap.size, 2, none⟩ = some (.bool false) ∧ w'.cell? ⟨w.heap.size, 3, none⟩ = some (.slice B (digs d).length k) ∧ w'.cell? ⟨w.heap.size + 1, 0, none⟩ = some (.bool (decide (y < 0))) ∧ w'.cell? ⟨w.heap.size + 1, 1, none⟩ = some (.slice A' (digs y.natAbs).length c') ∧ w'.cell? ⟨w.heap.size + 1, 2, none⟩ = some (.bool false) ∧ w'.cell? ⟨w.heap.size + 1, 3, none⟩ = some (.slice B' (digs d').length k'))
        (first | with_reducible exact H2.out.held8 | with_reducible exact H2d.out.held8 | with_reducible exact (H2.out.alloc _).held8 | with_reducible exact (H2.out.alloc _).draw.held8 | with_reducible exact H3.out.held8 | with_reducible exact (H3.out.alloc _).held8 | with_reducible exact H4.out.held8 | with_reducible exact (H4.out.alloc _).held8 | with_reducible exact H5.out.held8 | with_reducible exact (H5.out.alloc _).held8 | (first | exact (numAt_put (H5.out.alloc _) (spare_new H5.out) (R5.more (by simp))).T.held8 | exact (numAt_put H5.out S5.out R5).T.held8))
        (first
          | (have hI4b := hI4; go_at_call 41; refine (sum_any _ _ _ X1 Y1 (by first | exact hI3 | exact isBig_alloc hI3 _) (by first | exact hI4 | exact isBig_alloc hI4 _) (by have := HL.out.1; omega) (by have := HL.out.2; omega)).mono ?_; rintro _ W5 ⟨v5, rfl, hI5, hb5⟩
             rw [HZ.out.2.2.2] at hI5
             have H5 : Hid (Two4 w W5 _ _ _ _ _ _) := Lib.hid (by first | exact H4.out.after hb5 | exact (H4.out.alloc _).after hb5)
             (try have S5 := Lib.hid ((spare_new H4.out).after hb5))
             (try have S5 := Lib.hid (S4.out.after hb5))
             (try (have e0 := S5.out.e0; have e1 := S5.out.e1; have f0 := S5.out.f0; have f1 := S5.out.f1))
             obtain ⟨A5, c5, rfl, R5⟩ := hI5
             clear hb5 hI3 hI4 hI4b)
          | (have hI3b := hI3; go_at_call 43; refine (product_any _ _ _ y d ⟨A', c', rfl, by first | exact H3.out.rd R' | exact (H3.out.alloc _).rd R'⟩ (isBig_den (by first | exact H3.out.rd S | exact (H3.out.alloc _).rd S)) (by have := HF.out.2.hz; omega) (by have := HF.out.1.hd; rw [Int.natAbs_natCast]; omega)).mono ?_; rintro _ W4 ⟨v4, rfl, hI4, hb4⟩
             rw [← HZ.out.2.2.1] at hI4
             have H4 : Hid (Two4 w W4 _ _ _ _ _ _) := Lib.hid (by first | exact H3.out.after hb4 | exact (H3.out.alloc _).after hb4)
             (try have S4 := Lib.hid ((spare_new H3.out).after hb4))
             (try have S4 := Lib.hid (S3.out.after hb4))
             have hI3 : IsBig W4 v3 X1 := by first | exact hI3b.below hb4 | exact (isBig_alloc hI3b _).below hb4
             clear hb4 hI3b)
          | (go_at_call 43; refine (product_any _ _ _ x d' ⟨A, c, rfl, by first | exact H2d.out.rd R | exact (H2.out.alloc _).draw.rd R⟩ (isBig_den (by first | exact H2d.out.rd S' | exact (H2.out.alloc _).draw.rd S')) (by have := HF.out.1.hz; omega) (by have := HF.out.2.hd; rw [Int.natAbs_natCast]; omega)).mono ?_; rintro _ W3 ⟨v3, rfl, hI3, hb3⟩
             rw [← HZ.out.2.1] at hI3
             have H3 : Hid (Two4 w W3 _ _ _ _ _ _) := Lib.hid (by first | exact H2d.out.after hb3 | exact (H2.out.alloc _).draw.after hb3)
             (try have S3 := Lib.hid ((spare_new H2.out).draw.after hb3))
             clear hb3))
      all_goals (go_wp2_with fail; go_meet; first | exact ⟨_, A5, c5, rfl, numAt_put H5.out S5.out R5⟩ | exact ⟨_, A5, c5, rfl, numAt_new H5.out R5⟩)
    case rest =>
      obtain ⟨g, A1, c1, rfl, hN⟩ := hcut
      clear a0 a1 a2 a3 b0 b1 b2 b3 H2 H2d H1
      have N0 := Lib.hid hN
      have N0d := Lib.hid (hN.after (Below.refl _ _).drew)
      have hZ1 : (digs Z0.natAbs).length ≤ 2000 := by
        have h1 := HL.out
        have h2 := HZ.out.2.2.2
        rw [← h2]
        exact add_len2 h1.1 h1.2
      obtain ⟨D0, hD0⟩ : ∃ D0, D0 = d * d' := ⟨_, rfl⟩
      have hD1 : (digs D0).length ≤ 1000 := by
        have h1 := mul_len (x := (d : Int)) (y := (d' : Int)) (by rw [Int.natAbs_natCast]; exact HF.out.1.hd) (by rw [Int.natAbs_natCast]; exact HF.out.2.hd)
        rw [← Int.natCast_mul, Int.natAbs_natCast, ← hD0] at h1
        exact h1
      have hD2 : D0 ≠ 0 := by rw [hD0]; exact Nat.mul_ne_zero HF.out.1.d0 HF.out.2.d0
      have HD := Lib.hid (And.intro hD0 (And.intro hD1 (And.intro hD2 hZ1)))
      have c0 := hN.c0
      have e1 := hN.c1
      have a3 := hN.T.a3
      have b3 := hN.T.b3
      clear hN hD0 hD1 hD2 hZ1
      go_wp2_with fail
      go_region_held3 (fun w' => w'.cell? ⟨g, 0, none⟩ = some (.bool (decide (Z0 < 0))) ∧ w'.cell? ⟨g, 1, none⟩ = some (.slice A1 (digs Z0.natAbs).length c1) ∧ w'.cell? ⟨w.heap.size, 3, none⟩ = some (.slice B (digs d).length k) ∧ w'.cell? ⟨w.heap.size + 1, 3, none⟩ = some (.slice B' (digs d').length k'))
        (first | with_reducible exact N0.out.held | with_reducible exact N0d.out.held | with_reducible exact N1.out.held | with_reducible exact N2.out.held | (obtain ⟨q1, q2, q3, q4⟩ := N2.out.held; have q5 := N2.out.lo; exact ⟨(four_other (by show g ≠ _; omega)).trans q1, (four_other (by show g ≠ _; omega)).trans q2, (four_other (by show w.heap.size ≠ _; omega)).trans q3, (four_other (by show w.heap.size + 1 ≠ _; omega)).trans q4⟩))
        (first
          | (have R4b := R4; go_at_call 40; refine (lowest_any _ _ Z0 D0 A4 c4 ⟨A1, c1, rfl, N1.out.rd⟩ R4b HD.out.2.2.1 (by have := HD.out.2.2.2; omega) (by have := HD.out.2.1; omega) (hT.below N1.out.T.F.bel)).mono ?_
             rintro _ W5 hF
             obtain ⟨A5, c5, A6, c6, Z1, D1, k1, rfl, R5, R6, hb5, hk⟩ := frac_open hF
             have S5 := N1.out.after hb5
             have N2 := Lib.hid S5
             have r0 := S5.T.F.r0
             have r1 := S5.T.F.r1
             have r2 := S5.T.F.r2
             have r3 := S5.T.F.r3
             have f0 := S5.T.F.fr 0
             have f1 := S5.T.F.fr 1
             have f2 := S5.T.F.fr 2
             have f3 := S5.T.F.fr 3
             clear hF hb5 S5 R4b)
          | (go_at_call 44; refine (mulWords_any _ B B' k k' (digs d) (digs d') (N0d.out.T.rd S) (N0d.out.T.rd S') (by have := HF.out.1.hd; omega) (by have := HF.out.2.hd; omega)).mono ?_; rintro _ W4 ⟨v4, rfl, hO4, hb4⟩
             rw [val_digs, val_digs, ← HD.out.1] at hO4
             obtain ⟨A4, c4, rfl, R4⟩ := own_rd hO4 (ok_digs _)
             have N1 := Lib.hid (N0d.out.after hb4)
             clear hO4 hb4))
      obtain ⟨e, d0, d1, d2, d3⟩ := N2.out.T.F.filled R5 R6 _ rfl
      have HE := Lib.hid (And.intro e (And.intro d0 (And.intro d1 (And.intro d2 d3))))
      clear e d0 d1 d2 d3 R5 R6 R4 R R' S S' N0 N0d N1 N2 a3 b3 c0 e1
      go_wp2
      (try simp only [Exit.inBlock, Exit.then])
      refine bodyPost_ret (results_frac rfl _ _ (w.heap.size + 1 + 1) rfl HE.out.2.1 HE.out.2.2.1 HE.out.2.2.2.1 HE.out.2.2.2.2) rfl ?_
      have hz := HZ.out.1
      have hd := HD.out.1
      unfold Low
      rw [← hz, ← hd]
      exact frac_shut hk HE.out.1.1 HE.out.1.2

end Go.Proofs.YtbeidpeoichakaaGreatDoor.gg
