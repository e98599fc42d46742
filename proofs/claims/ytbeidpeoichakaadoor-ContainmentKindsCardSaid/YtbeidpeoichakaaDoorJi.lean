/- The mill's Fraction. -/
import Derived.Test.YtbeidpeoichakaaDoorJh
import Derived.Test.YtbeidpeoichakaaDoorHh
import Derived.Deep.DeepCutAuto
set_option linter.unusedSimpArgs false
namespace Go.Proofs.YtbeidpeoichakaaDoor.ji
open Go.RowKit Go.Proofs.YtbeidpeoichakaaDoor.fm Go.Proofs.YtbeidpeoichakaaDoor.mem Go.Proofs.YtbeidpeoichakaaDoor.fa Go.Proofs.YtbeidpeoichakaaDoor.fb Go.Proofs.YtbeidpeoichakaaDoor.fr Go.Proofs.YtbeidpeoichakaaDoor.fu Go.Proofs.YtbeidpeoichakaaDoor.fv Go.Proofs.YtbeidpeoichakaaDoor.fw Go.Proofs.YtbeidpeoichakaaDoor.fx Go.Proofs.YtbeidpeoichakaaDoor.fy Go.Proofs.YtbeidpeoichakaaDoor.fz Go.Proofs.YtbeidpeoichakaaDoor.gb Go.Proofs.YtbeidpeoichakaaDoor.gc Go.Proofs.YtbeidpeoichakaaDoor.gd Go.Proofs.YtbeidpeoichakaaDoor.hf Go.Proofs.YtbeidpeoichakaaDoor.hh Go.Proofs.YtbeidpeoichakaaDoor.ja Go.Proofs.YtbeidpeoichakaaDoor.jh Go.Proofs.YtbeidpeoichakaaDoor.mill

/-- A fraction in lowest terms, of few words. -/
structure Small (z : Int) (d : Nat) : Prop where
  hz : (digs z.natAbs).length ≤ 4
  hd : (digs d).length ≤ 4
  d0 : d ≠ 0
  low : Nat.gcd z.natAbs d = 1

theorem Small.fine {z : Int} {d : Nat} (S : Small z d) : Fine z d := ⟨Nat.le_trans S.hz (by decide), Nat.le_trans S.hd (by decide), S.d0, S.low⟩

theorem small_low {z : Int} {d : Nat} (hz : (digs z.natAbs).length ≤ 4) (hd : (digs d).length ≤ 4) (d0 : d ≠ 0) : Small (z.tdiv (Nat.gcd z.natAbs d : Nat)) (d / Nat.gcd z.natAbs d) := by
  have hg : 0 < Nat.gcd z.natAbs d := Nat.gcd_pos_of_pos_right _ (by omega)
  have hdiv := Nat.gcd_dvd_right z.natAbs d
  refine ⟨?_, Nat.le_trans (len_mono (Nat.div_le_self _ _)) hd, ?_, ?_⟩
  · rw [Int.natAbs_tdiv, Int.natAbs_natCast]; exact Nat.le_trans (len_mono (Nat.div_le_self _ _)) hz
  · have := Nat.div_pos (Nat.le_of_dvd (by omega) hdiv) hg; omega
  · rw [Int.natAbs_tdiv, Int.natAbs_natCast]
    exact (Nat.gcd_div (Nat.gcd_dvd_left _ _) hdiv).trans (Nat.div_self hg)

/-- What holds while the mill makes a fraction. -/
structure FS (w W : World) (g : Nat) (l : List Nat) : Prop where
  D : ∃ k, DiceAt W g l k
  K : Kept g w W
  lt : g < w.heap.size
  size : w.heap.size < W.heap.size
  r0 : W.cell? ⟨w.heap.size, 0, none⟩ = some (.bool false)
  r1 : W.cell? ⟨w.heap.size, 1, none⟩ = some (.slice none 0 0)
  r2 : W.cell? ⟨w.heap.size, 2, none⟩ = some (.bool false)
  r3 : W.cell? ⟨w.heap.size, 3, none⟩ = some (.slice none 0 0)
  fr : ∀ k, W.frozen? ⟨w.heap.size, k, none⟩ = false

theorem FS.pick {w W W' : World} {g : Nat} {l : List Nat} {k : Nat} (S : FS w W g l) (hD : DiceAt W' g l k) (hK : Kept g W W') : FS w W' g l := by
  have hne : w.heap.size ≠ g := by have := S.lt; omega
  exact ⟨⟨k, hD⟩, S.K.trans hK, S.lt, Nat.lt_of_lt_of_le S.size hK.bel.size, (hK.cell S.size hne).trans S.r0, (hK.cell S.size hne).trans S.r1, (hK.cell S.size hne).trans S.r2, (hK.cell S.size hne).trans S.r3, fun k => (hK.fr S.size hne).trans (S.fr k)⟩
theorem FS.after {w W W' : World} {g : Nat} {l : List Nat} (S : FS w W g l) (h : Below W.heap.size W W') : FS w W' g l := by
  obtain ⟨k, hD⟩ := S.D
  exact S.pick (hD.after h) (Kept.of_below h (by have := S.lt; have := S.size; omega))
theorem FS.alloc {w W : World} {g : Nat} {l : List Nat} (S : FS w W g l) (o : Obj) : FS w (W.alloc o) g l := S.after ((Below.refl _ _).alloc (Nat.le_refl _) o)

theorem FS.high {w W W' : World} {g : Nat} {l : List Nat} (S : FS w W g l) (h : Below (w.heap.size + 1) W W') : FS w W' g l := by
  have hb : w.heap.size < w.heap.size + 1 := by omega
  have hlt := S.lt
  obtain ⟨k, hD⟩ := S.D
  exact ⟨⟨k, DiceAt.high hD h (by omega)⟩, S.K.then_below (h.mono (by omega)) (by omega), S.lt, Nat.lt_of_lt_of_le S.size h.size, (h.cell hb).trans S.r0, (h.cell hb).trans S.r1, (h.cell hb).trans S.r2, (h.cell hb).trans S.r3, fun k => (below_frozen h hb).trans (S.fr k)⟩

/-- the box, filled -/
theorem FS.filled {w W : World} {g : Nat} {l : List Nat} (S : FS w W g l) {z : Int} {d : Nat} {A A' : Option Addr} {c c' : Nat} (R : Rd W W.heap.size A c (digs z.natAbs)) (R' : Rd W W.heap.size A' c' (digs d)) (w' : World)
    (hw : w' = (((W.setCell ⟨w.heap.size, 0, none⟩ (.bool (decide (z < 0)))).setCell ⟨w.heap.size, 1, none⟩ (.slice A (digs z.natAbs).length c)).setCell ⟨w.heap.size, 2, none⟩ (.bool false)).setCell ⟨w.heap.size, 3, none⟩ (.slice A' (digs d).length c')) :
    ∃ k, IsFrac w' (.agg #[.bool (decide (z < 0)), .slice A (digs z.natAbs).length c, .bool false, .slice A' (digs d).length c']) z d ∧ DiceAt w' g l k ∧ Kept g w w' ∧
      w'.cell? ⟨w.heap.size, 0, none⟩ = some (.bool (decide (z < 0))) ∧ w'.cell? ⟨w.heap.size, 1, none⟩ = some (.slice A (digs z.natAbs).length c) ∧ w'.cell? ⟨w.heap.size, 2, none⟩ = some (.bool false) ∧ w'.cell? ⟨w.heap.size, 3, none⟩ = some (.slice A' (digs d).length c') := by
  subst hw
  obtain ⟨k, hD⟩ := S.D
  have hlt := S.lt
  have hb : Below w.heap.size W ((((W.setCell ⟨w.heap.size, 0, none⟩ (.bool (decide (z < 0)))).setCell ⟨w.heap.size, 1, none⟩ (.slice A (digs z.natAbs).length c)).setCell ⟨w.heap.size, 2, none⟩ (.bool false)).setCell ⟨w.heap.size, 3, none⟩ (.slice A' (digs d).length c')) :=
    ((((Below.refl _ _).setCell (p := ⟨w.heap.size, 0, none⟩) (Nat.le_refl _) _).setCell (p := ⟨w.heap.size, 1, none⟩) (Nat.le_refl _) _).setCell (p := ⟨w.heap.size, 2, none⟩) (Nat.le_refl _) _).setCell (p := ⟨w.heap.size, 3, none⟩) (Nat.le_refl _) _
  have n1 := ni_bool S.r0
  have n2 := ni_slice S.r1
  have n3 := ni_bool S.r2
  have n4 := ni_slice S.r3
  have r0 := S.r0
  have r1 := S.r1
  have r2 := S.r2
  have r3 := S.r3
  have vb : ∀ (b : Bool) (k : Int), Value.bool b ≠ .int .u32 k := fun b k e => by cases e
  have vs : ∀ (a : Option Addr) (n c : Nat) (k : Int), Value.slice a n c ≠ .int .u32 k := fun a n c k e => by cases e
  refine ⟨k, ⟨A, c, A', c', rfl, ?_, ?_⟩, DiceAt.high hD hb hlt, S.K.then_below hb (Nat.le_of_lt hlt), ?_, ?_, ?_, ?_⟩
  · simp only [World.size_setCell]
    exact rd_set (rd_set (rd_set (rd_set R n1) (n2.set (vb _))) ((n3.set (vb _)).set (vs _ _ _))) (((n4.set (vb _)).set (vs _ _ _)).set (vb _))
  · simp only [World.size_setCell]
    exact rd_set (rd_set (rd_set (rd_set R' n1) (n2.set (vb _))) ((n3.set (vb _)).set (vs _ _ _))) (((n4.set (vb _)).set (vs _ _ _)).set (vb _))
  all_goals simp [go_sem, r0, r1, r2, r3]

/-- .. and a denominator in a box of its own at block g5. -/
structure FS2 (w W : World) (g : Nat) (l : List Nat) (g5 : Nat) (y : Int) (A : Option Addr) (c : Nat) : Prop where
  S : FS w W g l
  B : BAt W g5 y A c
  lo : w.heap.size < g5

theorem Rd.kept2 {g : Nat} {w w' : World} {A : Option Addr} {c : Nat} {l : List Nat} (R : Rd w w.heap.size A c l) (h : Kept g w w') : Rd w' w'.heap.size A c l := hh.Rd.kept R h

theorem FS2.pick {w W W' : World} {g : Nat} {l : List Nat} {g5 : Nat} {y : Int} {A : Option Addr} {c k : Nat} (F : FS2 w W g l g5 y A c) (hD : DiceAt W' g l k) (hK : Kept g W W') : FS2 w W' g l g5 y A c := by
  have hne : g5 ≠ g := by have := F.S.lt; have := F.lo; omega
  exact ⟨F.S.pick hD hK, ⟨Nat.lt_of_lt_of_le F.B.lt hK.bel.size, (hK.cell F.B.lt hne).trans F.B.c0, (hK.cell F.B.lt hne).trans F.B.c1, hh.Rd.kept F.B.R hK⟩, F.lo⟩
theorem FS2.after {w W W' : World} {g : Nat} {l : List Nat} {g5 : Nat} {y : Int} {A : Option Addr} {c : Nat} (F : FS2 w W g l g5 y A c) (h : Below W.heap.size W W') : FS2 w W' g l g5 y A c := ⟨F.S.after h, F.B.after h, F.lo⟩
theorem FS2.alloc {w W : World} {g : Nat} {l : List Nat} {g5 : Nat} {y : Int} {A : Option Addr} {c : Nat} (F : FS2 w W g l g5 y A c) (o : Obj) : FS2 w (W.alloc o) g l g5 y A c := F.after ((Below.refl _ _).alloc (Nat.le_refl _) o)
theorem FS2.draw {w W : World} {g : Nat} {l : List Nat} {g5 : Nat} {y : Int} {A : Option Addr} {c : Nat} (F : FS2 w W g l g5 y A c) : FS2 w W.drew g l g5 y A c := F.after (Below.refl _ _).drew
theorem FS2.held {w W : World} {g : Nat} {l : List Nat} {g5 : Nat} {y : Int} {A : Option Addr} {c : Nat} (F : FS2 w W g l g5 y A c) : W.cell? ⟨g5, 0, none⟩ = some (.bool (decide (y < 0))) ∧ W.cell? ⟨g5, 1, none⟩ = some (.slice A (digs y.natAbs).length c) := ⟨F.B.c0, F.B.c1⟩

/-- the number 7 in the box of a number -/
theorem bat_put {W : World} {g5 : Nat} {y z : Int} {A A' : Option Addr} {c c' : Nat} (B : BAt W g5 y A c) (R : Rd W W.heap.size A' c' (digs z.natAbs)) :
    BAt ((W.setCell ⟨g5, 0, none⟩ (.bool (decide (z < 0)))).setCell ⟨g5, 1, none⟩ (.slice A' (digs z.natAbs).length c')) g5 z A' c' := by
  have e1 : (W.setCell ⟨g5, 0, none⟩ (.bool (decide (z < 0)))).cell? ⟨g5, 1, none⟩ = some (.slice A (digs y.natAbs).length c) := (World.cell?_setCell_other _ _ _ _ (by intro h; cases h)).trans B.c1
  refine ⟨by simpa using B.lt, ?_, ?_, ?_⟩
  · exact (World.cell?_setCell_other _ _ _ _ (by intro h; cases h)).trans (World.cell?_setCell_same _ _ _ B.c0)
  · exact World.cell?_setCell_same _ _ _ e1
  · exact (rd_set (rd_set R (ni_bool B.c0)) (ni_slice e1)).more (by simp)

/-- An empty box for a fraction at block g6. -/
structure ES (w W : World) (g5 g6 : Nat) : Prop where
  lo : w.heap.size < g6
  l5 : g5 < g6
  hi : g6 < W.heap.size
  e0 : W.cell? ⟨g6, 0, none⟩ = some (.bool false)
  e1 : W.cell? ⟨g6, 1, none⟩ = some (.slice none 0 0)
  e2 : W.cell? ⟨g6, 2, none⟩ = some (.bool false)
  e3 : W.cell? ⟨g6, 3, none⟩ = some (.slice none 0 0)
  fr : ∀ k, W.frozen? ⟨g6, k, none⟩ = false

theorem ES.pick {w W W' : World} {g5 g6 g : Nat} (S : ES w W g5 g6) (hK : Kept g W W') (hg : g < w.heap.size) : ES w W' g5 g6 := by
  have hne : g6 ≠ g := by have := S.lo; omega
  exact ⟨S.lo, S.l5, Nat.lt_of_lt_of_le S.hi hK.bel.size, (hK.cell S.hi hne).trans S.e0, (hK.cell S.hi hne).trans S.e1, (hK.cell S.hi hne).trans S.e2, (hK.cell S.hi hne).trans S.e3, fun k => (hK.fr S.hi hne).trans (S.fr k)⟩
theorem ES.after {w W W' : World} {g5 g6 : Nat} (S : ES w W g5 g6) (h : Below W.heap.size W W') : ES w W' g5 g6 :=
  ⟨S.lo, S.l5, Nat.lt_of_lt_of_le S.hi h.size, (h.cell S.hi).trans S.e0, (h.cell S.hi).trans S.e1, (h.cell S.hi).trans S.e2, (h.cell S.hi).trans S.e3, fun k => (below_frozen h S.hi).trans (S.fr k)⟩
theorem ES.draw {w W : World} {g5 g6 : Nat} (S : ES w W g5 g6) : ES w W.drew g5 g6 := S.after (Below.refl _ _).drew
theorem es_new {w W : World} {g : Nat} {l : List Nat} {g5 : Nat} {y : Int} {A : Option Addr} {c : Nat} (F : FS2 w W g l g5 y A c) : ES w (W.alloc (.cells #[.bool false, .slice none 0 0, .bool false, .slice none 0 0] 27)) g5 W.heap.size :=
  ⟨F.S.size, F.B.lt, by simp, by simp [go_sem], by simp [go_sem], by simp [go_sem], by simp [go_sem], fun k => by simp [go_sem]⟩

theorem es_put {w W : World} {g g5 g6 : Nat} {l : List Nat} {z : Int} {d : Nat} {A A' : Option Addr} {c c' : Nat} (F : FS w W g l) (S : ES w W g5 g6) (R : Rd W W.heap.size A c (digs z.natAbs)) (R' : Rd W W.heap.size A' c' (digs d)) :
    FS w ((((W.setCell ⟨g6, 0, none⟩ (.bool (decide (z < 0)))).setCell ⟨g6, 1, none⟩ (.slice A (digs z.natAbs).length c)).setCell ⟨g6, 2, none⟩ (.bool false)).setCell ⟨g6, 3, none⟩ (.slice A' (digs d).length c')) g l ∧
    FAt ((((W.setCell ⟨g6, 0, none⟩ (.bool (decide (z < 0)))).setCell ⟨g6, 1, none⟩ (.slice A (digs z.natAbs).length c)).setCell ⟨g6, 2, none⟩ (.bool false)).setCell ⟨g6, 3, none⟩ (.slice A' (digs d).length c')) g6 z d A c A' c' := by
  have hlo := S.lo
  have r0 := S.e0
  have r1 := S.e1
  have r2 := S.e2
  have r3 := S.e3
  have n1 := ni_bool S.e0
  have n2 := ni_slice S.e1
  have n3 := ni_bool S.e2
  have n4 := ni_slice S.e3
  have vb : ∀ (b : Bool) (k : Int), Value.bool b ≠ .int .u32 k := fun b k e => by cases e
  have vs : ∀ (a : Option Addr) (n c : Nat) (k : Int), Value.slice a n c ≠ .int .u32 k := fun a n c k e => by cases e
  have hb : Below (w.heap.size + 1) W ((((W.setCell ⟨g6, 0, none⟩ (.bool (decide (z < 0)))).setCell ⟨g6, 1, none⟩ (.slice A (digs z.natAbs).length c)).setCell ⟨g6, 2, none⟩ (.bool false)).setCell ⟨g6, 3, none⟩ (.slice A' (digs d).length c')) :=
    ((((Below.refl _ _).setCell (p := ⟨g6, 0, none⟩) hlo _).setCell (p := ⟨g6, 1, none⟩) hlo _).setCell (p := ⟨g6, 2, none⟩) hlo _).setCell (p := ⟨g6, 3, none⟩) hlo _
  refine ⟨F.high hb, by simpa using S.hi, ?_, ?_, ?_, ?_, ?_, ?_⟩
  · simp [go_sem, r0, r1, r2, r3]
  · simp [go_sem, r0, r1, r2, r3]
  · simp [go_sem, r0, r1, r2, r3]
  · simp [go_sem, r0, r1, r2, r3]
  · simp only [World.size_setCell]
    exact rd_set (rd_set (rd_set (rd_set R n1) (n2.set (vb _))) ((n3.set (vb _)).set (vs _ _ _))) (((n4.set (vb _)).set (vs _ _ _)).set (vb _))
  · simp only [World.size_setCell]
    exact rd_set (rd_set (rd_set (rd_set R' n1) (n2.set (vb _))) ((n3.set (vb _)).set (vs _ _ _))) (((n4.set (vb _)).set (vs _ _ _)).set (vb _))

theorem make_small {w : World} {v : Value} {x y : Int} (h : IsFrac w v ((turned x y).tdiv (Nat.gcd (turned x y).natAbs y.natAbs : Nat)) (y.natAbs / Nat.gcd (turned x y).natAbs y.natAbs)) (hx : (digs x.natAbs).length ≤ 4) (hy : (digs y.natAbs).length ≤ 4) (h0 : y ≠ 0) :
    ∃ (Z : Int) (E : Nat), Small Z E ∧ ∃ (A : Option Addr) (c : Nat) (A' : Option Addr) (c' : Nat), v = .agg #[.bool (decide (Z < 0)), .slice A (digs Z.natAbs).length c, .bool false, .slice A' (digs E).length c'] ∧ Rd w w.heap.size A c (digs Z.natAbs) ∧ Rd w w.heap.size A' c' (digs E) :=
  ⟨_, _, small_low (by unfold turned; rw [sgnd_abs]; exact hx) hy (by omega), h⟩

theorem four_other {W : World} {g : Nat} {v0 v1 v2 v3 : Value} {p : Addr} (hp : p.block ≠ g) :
    ((((W.setCell ⟨g, 0, none⟩ v0).setCell ⟨g, 1, none⟩ v1).setCell ⟨g, 2, none⟩ v2).setCell ⟨g, 3, none⟩ v3).cell? p = W.cell? p := by
  have h : ∀ (V : World) (k : Nat) (v : Value), (V.setCell ⟨g, k, none⟩ v).cell? p = V.cell? p := fun V k v => World.cell?_setCell_other _ _ _ _ (by rintro rfl; exact hp rfl)
  rw [h, h, h, h]

theorem isBig_alloc {w : World} {v : Value} {z : Int} (h : IsBig w v z) (o : Obj) : IsBig (w.alloc o) v z := h.below ((Below.refl _ _).alloc (Nat.le_refl _) o)
theorem dice_draw {w : World} {g k : Nat} {l : List Nat} (D : DiceAt w g l k) : DiceAt w.drew g l k := D.after (Below.refl _ _).drew
theorem dice_alloc {w : World} {g k : Nat} {l : List Nat} (D : DiceAt w g l k) (o : Obj) : DiceAt (w.alloc o) g l k := D.after ((Below.refl _ _).alloc (Nat.le_refl _) o)

end Go.Proofs.YtbeidpeoichakaaDoor.ji
