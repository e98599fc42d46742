/- The mill's Fraction. -/
import Derived.Test.YtbeidpeoichakaaGreatDoorJh
import Derived.Test.YtbeidpeoichakaaGreatDoorHh
import Derived.Deep.DeepCutAuto
set_option linter.unusedSimpArgs false
namespace Go.Proofs.YtbeidpeoichakaaGreatDoor.ji
open Go.RowKit Go.Proofs.YtbeidpeoichakaaGreatDoor.fm Go.Proofs.YtbeidpeoichakaaGreatDoor.mem Go.Proofs.YtbeidpeoichakaaGreatDoor.fa Go.Proofs.YtbeidpeoichakaaGreatDoor.fb Go.Proofs.YtbeidpeoichakaaGreatDoor.fr Go.Proofs.YtbeidpeoichakaaGreatDoor.fu Go.Proofs.YtbeidpeoichakaaGreatDoor.fv Go.Proofs.YtbeidpeoichakaaGreatDoor.fw Go.Proofs.YtbeidpeoichakaaGreatDoor.fx Go.Proofs.YtbeidpeoichakaaGreatDoor.fy Go.Proofs.YtbeidpeoichakaaGreatDoor.fz Go.Proofs.YtbeidpeoichakaaGreatDoor.gb Go.Proofs.YtbeidpeoichakaaGreatDoor.gc Go.Proofs.YtbeidpeoichakaaGreatDoor.gd Go.Proofs.YtbeidpeoichakaaGreatDoor.hf Go.Proofs.YtbeidpeoichakaaGreatDoor.hh Go.Proofs.YtbeidpeoichakaaGreatDoor.ja Go.Proofs.YtbeidpeoichakaaGreatDoor.jh Go.Proofs.YtbeidpeoichakaaGreatDoor.mill

/-- A fraction in lowest terms, of few words. -/
structure Small (z : Int) (d : Nat) : Prop where
  hz : (digs z.natAbs).length ≤ 4
  hd : (digs d).length ≤ 4
  d0 : d ≠ 0
  low : Nat.gcd z.natAbs d = 1

theorem Small.fine {z : Int} {d : Nat} (S : Small z d) : Fine z d := ⟨Nat.le_trans S.hz (by decide), Nat.le_trans S.hd (by decide), S.d0, S.low⟩

theorem small_low {z : Int} {d : Nat} (hz : (digs z.natAbs).length ≤ 4) (hd : (digs d).length ≤ 4) (d0 : d ≠ 0) : Small (z.tdiv (Nat.gcd z.natAbs d : Nat)) (d / Nat.gcd z.natAbs d) := by
  have hg : 0 < Nat.gcd z.natAbs d := Nat.gcd_pos_of_pos_right _ (by omega)
  have hdiv := Nat.gcd_dvd_right z.natAbs d
  refine ⟨?_, Nat.le_trans (len_mono (Nat.div_le_self _ _)) hd, ?_, ?_⟩
  · rw [Int.natAbs_tdiv, Int.natAbs_natCast]; exact Nat.le_trans (len_mono (Nat.div_le_self _ _)) hz
  · have := Nat.div_pos (Nat.le_of_dvd (by omega) hdiv) hg; omega
  · rw [Int.natAbs_tdiv, Int.natAbs_natCast]
    exact (Nat.gcd_div (Nat.gcd_dvd_left _ _) hdiv).trans (Nat.div_self hg)

/-- What holds while the mill makes a fraction. -/
structure FS (w W : World) (g : Nat) (l : List Nat) : Prop where
  D : ∃ k, DiceAt W g l k
  K : Kept g w W
  lt : g < w.heap.size
  size : w.heap.size < W.heap.size
  r0 : W.cell? ⟨w.heap.size, 0, none⟩ = some (.bool false)
  r1 : W.cell? ⟨w.heap.size, 1, none⟩ = some (.slice none 0 0)
  r2 : W.cell? ⟨w.heap.size, 2, none⟩ = some (.bool false)
  r3 : W.cell? ⟨w.heap.size, 3, none⟩ = some (.slice none 0 0)
  fr : ∀ k, W.frozen? ⟨w.heap.size, k, none⟩ = false

theorem FS.pick {w W W' : World} {g : Nat} {l : List Nat} {k : Nat} (S : FS w W g l) (hD : DiceAt W' g l k) (hK : Kept g W W') : FS w W' g l := by
  have hne : w.heap.size ≠ g := by have := S.lt; omega
  exact ⟨⟨k, hD⟩, S.K.trans hK, S.lt, Nat.lt_of_lt_of_le S.size hK.bel.size, (hK.cell S.size hne).trans S.r0, (hK.cell S.size hne).trans S.r1, (hK.cell S.size hne).trans S.r2, (hK.cell S.size hne).trans S.r3, fun k => (hK.fr S.size hne).trans (S.fr k)⟩
theorem FS.after {w W W' : World} {g : Nat} {l : List Nat} (S : FS w W g l) (h : Below W.heap.size W W') : FS w W' g l := by
  obtain ⟨k, hD⟩ := S.D
  exact S.pick (hD.after h) (Kept.of_below h (by have := S.lt; have := S.size; omega))
theorem FS.alloc {w W : World} {g : Nat} {l : List Nat} (S : FS w W g l) (o : Obj) : FS w (W.alloc o) g l := S.after ((Below.refl _ _).alloc (Nat.le_refl _) o)

theorem FS.high {w W W' : World} {g : Nat} {l : List Nat} (S : FS w W g l) (h : Below (w.heap.size + 1) W W') : FS w W' g l := by
  have hb : w.heap.size < w.heap.size + 1 := by omega
  have hlt := S.lt
  obtain ⟨k, hD⟩ := S.D
  exact ⟨⟨k, DiceAt.high hD h (by omega)⟩, S.K.then_below (h.mono (by omega)) (by omega), S.lt, Nat.lt_of_lt_of_le S.size h.size, (h.cell hb).trans S.r0, (h.cell hb).trans S.r1, (h.cell hb).trans S.r2, (h.cell hb).trans S.r3, fun k => (below_frozen h hb).trans (S.fr k)⟩

/-- the box, filled -/
theorem FS.filled {w W : World} {g : Nat} {l : List Nat} (S : FS w W g l) {z : Int} {d : Nat} {A A' : Option Addr} {c c' : Nat} (R : Rd W W.heap.size A c (digs z.natAbs)) (R' : Rd W W.heap.size A' c' (digs d)) (w' : World)
    (hw : w' = (((W.setCell ⟨w.heap.size, 0, none⟩ (.bool (decide (z < 0)))).setCell ⟨w.heap.size, 1, none⟩ (.slice A (digs z.natAbs).length c)).setCell ⟨w.heap.size, 2, none⟩ (.bool false)).setCell ⟨w.heap.size, 3, none⟩ (.slice A' (digs d).length c')) :
    ∃ k, IsFrac w' (.agg #[.bool (decide (z < 0)), .slice A (digs z.natAbs).length c, .bool false, .slice A' (digs d).length c']) z d ∧ DiceAt w' g l k ∧ Kept g w w' ∧
      w'.cell? ⟨w.heap.size, 0, none⟩ = some (.bool (decide (z < 0))) ∧ w'.cell? ⟨w.heap.size, 1, none⟩ = some (.slice A (digs z.natAbs).length c) ∧ w'.cell? ⟨w.heap.size, 2, none⟩ = some (.bool false) ∧ w'.cell? ⟨w.heap.size, 3, none⟩ = some (.slice A' (digs d).length c') := by
  subst hw
  obtain ⟨k, hD⟩ := S.D
  have hlt := S.lt
  have hb : Below w.heap.size W ((((W.setCell ⟨w.heap.size, 0, none⟩ (.bool (decide (z < 0)))).setCell ⟨w.heap.size, 1, none⟩ (.slice A (digs z.natAbs).length c)).setCell ⟨w.heap.size, 2, none⟩ (.bool false)).setCell ⟨w.heap.size, 3, none⟩ (.slice A' (digs d).length c')) :=
    ((((Below.refl _ _).setCell (p := ⟨w.heap.size, 0, none⟩) (Nat.le_refl _) _).setCell (p := ⟨w.heap.size, 1, none⟩) (Nat.le_refl _) _).setCell (p := ⟨w.heap.size, 2, none⟩) (Nat.le_refl _) _).setCell (p := ⟨w.heap.size, 3, none⟩) (Nat.le_refl _) _
  have n1 := ni_bool S.r0
  have n2 := ni_slice S.r1
  have n3 := ni_bool S.r2
  have n4 := ni_slice S.r3
  have r0 := S.r0
  have r1 := S.r1
  have r2 := S.r2
  have r3 := S.r3
  have vb : ∀ (b : Bool) (k : Int), Value.bool b ≠ .int .u32 k := fun b k e => by cases e
  have vs : ∀ (a : Option Addr) (n c : Nat) (k : Int), Value.slice a n c ≠ .int .u32 k := fun a n c k e => by cases e
  refine ⟨k, ⟨A, c, A', c', rfl, ?_, ?_⟩, DiceAt.high hD hb hlt, S.K.then_below hb (Nat.le_of_lt hlt), ?_, ?_, ?_, ?_⟩
  · simp only [World.size_setCell]
    exact rd_set (rd_set (rd_set (rd_set R n1) (n2.set (vb _))) ((n3.set (vb _)).set (vs _ _ _))) (((n4.set (vb _)).set (vs _ _ _)).set (vb _))
  · simp only [World.size_setCell]
    exact rd_set (rd_set (rd_set (rd_set R' n1) (n2.set (vb _))) ((n3.set (vb _)).set (vs _ _ _))) (((n4.set (vb _)).set (vs _ _ _)).set (vb _))
  all_goals simp [go_sem, r0, r1, r2, r3]

/-- .. and a denominator in a box of its own at block g5. -/
structure FS2 (w W : World) (g : Nat) (l : List Nat) (g5 : Nat) (y : Int) (A : Option Addr) (c : Nat) : Prop where
  S : FS w W g l
  B : BAt W g5 y A c
  lo : w.heap.size < g5

theorem Rd.kept2 {g : Nat} {w w' : World} {A : Option Addr} {c : Nat} {l : List Nat} (R : Rd w w.heap.size A c l) (h : Kept g w w') : Rd w' w'.heap.size A c l := hh.Rd.kept R h

theorem FS2.pick {w W W' : World} {g : Nat} {l : List Nat} {g5 : Nat} {y : Int} {A : Option Addr} {c k : Nat} (F : FS2 w W g l g5 y A c) (hD : DiceAt W' g l k) (hK : Kept g W W') : FS2 w W' g l g5 y A c := by
  have hne : g5 ≠ g := by have := F.S.lt; have := F.lo; omega
  exact ⟨F.S.pick hD hK, ⟨Nat.lt_of_lt_of_le F.B.lt hK.bel.size, (hK.cell F.B.lt hne).trans F.B.c0, (hK.cell F.B.lt hne).trans F.B.c1, hh.Rd.kept F.B.R hK⟩, F.lo⟩
theorem FS2.after {w W W' : World} {g : Nat} {l : List Nat} {g5 : Nat} {y : Int} {A : Option Addr} {c : Nat} (F : FS2 w W g l g5 y A c) (h : Below W.heap.size W W') : FS2 w W' g l g5 y A c := ⟨F.S.after h, F.B.after h, F.lo⟩
theorem FS2.alloc {w W : World} {g : Nat} {l : List Nat} {g5 : Nat} {y : Int} {A : Option Addr} {c : Nat} (F : FS2 w W g l g5 y A c) (o : Obj) : FS2 w (W.alloc o) g l g5 y A c := F.after ((Below.refl _ _).alloc (Nat.le_refl _) o)
theorem FS2.draw {w W : World} {g : Nat} {l : List Nat} {g5 : Nat} {y : Int} {A : Option Addr} {c : Nat} (F : FS2 w W g l g5 y A c) : FS2 w W.drew g l g5 y A c := F.after (Below.refl _ _).drew
theorem FS2.held {w W : World} {g : Nat} {l : List Nat} {g5 : Nat} {y : Int} {A : Option Addr} {c : Nat} (F : FS2 w W g l g5 y A c) : W.cell? ⟨g5, 0, none⟩ = some (.bool (decide (y < 0))) ∧ W.cell? ⟨g5, 1, none⟩ = some (.slice A (digs y.natAbs).length c) := ⟨F.B.c0, F.B.c1⟩

/-- the number 7 in the box of a number -/
theorem bat_put {W : World} {g5 : Nat} {y z : Int} {A A' : Option Addr} {c c' : Nat} (B : BAt W g5 y A c) (R : Rd W W.heap.size A' c' (digs z.natAbs)) :
    BAt ((W.setCell ⟨g5, 0, none⟩ (.bool (decide (z < 0)))).setCell ⟨g5, 1, none⟩ (.slice A' (digs z.natAbs).length c')) g5 z A' c' := by
  have e1 : (W.setCell ⟨g5, 0, none⟩ (.bool (decide (z < 0)))).cell? ⟨g5, 1, none⟩ = some (.slice A (digs y.natAbs).length c) := (World.cell?_setCell_other _ _ _ _ (by intro h; cases h)).trans B.c1
  refine ⟨by simpa using B.lt, ?_, ?_, ?_⟩
  · exact (World.cell?_setCell_other _ _ _ _ (by intro h; cases h)).trans (World.cell?_setCell_same _ _ _ B.c0)
  · exact World.cell?_setCell_same _ _ _ e1
  · exact (rd_set (rd_set R (ni_bool B.c0)) (ni_slice e1)).more (by simp)

/-- An empty box for a fraction at block g6. -/
structure ES (w W : World) (g5 g6 : Nat) : Prop where
  lo : w.heap.size < g6
  l5 : g5 < g6
  hi : g6 < W.heap.size
  e0 : W.cell? ⟨g6, 0, none⟩ = some (.bool false)
  e1 : W.cell? ⟨g6, 1, none⟩ = some (.slice none 0 0)
  e2 : W.cell? ⟨g6, 2, none⟩ = some (.bool false)
  e3 : W.cell? ⟨g6, 3, none⟩ = some (.slice none 0 0)
  fr : ∀ k, W.frozen? ⟨g6, k, none⟩ = false

theorem ES.pick {w W W' : World} {g5 g6 g : Nat} (S : ES w W g5 g6) (hK : Kept g W W') (hg : g < w.heap.size) : ES w W' g5 g6 := by
  have hne : g6 ≠ g := by have := S.lo; omega
  exact ⟨S.lo, S.l5, Nat.lt_of_lt_of_le S.hi hK.bel.size, (hK.cell S.hi hne).trans S.e0, (hK.cell S.hi hne).trans S.e1, (hK.cell S.hi hne).trans S.e2, (hK.cell S.hi hne).trans S.e3, fun k => (hK.fr S.hi hne).trans (S.fr k)⟩
theorem ES.after {w W W' : World} {g5 g6 : Nat} (S : ES w W g5 g6) (h : Below W.heap.size W W') : ES w W' g5 g6 :=
  ⟨S.lo, S.l5, Nat.lt_of_lt_of_le S.hi h.size, (h.cell S.hi).trans S.e0, (h.cell S.hi).trans S.e1, (h.cell S.hi).trans S.e2, (h.cell S.hi).trans S.e3, fun k => (below_frozen h S.hi).trans (S.fr k)⟩
theorem ES.draw {w W : World} {g5 g6 : Nat} (S : ES w W g5 g6) : ES w W.drew g5 g6 := S.after (Below.refl _ _).drew
theorem es_new {w W : World} {g : Nat} {l : List Nat} {g5 : Nat} {y : Int} {A : Option Addr} {c : Nat} (F : FS2 w W g l g5 y A c) : ES w (W.alloc (.cells #[.bool false, .slice none 0 0, .bool false, .slice none 0 0] 30)) g5 W.heap.size :=
  ⟨F.S.size, F.B.lt, by simp, by simp [go_sem], by simp [go_sem], by simp [go_sem], by simp [go_sem], fun k => by simp [go_sem]⟩

theorem es_put {w W : World} {g g5 g6 : Nat} {l : List Nat} {z : Int} {d : Nat} {A A' : Option Addr} {c c' : Nat} (F : FS w W g l) (S : ES w W g5 g6) (R : Rd W W.heap.size A c (digs z.natAbs)) (R' : Rd W W.heap.size A' c' (digs d)) :
    FS w ((((W.setCell ⟨g6, 0, none⟩ (.bool (decide (z < 0)))).setCell ⟨g6, 1, none⟩ (.slice A (digs z.natAbs).length c)).setCell ⟨g6, 2, none⟩ (.bool false)).setCell ⟨g6, 3, none⟩ (.slice A' (digs d).length c')) g l ∧
    FAt ((((W.setCell ⟨g6, 0, none⟩ (.bool (decide (z < 0)))).setCell ⟨g6, 1, none⟩ (.slice A (digs z.natAbs).length c)).setCell ⟨g6, 2, none⟩ (.bool false)).setCell ⟨g6, 3, none⟩ (.slice A' (digs d).length c')) g6 z d A c A' c' := by
  have hlo := S.lo
  have r0 := S.e0
  have r1 := S.e1
  have r2 := S.e2
  have r3 := S.e3
  have n1 := ni_bool S.e0
  have n2 := ni_slice S.e1
  have n3 := ni_bool S.e2
  have n4 := ni_slice S.e3
  have vb : ∀ (b : Bool) (k : Int), Value.bool b ≠ .int .u32 k := fun b k e => by cases e
  have vs : ∀ (a : Option Addr) (n c : Nat) (k : Int), Value.slice a n c ≠ .int .u32 k := fun a n c k e => by cases e
  have hb : Below (w.heap.size + 1) W ((((W.setCell ⟨g6, 0, none⟩ (.bool (decide (z < 0)))).setCell ⟨g6, 1, none⟩ (.slice A (digs z.natAbs).length c)).setCell ⟨g6, 2, none⟩ (.bool false)).setCell ⟨g6, 3, none⟩ (.slice A' (digs d).length c')) :=
    ((((Below.refl _ _).setCell (p := ⟨g6, 0, none⟩) hlo _).setCell (p := ⟨g6, 1, none⟩) hlo _).setCell (p := ⟨g6, 2, none⟩) hlo _).setCell (p := ⟨g6, 3, none⟩) hlo _
  refine ⟨F.high hb, by simpa using S.hi, ?_, ?_, ?_, ?_, ?_, ?_⟩
  · simp [go_sem, r0, r1, r2, r3]
  · simp [go_sem, r0, r1, r2, r3]
  · simp [go_sem, r0, r1, r2, r3]
  · simp [go_sem, r0, r1, r2, r3]
  · simp only [World.size_setCell]
    exact rd_set (rd_set (rd_set (rd_set R n1) (n2.set (vb _))) ((n3.set (vb _)).set (vs _ _ _))) (((n4.set (vb _)).set (vs _ _ _)).set (vb _))
  · simp only [World.size_setCell]
    exact rd_set (rd_set (rd_set (rd_set R' n1) (n2.set (vb _))) ((n3.set (vb _)).set (vs _ _ _))) (((n4.set (vb _)).set (vs _ _ _)).set (vb _))

theorem make_small {w : World} {v : Value} {x y : Int} (h : IsFrac w v ((turned x y).tdiv (Nat.gcd (turned x y).natAbs y.natAbs : Nat)) (y.natAbs / Nat.gcd (turned x y).natAbs y.natAbs)) (hx : (digs x.natAbs).length ≤ 4) (hy : (digs y.natAbs).length ≤ 4) (h0 : y ≠ 0) :
    ∃ (Z : Int) (E : Nat), Small Z E ∧ ∃ (A : Option Addr) (c : Nat) (A' : Option Addr) (c' : Nat), v = .agg #[.bool (decide (Z < 0)), .slice A (digs Z.natAbs).length c, .bool false, .slice A' (digs E).length c'] ∧ Rd w w.heap.size A c (digs Z.natAbs) ∧ Rd w w.heap.size A' c' (digs E) :=
  ⟨_, _, small_low (by unfold turned; rw [sgnd_abs]; exact hx) hy (by omega), h⟩

theorem four_other {W : World} {g : Nat} {v0 v1 v2 v3 : Value} {p : Addr} (hp : p.block ≠ g) :
    ((((W.setCell ⟨g, 0, none⟩ v0).setCell ⟨g, 1, none⟩ v1).setCell ⟨g, 2, none⟩ v2).setCell ⟨g, 3, none⟩ v3).cell? p = W.cell? p := by
  have h : ∀ (V : World) (k : Nat) (v : Value), (V.setCell ⟨g, k, none⟩ v).cell? p = V.cell? p := fun V k v => World.cell?_setCell_other _ _ _ _ (by rintro rfl; exact hp rfl)
  rw [h, h, h, h]

theorem isBig_alloc {w : World} {v : Value} {z : Int} (h : IsBig w v z) (o : Obj) : IsBig (w.alloc o) v z := h.below ((Below.refl _ _).alloc (Nat.le_refl _) o)
theorem dice_draw {w : World} {g k : Nat} {l : List Nat} (D : DiceAt w g l k) : DiceAt w.drew g l k := D.after (Below.refl _ _).drew
theorem dice_alloc {w : World} {g k : Nat} {l : List Nat} (D : DiceAt w g l k) (o : Obj) : DiceAt (w.alloc o) g l k := D.after ((Below.refl _ _).alloc (Nat.le_refl _) o)

set_option maxRecDepth 100000 in
set_option maxHeartbeats 8000000 in
theorem diceFraction_any (w : World) (g : Nat) (l : List Nat) (k : Nat) (D : DiceAt w g l k) :
    Calls Tryz.prog 6 #[.pointer (some ⟨g, 0, none⟩)] w fun e w' => ∃ v z d k', e = .returned v ∧ IsFrac w' v z d ∧ Small z d ∧ DiceAt w' g l k' ∧ Kept g w w' := by
  go_enter Tryz.func6, Tryz.ntmps6
  have hA := fbox_made w
  have S0 : FS w (w.alloc (.cells #[.bool false, .slice none 0 0, .bool false, .slice none 0 0] 30)) g l :=
    ⟨⟨k, DiceAt.high D hA.bel D.lt⟩, Kept.of_below hA.bel (Nat.le_of_lt D.lt), D.lt, hA.size, hA.r0, hA.r1, hA.r2, hA.r3, hA.fr⟩
  obtain ⟨W, hW⟩ : ∃ W, W = w.alloc (.cells #[.bool false, .slice none 0 0, .bool false, .slice none 0 0] 30) := ⟨_, rfl⟩
  rw [← hW] at S0
  have HS := Lib.hid S0
  clear D hA S0
  go_upto_region 1 with fail
  rw [← hW]
  clear hW
  obtain ⟨k0, hD0⟩ := HS.out.D
  go_wp2_with fail
  refine (pick_some W g 3 l k0 hD0 (by decide) (by decide)).mono ?_
  rintro _ W1 ⟨n0, k1, rfl, hn0, hD1, hK1⟩
  have H1 := Lib.hid (HS.out.pick hD1 hK1)
  clear HS hD0 hK1
  by_cases hn : 0 < n0
  · have hnz : (0 : Int) < (n0 : Int) := by omega
    clear hn
    go_wp2_with fail
    refine (pick_some W1 g 41 l k1 hD1 (by decide) (by decide)).mono ?_
    rintro _ W2 ⟨x1, k2, rfl, hx1, hD2, hK2⟩
    have H2 := Lib.hid (H1.out.pick hD2 hK2)
    clear hD1 hK2 H1
    go_wp2_with fail
    refine (pick_some W2 g 12 l k2 hD2 (by decide) (by decide)).mono ?_
    rintro _ W3 ⟨x2, k3, rfl, hx2, hD3, hK3⟩
    have H3 := Lib.hid (H2.out.pick hD3 hK3)
    clear hD2 hK3 H2
    go_wp2_with fail
    refine (rof_any W3 ((x1 : Int) - 20) (1 + (x2 : Int)) (by omega) (by omega) (by omega) (by omega) (by omega)).mono ?_
    rintro _ W4 ⟨v4, rfl, hI4, hb4⟩
    obtain ⟨p, hp⟩ : ∃ p, p = turned ((x1 : Int) - 20) (1 + (x2 : Int)) := ⟨_, rfl⟩
    obtain ⟨q, hq⟩ : ∃ q, q = (1 + (x2 : Int)).natAbs := ⟨_, rfl⟩
    rw [← hp, ← hq] at hI4
    have hpl : (digs p.natAbs).length ≤ 4 := by
      rw [hp]; unfold turned; rw [sgnd_abs]
      exact Nat.le_trans ((lt_len_iff _ 1).2 (by omega)) (by decide)
    have hql : (digs q).length ≤ 4 := Nat.le_trans ((lt_len_iff _ 1).2 (by omega)) (by decide)
    have hsm := small_low hpl hql (by omega)
    obtain ⟨Z, hZ⟩ : ∃ Z, Z = p.tdiv (Nat.gcd p.natAbs q : Nat) := ⟨_, rfl⟩
    obtain ⟨E, hE0⟩ : ∃ E, E = q / Nat.gcd p.natAbs q := ⟨_, rfl⟩
    rw [← hZ, ← hE0] at hI4 hsm
    have HSM := Lib.hid hsm
    obtain ⟨A4, c4, A5, c5, rfl, R4, R5⟩ := hI4
    have H4 := Lib.hid (And.intro (H3.out.after hb4) (And.intro R4 R5))
    clear hp hq hpl hql hsm hZ hE0 R4 R5 hb4 H3 hD3 hx1 hx2 hnz hn0
    go_upto_region 3 with fail
    have ST := H4.out.1.alloc (.cells #[.bool (decide (Z < 0)), .slice A4 (digs Z.natAbs).length c4, .bool false, .slice A5 (digs E).length c5] 30)
    have FT := fat_new H4.out.2.1 H4.out.2.2
    obtain ⟨W5, hW5⟩ : ∃ W5, W5 = W4.alloc (.cells #[.bool (decide (Z < 0)), .slice A4 (digs Z.natAbs).length c4, .bool false, .slice A5 (digs E).length c5] 30) := ⟨_, rfl⟩
    rw [← hW5] at ST FT ⊢
    generalize W4.heap.size = g4 at *
    obtain ⟨k9, hE⟩ := ST.filled FT.R FT.S _ rfl
    have HE := Lib.hid hE
    have r0 := ST.r0
    have r1 := ST.r1
    have r2 := ST.r2
    have r3 := ST.r3
    have f0 := ST.fr 0
    have f1 := ST.fr 1
    have f2 := ST.fr 2
    have f3 := ST.fr 3
    have t0 := FT.c0
    have t1 := FT.c1
    have t2 := FT.c2
    have t3 := FT.c3
    clear hW5 ST FT hE H4
    go_wp2_with fail
    (try simp only [Exit.inBlock, Exit.then])
    refine bodyPost_ret (results_frac1 rfl _ _ w.heap.size rfl HE.out.2.2.2.1 HE.out.2.2.2.2.1 HE.out.2.2.2.2.2.1 HE.out.2.2.2.2.2.2) rfl ?_
    exact ⟨_, Z, E, k9, rfl, HE.out.1, HSM.out, HE.out.2.1, HE.out.2.2.1⟩
  · obtain rfl : n0 = 0 := by omega
    clear hn hn0
    go_wp2_with fail
    refine (diceBig_any W1 g l k1 hD1).mono ?_
    rintro _ W2 ⟨v2, y0, k2, rfl, hI2, hl2, hD2, hK2⟩
    have H2 := Lib.hid (H1.out.pick hD2 hK2)
    obtain ⟨A2, c2, rfl, R2⟩ := hI2
    clear hD1 hK2 H1
    go_upto_region 5 with fail
    have F2 : FS2 w (W2.alloc (.cells #[.bool (decide (y0 < 0)), .slice A2 (digs y0.natAbs).length c2] 28)) g l W2.heap.size y0 A2 c2 := ⟨H2.out.alloc _, bat_new R2, H2.out.size⟩
    have ff : ∀ k, (W2.alloc (.cells #[.bool (decide (y0 < 0)), .slice A2 (digs y0.natAbs).length c2] 28)).frozen? ⟨W2.heap.size, k, none⟩ = false := fun k => by simp [go_sem]
    obtain ⟨W3, hW3⟩ : ∃ W3, W3 = W2.alloc (.cells #[.bool (decide (y0 < 0)), .slice A2 (digs y0.natAbs).length c2] 28) := ⟨_, rfl⟩
    rw [← hW3] at F2 ff ⊢
    generalize W2.heap.size = g5 at *
    have HF2 := Lib.hid (And.intro F2 ff)
    have b0 := F2.B.c0
    have b1 := F2.B.c1
    have f0 := ff 0
    have f1 := ff 1
    clear hW3 F2 ff R2 H2 hD2
    go_upto_if 27 with fail
    go_cut [] (fun wx => ∃ y A c, y ≠ 0 ∧ (digs y.natAbs).length ≤ 4 ∧ FS2 w wx g l g5 y A c)
    case first =>
      by_cases hy : y0 = 0
      · have z1 : (((digs y0.natAbs).length : Int) == 0) = true := by rw [hy]; rfl
        clear hy
        go_wp2_with fail
        refine (rfromInt_any W3 7 (by decide) (by decide)).mono ?_
        rintro _ W4 ⟨v4, rfl, hI4, hb4⟩
        obtain ⟨A4, c4, rfl, R4⟩ := hI4
        have F4 := HF2.out.1.after hb4
        have g0 := (below_frozen hb4 HF2.out.1.B.lt).trans (HF2.out.2 0)
        have g1 := (below_frozen hb4 HF2.out.1.B.lt).trans (HF2.out.2 1)
        have b0' := F4.B.c0
        have b1' := F4.B.c1
        have hp := bat_put (z := 7) F4.B R4
        have HP := Lib.hid (And.intro hp F4)
        clear hp F4 R4 hb4 b0 b1 f0 f1
        go_wp2_with fail
        go_meet
        refine ⟨7, A4, c4, by decide, by decide, ?_, HP.out.1, HP.out.2.lo⟩
        have hlo := HP.out.2.lo
        have hb7 : Below (w.heap.size + 1) W4 ((W4.setCell ⟨g5, 0, none⟩ (.bool (decide ((7 : Int) < 0)))).setCell ⟨g5, 1, none⟩ (.slice A4 (digs (7 : Int).natAbs).length c4)) :=
          ((Below.refl _ _).setCell (p := ⟨g5, 0, none⟩) hlo _).setCell (p := ⟨g5, 1, none⟩) hlo _
        exact HP.out.2.S.high hb7
      · have z1 : (((digs y0.natAbs).length : Int) == 0) = false := beq_eq_false_iff_ne.2 (by have : (digs y0.natAbs).length ≠ 0 := fun e => hy (by have := digs_len_zero.1 e; omega); omega)
        have HY := Lib.hid hy
        clear hy
        go_wp2_with fail
        go_meet
        exact ⟨y0, A2, c2, HY.out, hl2, HF2.out.1⟩
    case rest =>
    obtain ⟨y, A3, c3, hy, hyl, F3⟩ := hcut
    have HF3 := Lib.hid F3
    have HY := Lib.hid hy
    clear HF2 b0 b1 f0 f1 hl2 hy F3
    go_upto_region 7 with fail
    go_cut [6] (fun s6 wx => ∃ g6 Z E A c A' c', s6 = .pointer (some ⟨g6, 0, none⟩) ∧ Small Z E ∧ FS w wx g l ∧ FAt wx g6 Z E A c A' c')
    case first =>
      obtain ⟨k3, hD3⟩ := HF3.out.S.D
      have b0 := HF3.out.B.c0
      have b1 := HF3.out.B.c1
      go_region_held3 (fun w' => w'.cell? ⟨g5, 0, none⟩ = some (.bool (decide (y < 0))) ∧ w'.cell? ⟨g5, 1, none⟩ = some (.slice A3 (digs y.natAbs).length c3))
        (first | with_reducible exact HF3.out.held | with_reducible exact HF3.out.draw.held | with_reducible exact (HF3.out.alloc _).held | with_reducible exact (HF3.out.alloc _).draw.held | with_reducible exact HF4.out.held | with_reducible exact (HF4.out.alloc _).held | with_reducible exact HF5.out.held | with_reducible exact (HF5.out.alloc _).held | (have q := HF5.out.held; have q7 := HF5.out.lo; exact ⟨(four_other (by have := S5.out.l5; show g5 ≠ _; omega)).trans q.1, (four_other (by have := S5.out.l5; show g5 ≠ _; omega)).trans q.2⟩))
        (first
          | (have hI4b := hI4; go_at_call 29; refine (rmake_any _ v4 _ x0 y (by first | exact hI4 | exact isBig_alloc hI4 _) (by first | exact HF4.out.B.big | exact (HF4.out.alloc _).B.big) (by omega) (by omega) HY.out).mono ?_; rintro _ W5 ⟨v5, rfl, hI5, hb5⟩
             have HF5 : Hid (FS2 w W5 g l g5 y A3 c3) := Lib.hid (by first | exact HF4.out.after hb5 | exact (HF4.out.alloc _).after hb5)
             (try have S5 := Lib.hid ((es_new HF4.out).after hb5))
             (try have S5 := Lib.hid (S4.out.after hb5))
             (try (have e0 := S5.out.e0; have e1 := S5.out.e1; have e2 := S5.out.e2; have e3 := S5.out.e3; have f0 := S5.out.fr 0; have f1 := S5.out.fr 1; have f2 := S5.out.fr 2; have f3 := S5.out.fr 3))
             obtain ⟨Z, E, hsm, A5, c5, A6, c6, rfl, R5, R6⟩ := make_small hI5 hl4 hyl HY.out
             have HSM := Lib.hid hsm
             clear hI5 hb5 hI4 hI4b hsm)
          | (go_at_call 35; refine (diceBig_any _ g l k3 (by first | exact dice_draw hD3 | exact dice_draw (dice_alloc hD3 _))).mono ?_; rintro _ W4 ⟨v4, x0, k4, rfl, hI4, hl4, hD4, hK4⟩
             have HF4 : Hid (FS2 w W4 g l g5 y A3 c3) := Lib.hid (by first | exact HF3.out.draw.pick hD4 hK4 | exact (HF3.out.alloc _).draw.pick hD4 hK4)
             (try have S4 := Lib.hid (((es_new HF3.out).draw).pick hK4 HF3.out.S.lt))
             clear hD4 hK4))
      all_goals (go_wp2_with fail; go_meet; first | exact ⟨_, Z, E, A5, c5, A6, c6, rfl, HSM.out, (es_put HF5.out.S S5.out R5 R6).1, (es_put HF5.out.S S5.out R5 R6).2⟩ | exact ⟨_, Z, E, A5, c5, A6, c6, rfl, HSM.out, HF5.out.S.alloc _, fat_new R5 R6⟩)
    case rest =>
    obtain ⟨g4, Z, E, A4, c4, A5, c5, rfl, hsm, ST, FT⟩ := hcut
    have HSM := Lib.hid hsm
    clear hsm HF3 HY hyl
    obtain ⟨k9, hE⟩ := ST.filled FT.R FT.S _ rfl
    have HE := Lib.hid hE
    have r0 := ST.r0
    have r1 := ST.r1
    have r2 := ST.r2
    have r3 := ST.r3
    have f0 := ST.fr 0
    have f1 := ST.fr 1
    have f2 := ST.fr 2
    have f3 := ST.fr 3
    have t0 := FT.c0
    have t1 := FT.c1
    have t2 := FT.c2
    have t3 := FT.c3
    clear ST FT hE
    go_wp2_with fail
    (try simp only [Exit.inBlock, Exit.then])
    refine bodyPost_ret (results_frac1 rfl _ _ w.heap.size rfl HE.out.2.2.2.1 HE.out.2.2.2.2.1 HE.out.2.2.2.2.2.1 HE.out.2.2.2.2.2.2) rfl ?_
    exact ⟨_, Z, E, k9, rfl, HE.out.1, HSM.out, HE.out.2.1, HE.out.2.2.1⟩

end Go.Proofs.YtbeidpeoichakaaGreatDoor.ji
