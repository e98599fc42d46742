/- The mill's Big. -/
import Derived.Test.YtbeidpeoichakaaDoorMill
import Derived.Test.YtbeidpeoichakaaDoorFu
import Derived.Test.YtbeidpeoichakaaDoorFy
set_option linter.unusedSimpArgs false
namespace Go.Proofs.YtbeidpeoichakaaDoor.hh
open Go.RowKit Go.Proofs.YtbeidpeoichakaaDoor.fm Go.Proofs.YtbeidpeoichakaaDoor.mem Go.Proofs.YtbeidpeoichakaaDoor.fu Go.Proofs.YtbeidpeoichakaaDoor.fv Go.Proofs.YtbeidpeoichakaaDoor.fy Go.Proofs.YtbeidpeoichakaaDoor.fz Go.Proofs.YtbeidpeoichakaaDoor.mill

theorem Rd.kept {g : Nat} {w w' : World} {A : Option Addr} {c : Nat} {l : List Nat} (R : Rd w w.heap.size A c l) (h : Kept g w w') : Rd w' w'.heap.size A c l :=
  ⟨R.ok, R.fit, fun hn => by
    obtain ⟨b, off, e, hb, hc⟩ := R.cells hn
    exact ⟨b, off, e, Nat.lt_of_lt_of_le hb h.bel.size, fun j hj => h.words _ _ hb (hc j hj)⟩⟩

theorem isBig_kept {g : Nat} {w w' : World} {v : Value} {z : Int} (hI : IsBig w v z) (h : Kept g w w') : IsBig w' v z := by
  obtain ⟨A, c, e, R⟩ := hI
  exact ⟨A, c, e, Rd.kept R h⟩

/-- What holds while the mill makes a big integer. -/
structure BState (w W : World) (g : Nat) (l : List Nat) (v : Value) (L : List Nat) : Prop where
  D : ∃ k, DiceAt W g l k
  K : Kept g w W
  lt : g < w.heap.size
  size : w.heap.size < W.heap.size
  r0 : W.cell? ⟨w.heap.size, 0, none⟩ = some (.bool false)
  r1 : W.cell? ⟨w.heap.size, 1, none⟩ = some (.slice none 0 0)
  fr : ∀ k, W.frozen? ⟨w.heap.size, k, none⟩ = false
  own : Owns (w.heap.size + 1) W v L
  okL : ok L

/-- after a pick -/
theorem BState.pick {w W W' : World} {g : Nat} {l : List Nat} {v : Value} {L : List Nat} {k : Nat} (S : BState w W g l v L) (hD : DiceAt W' g l k) (hK : Kept g W W') : BState w W' g l v L := by
  have hne : w.heap.size ≠ g := by have := S.lt; omega
  exact ⟨⟨k, hD⟩, S.K.trans hK, S.lt, Nat.lt_of_lt_of_le S.size hK.bel.size, (hK.cell S.size hne).trans S.r0, (hK.cell S.size hne).trans S.r1, fun k => (hK.fr S.size hne).trans (S.fr k), hK.own (by have := S.lt; omega) S.own, S.okL⟩

/-- after what lies behind the box -/
theorem BState.high {w W W' : World} {g : Nat} {l : List Nat} {v : Value} {L : List Nat} {v' : Value} {L' : List Nat} (S : BState w W g l v L) (h : Below (w.heap.size + 1) W W') (hown : Owns (w.heap.size + 1) W' v' L') (hok : ok L') : BState w W' g l v' L' := by
  have hb : w.heap.size < w.heap.size + 1 := by omega
  have hlt := S.lt
  obtain ⟨k, hD⟩ := S.D
  exact ⟨⟨k, DiceAt.high hD h (by omega)⟩, S.K.then_below (h.mono (by omega)) (by omega), S.lt, Nat.lt_of_lt_of_le S.size h.size, (h.cell hb).trans S.r0, (h.cell hb).trans S.r1, fun k => (below_frozen h hb).trans (S.fr k), hown, hok⟩

theorem own_alloc {base : Nat} {w : World} {v : Value} {l : List Nat} (h : Owns base w v l) (o : Obj) : Owns base (w.alloc o) v l := by
  obtain ⟨h1, h2⟩ := h
  refine ⟨h1, ?_⟩
  rcases h2 with h2 | ⟨b, cap, cur, hv, hbb, hg, r⟩
  · exact Or.inl h2
  · exact Or.inr ⟨b, cap, cur, hv, hbb, by rw [Below.heap_alloc w o b (Array.getElem?_eq_some_iff.1 hg).1]; exact hg, r⟩

theorem BState.alloc {w W : World} {g : Nat} {l : List Nat} {v : Value} {L : List Nat} (S : BState w W g l v L) (o : Obj) : BState w (W.alloc o) g l v L :=
  S.high ((Below.refl _ _).alloc S.size o) (own_alloc S.own o) S.okL

/-- the box, filled -/
theorem big_end {w W : World} {g : Nat} {l : List Nat} {v : Value} {L : List Nat} {A : Option Addr} {c n : Nat} {neg : Bool} (S : BState w W g l v L) (R : Rd W W.heap.size A c L) (hn : n ≤ L.length) (hz : n = 0 ∨ L.getD (n - 1) 0 ≠ 0) (hneg : n = 0 → neg = false) (hL : L.length ≤ 4)
    (w' : World) (hw : w' = (W.setCell ⟨w.heap.size, 0, none⟩ (.bool neg)).setCell ⟨w.heap.size, 1, none⟩ (.slice A n c)) :
    ∃ z k, IsBig w' (.agg #[.bool neg, .slice A n c]) z ∧ (digs z.natAbs).length ≤ 4 ∧ DiceAt w' g l k ∧ Kept g w w' ∧ w'.cell? ⟨w.heap.size, 0, none⟩ = some (.bool neg) ∧ w'.cell? ⟨w.heap.size, 1, none⟩ = some (.slice A n c) := by
  subst hw
  obtain ⟨k, hD⟩ := S.D
  have hlt := S.lt
  have hd := take_digs S.okL hn hz
  have hlen : (L.take n).length = n := by rw [List.length_take]; omega
  have hb : Below w.heap.size W ((W.setCell ⟨w.heap.size, 0, none⟩ (.bool neg)).setCell ⟨w.heap.size, 1, none⟩ (.slice A n c)) :=
    ((Below.refl _ _).setCell (p := ⟨w.heap.size, 0, none⟩) (Nat.le_refl _) _).setCell (p := ⟨w.heap.size, 1, none⟩) (Nat.le_refl _) _
  have e1 : (W.setCell ⟨w.heap.size, 0, none⟩ (.bool neg)).cell? ⟨w.heap.size, 1, none⟩ = some (.slice none 0 0) := (World.cell?_setCell_other _ _ _ _ (by intro h; cases h)).trans S.r1
  have R1 : Rd (W.setCell ⟨w.heap.size, 0, none⟩ (.bool neg)) W.heap.size A c (L.take n) := rd_set (R.cut n) (ni_bool S.r0)
  have R2 := rd_set (v := .slice A n c) R1 (ni_slice e1)
  refine ⟨sgnd neg (val (L.take n)), k, ⟨A, c, ?_, ?_⟩, ?_, DiceAt.high hD hb hlt, S.K.then_below hb (Nat.le_of_lt hlt), ?_, ?_⟩
  · rw [sgnd_abs, hd, hlen]
    by_cases h0 : n = 0
    · rw [hneg h0, h0]; rfl
    · rw [sgnd_neg]
      intro hv
      have := digs_len_zero.2 hv
      rw [hd, hlen] at this
      exact h0 this
  · rw [sgnd_abs, hd]; exact R2.more (by simp)
  · rw [sgnd_abs, hd, hlen]; omega
  · exact (World.cell?_setCell_other _ _ _ _ (by intro h; cases h)).trans (World.cell?_setCell_same _ _ _ S.r0)
  · exact World.cell?_setCell_same _ _ _ e1

end Go.Proofs.YtbeidpeoichakaaDoor.hh
