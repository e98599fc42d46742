/- The mill's dice: New, Pick. -/
import Derived.Test.YtbeidpeoichakaaDoorProg
import Derived.WalkKit
import Derived.WalkSmall
import Derived.ProofKit
import Derived.OpenShut
import Derived.Lib.Hide
import Derived.Handy
import Derived.Laws.OwnMore
import Derived.Deep.QuietTactic
import Derived.BigQuiet
import Derived.StillTailTactics
set_option linter.unusedVariables false
set_option linter.unusedSimpArgs false
namespace Go.Proofs.YtbeidpeoichakaaDoor.mill
open Go.RowKit

/-- Seeds that lie below block B. -/
structure Seeds (w : World) (B : Nat) (A : Option Addr) (c : Nat) (l : List Nat) : Prop where
  ok : ∀ j, l.getD j 0 < 256
  fit : l.length ≤ c
  cells : 0 < l.length → ∃ b off, A = some ⟨b, off, none⟩ ∧ b < B ∧ ∀ j, j < l.length → w.cell? ⟨b, off + j, none⟩ = some (.int .u8 ((l.getD j 0 : Nat) : Int))

theorem Seeds.below {w w' : World} {B : Nat} {A : Option Addr} {c : Nat} {l : List Nat} (h : Seeds w B A c l) (hb : Below B w w') : Seeds w' B A c l :=
  ⟨h.ok, h.fit, fun hn => by
    obtain ⟨b, off, e, hlt, hc⟩ := h.cells hn
    exact ⟨b, off, e, hlt, fun j hj => (hb.cell (p := ⟨b, off + j, none⟩) hlt).trans (hc j hj)⟩⟩

theorem Seeds.more {w : World} {B B' : Nat} {A : Option Addr} {c : Nat} {l : List Nat} (h : Seeds w B A c l) (hB : B ≤ B') : Seeds w B' A c l :=
  ⟨h.ok, h.fit, fun hn => by
    obtain ⟨b, off, e, hlt, hc⟩ := h.cells hn
    exact ⟨b, off, e, Nat.lt_of_lt_of_le hlt hB, hc⟩⟩

theorem Seeds.cut {w : World} {B : Nat} {A : Option Addr} {c : Nat} {l : List Nat} (h : Seeds w B A c l) (k : Nat) : Seeds w B A c (l.take k) := by
  have hg : ∀ j, (l.take k).getD j 0 = if j < k then l.getD j 0 else 0 := by
    intro j
    rw [List.getD_eq_getElem?_getD, List.getD_eq_getElem?_getD, List.getElem?_take]
    split <;> rfl
  refine ⟨fun j => ?_, Nat.le_trans (by simp; omega) h.fit, fun hn => ?_⟩
  · rw [hg]
    split
    · exact h.ok j
    · decide
  · rw [List.length_take] at hn
    obtain ⟨b, off, e, hlt, hc⟩ := h.cells (by omega)
    refine ⟨b, off, e, hlt, fun j hj => ?_⟩
    rw [List.length_take] at hj
    rw [hc j (by omega), hg, if_pos (by omega)]

/-- The dice at block g: the seeds l lie below it, k of them are used. -/
structure DiceAt (w : World) (g : Nat) (l : List Nat) (k : Nat) : Prop where
  lt : g < w.heap.size
  s : ∃ A c, w.cell? ⟨g, 0, none⟩ = some (.slice A l.length c) ∧ Seeds w g A c l
  at' : w.cell? ⟨g, 1, none⟩ = some (.int .i64 (k : Int))
  fr : w.frozen? ⟨g, 1, none⟩ = false
  le : k ≤ l.length
  few : l.length ≤ 300

theorem DiceAt.after {w w' : World} {g : Nat} {l : List Nat} {k : Nat} (D : DiceAt w g l k) (h : Below w.heap.size w w') : DiceAt w' g l k := by
  obtain ⟨lt, ⟨A, c, h0, hS⟩, h1, h2, h3, h4⟩ := D
  exact ⟨Nat.lt_of_lt_of_le lt h.size, ⟨A, c, (h.cell lt).trans h0, hS.below (h.mono (Nat.le_of_lt lt))⟩, (h.cell lt).trans h1, (World.frozen?_of_block (h.block g lt)).trans h2, h3, h4⟩

theorem below_drewN {B : Nat} {w w' : World} (h : Below B w w') (k : Nat) : Below B w (w'.drewN k) := ⟨h.os, h.tape, h.output, h.size, h.block⟩

/-- What the dice at block g keep: all but block g, and all words. -/
structure Kept (g : Nat) (w w' : World) : Prop where
  bel : Below g w w'
  other : ∀ b, b < w.heap.size → b ≠ g → w'.heap[b]? = w.heap[b]?
  words : ∀ (p : Addr) (k : Int), p.block < w.heap.size → w.cell? p = some (.int .u32 k) → w'.cell? p = some (.int .u32 k)

theorem Kept.refl (g : Nat) (w : World) : Kept g w w := ⟨Below.refl _ _, fun _ _ _ => rfl, fun _ _ _ h => h⟩
theorem Kept.trans {g : Nat} {w w1 w2 : World} (h : Kept g w w1) (h' : Kept g w1 w2) : Kept g w w2 :=
  ⟨h.bel.trans h'.bel, fun b hb hn => (h'.other b (Nat.lt_of_lt_of_le hb h.bel.size) hn).trans (h.other b hb hn), fun p k hp hc => h'.words p k (Nat.lt_of_lt_of_le hp h.bel.size) (h.words p k hp hc)⟩
theorem Kept.of_below {g : Nat} {w w' : World} (h : Below w.heap.size w w') (hg : g ≤ w.heap.size) : Kept g w w' :=
  ⟨h.mono hg, fun b hb _ => h.block b hb, fun _ _ hp hc => (h.cell hp).trans hc⟩
theorem Kept.cell {g : Nat} {w w' : World} (h : Kept g w w') {p : Addr} (hp : p.block < w.heap.size) (hn : p.block ≠ g) : w'.cell? p = w.cell? p := World.cell?_of_block (h.other p.block hp hn)
theorem Kept.fr {g : Nat} {w w' : World} (h : Kept g w w') {p : Addr} (hp : p.block < w.heap.size) (hn : p.block ≠ g) : w'.frozen? p = w.frozen? p := World.frozen?_of_block (h.other p.block hp hn)
theorem Kept.own {g base n size : Nat} {w w' : World} {e : TypeId} {v : Value} {xs : List Value} (h : Kept g w w') (hb : g < base) (ho : w.ownsRow base e size v n xs) : w'.ownsRow base e size v n xs := by
  obtain ⟨h1, h2⟩ := ho
  refine ⟨h1, ?_⟩
  rcases h2 with h2 | ⟨b, cap, cur, hv, hbb, hg, r⟩
  · exact Or.inl h2
  · exact Or.inr ⟨b, cap, cur, hv, hbb, (h.other b (Array.getElem?_eq_some_iff.1 hg).1 (by omega)).trans hg, r⟩

theorem DiceAt.high {w w' : World} {g B : Nat} {l : List Nat} {k : Nat} (D : DiceAt w g l k) (h : Below B w w') (hg : g < B) : DiceAt w' g l k := by
  obtain ⟨lt, ⟨A, c, h0, hS⟩, h1, h2, h3, h4⟩ := D
  exact ⟨Nat.lt_of_lt_of_le lt h.size, ⟨A, c, (h.cell hg).trans h0, hS.below (h.mono (Nat.le_of_lt hg))⟩, (h.cell hg).trans h1, (World.frozen?_of_block (h.block g hg)).trans h2, h3, h4⟩

theorem Kept.then_below {g : Nat} {w w1 w2 : World} (h : Kept g w w1) (hb : Below w.heap.size w1 w2) (hg : g ≤ w.heap.size) : Kept g w w2 :=
  ⟨h.bel.trans (hb.mono hg), fun b hl hn => (hb.block b hl).trans (h.other b hl hn), fun p k hp hc => (hb.cell hp).trans (h.words p k hp hc)⟩

end Go.Proofs.YtbeidpeoichakaaDoor.mill
