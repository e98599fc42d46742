/- DistanceSteps: what lies in memory. -/
import Derived.Test.YtgmnjiiommbjaaaEb
import Derived.Test.YtgmnjiiommbjaaaEa
import Derived.Test.YtgmnjiiommbjaaaDz
import Derived.Test.YtgmnjiiommbjaaaDv
set_option linter.unusedVariables false
set_option linter.unusedSimpArgs false
namespace Go.Proofs.Ytgmnjiiommbjaaa.dist
open Go.RowKit Go.Proofs.Ytgmnjiiommbjaaa.txt Go.Proofs.Ytgmnjiiommbjaaa.tx Go.Proofs.Ytgmnjiiommbjaaa.mill Go.Proofs.Ytgmnjiiommbjaaa.lev Go.Proofs.Ytgmnjiiommbjaaa.fold Go.Proofs.Ytgmnjiiommbjaaa.pat

theorem tmod_lo (a n : Int) (h : 1 ≤ n) : -n < a.tmod n ∧ a.tmod n < n := by
  have h1 := Int.tmod_lt_of_pos a (show 0 < n by omega)
  have h2 := Int.tmod_lt_of_pos (-a) (show 0 < n by omega)
  rw [Int.neg_tmod] at h2
  omega
def modV (v n : Int) : Int := if v.tmod n < 0 then v.tmod n + n else v.tmod n
theorem modV_in (v n : Int) (h : 1 ≤ n) : 0 ≤ modV v n ∧ modV v n < n := by
  have := tmod_lo v n h
  unfold modV
  split <;> omega
set_option maxRecDepth 100000 in
theorem mod_at (w : World) (v n : Int) (_ : -9223372036854775808 ≤ v) (_ : v < 9223372036854775808) (hn : 1 ≤ n) (hn2 : n ≤ 1000000000) :
    Calls Try.prog 18 #[.int .i64 v, .int .i64 n] w fun e w' => e = .returned (.int .i64 (modV v n)) ∧ w = w' := by
  have hlo := tmod_lo v n hn
  have h3 : modV v n = if v.tmod n < 0 then v.tmod n + n else v.tmod n := rfl
  go_enter Try.func18, Try.ntmps18
  have h0 : (n == 0) = false := beq_eq_false_iff_ne.2 (by omega)
  have H3 := Lib.hid h3
  clear h3
  go_wp2_with fail
  · go_ret
    exact ⟨by first | (rw [H3.out, if_pos (by omega)]; done) | (rw [H3.out, if_pos (by omega)]; rfl), rfl⟩
  · go_ret
    exact ⟨by first | (rw [H3.out, if_neg (by omega)]; done) | (rw [H3.out, if_neg (by omega)]; rfl), rfl⟩

/-- a row of values in a block -/
structure Row (W : World) (g : Nat) (f : Nat → Value) (n : Nat) : Prop where
  lt : g < W.heap.size
  at' : ∀ j, j < n → W.cell? ⟨g, j, none⟩ = some (f j)
theorem Row.block {W W' : World} {g n : Nat} {f : Nat → Value} (h : Row W g f n) (hb : W'.heap[g]? = W.heap[g]?) (hs : W.heap.size ≤ W'.heap.size) : Row W' g f n :=
  ⟨Nat.lt_of_lt_of_le h.lt hs, fun j hj => (World.cell?_of_block (a := ⟨g, j, none⟩) hb).trans (h.at' j hj)⟩
theorem Row.after {W W' : World} {g n : Nat} {f : Nat → Value} (h : Row W g f n) (hb : Below W.heap.size W W') : Row W' g f n := h.block (hb.block g h.lt) hb.size
theorem Row.kept {W W' : World} {g d n : Nat} {f : Nat → Value} (h : Row W g f n) (K : Kept d W W') (hn : g ≠ d) : Row W' g f n := h.block (K.other g h.lt hn) K.bel.size
theorem row_new (W : World) (cs : Array Value) (t : TypeId) (f : Nat → Value) (n : Nat) (hf : ∀ j, j < n → cs[j]? = some (f j)) : Row (W.alloc (.cells cs t)) W.heap.size f n :=
  ⟨by simp, fun j hj => by rw [World.cell?_alloc_new]; exact hf j hj⟩

theorem Texts.kept {g : Nat} {w w' : World} {v : Value} {xs : List (List UInt8)} (h : Texts w w.heap.size v xs) (K : Kept g w w') (hn : xs ≠ [] → NotAt g v) : Texts w' w'.heap.size v xs := by
  rcases h with h | ⟨b, off, cap, rfl, h1, h2, hlt, hc⟩
  · exact .inl h
  · exact .inr ⟨b, off, cap, rfl, h1, h2, Nat.lt_of_lt_of_le hlt K.bel.size, fun j x hx => (K.cell (p := ⟨b, off + j, none⟩) hlt (hn (fun e => by rw [e] at hx; simp at hx) b off _ _ rfl)).trans (hc j x hx)⟩

/-- a row of pairs of texts -/
structure PRow (W : World) (gr : Nat) (es : Nat → List UInt8 × List UInt8) (n : Nat) : Prop where
  lt : gr < W.heap.size
  at' : ∀ k, k < n → W.cell? ⟨gr, k * 2, none⟩ = some (.string ⟨(es k).1.toArray⟩) ∧ W.cell? ⟨gr, k * 2 + 1, none⟩ = some (.string ⟨(es k).2.toArray⟩) ∧ (es k).1.length ≤ 100 ∧ (es k).2.length ≤ 100
theorem PRow.block {W W' : World} {g n : Nat} {es : Nat → List UInt8 × List UInt8} (h : PRow W g es n) (hb : W'.heap[g]? = W.heap[g]?) (hs : W.heap.size ≤ W'.heap.size) : PRow W' g es n :=
  ⟨Nat.lt_of_lt_of_le h.lt hs, fun k hk => ⟨(World.cell?_of_block (a := ⟨g, k * 2, none⟩) hb).trans (h.at' k hk).1, (World.cell?_of_block (a := ⟨g, k * 2 + 1, none⟩) hb).trans (h.at' k hk).2.1, (h.at' k hk).2.2⟩⟩
theorem PRow.after {W W' : World} {g n : Nat} {es : Nat → List UInt8 × List UInt8} (h : PRow W g es n) (hb : Below W.heap.size W W') : PRow W' g es n := h.block (hb.block g h.lt) hb.size
theorem PRow.kept {W W' : World} {g d n : Nat} {es : Nat → List UInt8 × List UInt8} (h : PRow W g es n) (K : Kept d W W') (hn : g ≠ d) : PRow W' g es n := h.block (K.other g h.lt hn) K.bel.size
theorem prow_new (W : World) (cs : Array Value) (t : TypeId) (es : Nat → List UInt8 × List UInt8) (n : Nat) (h : ∀ k, k < n → cs[k * 2]? = some (.string ⟨(es k).1.toArray⟩) ∧ cs[k * 2 + 1]? = some (.string ⟨(es k).2.toArray⟩) ∧ (es k).1.length ≤ 100 ∧ (es k).2.length ≤ 100) : PRow (W.alloc (.cells cs t)) W.heap.size es n :=
  ⟨by simp, fun k hk => ⟨by rw [World.cell?_alloc_new]; exact (h k hk).1, by rw [World.cell?_alloc_new]; exact (h k hk).2.1, (h k hk).2.2⟩⟩
/-- a pair of texts in a box of its own -/
structure PBox (W : World) (g : Nat) (a b : List UInt8) : Prop where
  lt : g < W.heap.size
  c0 : W.cell? ⟨g, 0, none⟩ = some (.string ⟨a.toArray⟩)
  c1 : W.cell? ⟨g, 1, none⟩ = some (.string ⟨b.toArray⟩)
theorem PBox.block {W W' : World} {g : Nat} {a b : List UInt8} (h : PBox W g a b) (hb : W'.heap[g]? = W.heap[g]?) (hs : W.heap.size ≤ W'.heap.size) : PBox W' g a b :=
  ⟨Nat.lt_of_lt_of_le h.lt hs, (World.cell?_of_block (a := ⟨g, 0, none⟩) hb).trans h.c0, (World.cell?_of_block (a := ⟨g, 1, none⟩) hb).trans h.c1⟩
theorem PBox.after {W W' : World} {g : Nat} {a b : List UInt8} (h : PBox W g a b) (hb : Below W.heap.size W W') : PBox W' g a b := h.block (hb.block g h.lt) hb.size
theorem PBox.kept {W W' : World} {g d : Nat} {a b : List UInt8} (h : PBox W g a b) (K : Kept d W W') (hn : g ≠ d) : PBox W' g a b := h.block (K.other g h.lt hn) K.bel.size
theorem PBox.held {W : World} {g : Nat} {a b : List UInt8} (h : PBox W g a b) : W.cell? ⟨g, 0, none⟩ = some (.string ⟨a.toArray⟩) ∧ W.cell? ⟨g, 1, none⟩ = some (.string ⟨b.toArray⟩) := ⟨h.c0, h.c1⟩
theorem pbox_new (W : World) (a b : List UInt8) (t : TypeId) : PBox (W.alloc (.cells #[.string ⟨a.toArray⟩, .string ⟨b.toArray⟩] t)) W.heap.size a b := ⟨by simp, by simp [go_sem], by simp [go_sem]⟩
theorem cat_x (a : List UInt8) : ((⟨a.toArray⟩ : ByteArray) ++ ⟨#[120]⟩) = ⟨(a ++ [120]).toArray⟩ := by
  apply ByteArray.ext
  rw [ByteArray.data_append]
  simp

/-- what the law carries along -/
structure St (w : World) (g : Nat) (l : List Nat) (R : Nat) (ra rb rc rd : Int) (xv yv : Value) (xs ys : List (List UInt8)) (W : World) : Prop where
  bel : Below w.heap.size w W
  dice : ∃ k, DiceAt W g l k
  rule : RuleC W R ra rb rc rd
  x : Texts W W.heap.size xv xs
  y : Texts W W.heap.size yv ys
  lo : w.heap.size ≤ R
  rg : R < g
  nx : xs ≠ [] → NotAt g xv
  ny : ys ≠ [] → NotAt g yv
section
variable {w W W' : World} {g R : Nat} {l : List Nat} {ra rb rc rd : Int} {xv yv : Value} {xs ys : List (List UInt8)}
theorem St.after (h : St w g l R ra rb rc rd xv yv xs ys W) (hb : Below W.heap.size W W') : St w g l R ra rb rc rd xv yv xs ys W' := by
  obtain ⟨k, D⟩ := h.dice
  exact ⟨h.bel.trans (hb.mono h.bel.size), ⟨k, D.after hb⟩, h.rule.after hb, h.x.to hb, h.y.to hb, h.lo, h.rg, h.nx, h.ny⟩
theorem St.kept {k : Nat} (h : St w g l R ra rb rc rd xv yv xs ys W) (D : DiceAt W' g l k) (K : Kept g W W') : St w g l R ra rb rc rd xv yv xs ys W' := by
  have h1 := h.lo
  have h2 := h.rg
  exact ⟨h.bel.trans (K.bel.mono (by omega)), ⟨k, D⟩, h.rule.block (K.other R h.rule.lt (by omega)) K.bel.size, h.x.kept K h.nx, h.y.kept K h.ny, h1, h2, h.nx, h.ny⟩
theorem St.draw (h : St w g l R ra rb rc rd xv yv xs ys W) : St w g l R ra rb rc rd xv yv xs ys W.drew := h.after (Below.refl _ _).drew
end
/-- a row of rules -/
structure QRow (W : World) (gq : Nat) (qs : Nat → Int × Int × Int × Int) (n : Nat) : Prop where
  lt : gq < W.heap.size
  at' : ∀ k, k < n → W.cell? ⟨gq, k * 4, none⟩ = some (.int .i64 (qs k).1) ∧ W.cell? ⟨gq, k * 4 + 1, none⟩ = some (.int .i64 (qs k).2.1) ∧ W.cell? ⟨gq, k * 4 + 2, none⟩ = some (.int .i64 (qs k).2.2.1) ∧ W.cell? ⟨gq, k * 4 + 3, none⟩ = some (.int .i64 (qs k).2.2.2)
theorem QRow.after {W W' : World} {g n : Nat} {qs : Nat → Int × Int × Int × Int} (h : QRow W g qs n) (hb : Below W.heap.size W W') : QRow W' g qs n := by
  have hk := hb.block g h.lt
  refine ⟨Nat.lt_of_lt_of_le h.lt hb.size, fun k hn => ?_⟩
  obtain ⟨h0, h1, h2, h3⟩ := h.at' k hn
  exact ⟨(World.cell?_of_block (a := ⟨g, k * 4, none⟩) hk).trans h0, (World.cell?_of_block (a := ⟨g, k * 4 + 1, none⟩) hk).trans h1, (World.cell?_of_block (a := ⟨g, k * 4 + 2, none⟩) hk).trans h2, (World.cell?_of_block (a := ⟨g, k * 4 + 3, none⟩) hk).trans h3⟩
theorem qrow_new (W : World) (cs : Array Value) (t : TypeId) (qs : Nat → Int × Int × Int × Int) (n : Nat) (h : ∀ k, k < n → cs[k * 4]? = some (.int .i64 (qs k).1) ∧ cs[k * 4 + 1]? = some (.int .i64 (qs k).2.1) ∧ cs[k * 4 + 2]? = some (.int .i64 (qs k).2.2.1) ∧ cs[k * 4 + 3]? = some (.int .i64 (qs k).2.2.2)) : QRow (W.alloc (.cells cs t)) W.heap.size qs n :=
  ⟨by simp, fun k hk => ⟨by rw [World.cell?_alloc_new]; exact (h k hk).1, by rw [World.cell?_alloc_new]; exact (h k hk).2.1, by rw [World.cell?_alloc_new]; exact (h k hk).2.2.1, by rw [World.cell?_alloc_new]; exact (h k hk).2.2.2⟩⟩
theorem ruleC_new (W : World) (a b c d : Int) (t : TypeId) : RuleC (W.alloc (.cells #[.int .i64 a, .int .i64 b, .int .i64 c, .int .i64 d] t)) W.heap.size a b c d := by
  refine ⟨?_, ?_, ?_, ?_, ?_, ?_, ?_, ?_, ?_⟩ <;> simp [go_sem]
theorem held6 {W : World} {gb gp : Nat} {a b c d : Int} {p q : List UInt8} (h : RuleC W gb a b c d ∧ PBox W gp p q) : W.cell? ⟨gb, 0, none⟩ = some (.int .i64 a) ∧ W.cell? ⟨gb, 1, none⟩ = some (.int .i64 b) ∧ W.cell? ⟨gb, 2, none⟩ = some (.int .i64 c) ∧ W.cell? ⟨gb, 3, none⟩ = some (.int .i64 d) ∧ W.cell? ⟨gp, 0, none⟩ = some (.string ⟨p.toArray⟩) ∧ W.cell? ⟨gp, 1, none⟩ = some (.string ⟨q.toArray⟩) :=
  ⟨h.1.c0, h.1.c1, h.1.c2, h.1.c3, h.2.c0, h.2.c1⟩

/-- a row of pairs of lists -/
structure TRow (W : World) (gt : Nat) (n : Nat) : Prop where
  lt : gt < W.heap.size
  at' : ∀ k, k < n → ∃ (a : Option Addr) (ca : Nat) (xs : List (List UInt8)) (b : Option Addr) (cb : Nat) (ys : List (List UInt8)), W.cell? ⟨gt, k * 2, none⟩ = some (.slice a xs.length ca) ∧ W.cell? ⟨gt, k * 2 + 1, none⟩ = some (.slice b ys.length cb) ∧
    Texts W W.heap.size (.slice a xs.length ca) xs ∧ Texts W W.heap.size (.slice b ys.length cb) ys ∧ xs.length ≤ 12 ∧ ys.length ≤ 12
theorem TRow.after {W W' : World} {g n : Nat} (h : TRow W g n) (hb : Below W.heap.size W W') : TRow W' g n := by
  have hk := hb.block g h.lt
  refine ⟨Nat.lt_of_lt_of_le h.lt hb.size, fun k hn => ?_⟩
  obtain ⟨a, ca, xs, b, cb, ys, h0, h1, X, Y, lx, ly⟩ := h.at' k hn
  exact ⟨a, ca, xs, b, cb, ys, (World.cell?_of_block (a := ⟨g, k * 2, none⟩) hk).trans h0, (World.cell?_of_block (a := ⟨g, k * 2 + 1, none⟩) hk).trans h1, X.to hb, Y.to hb, lx, ly⟩
theorem trow_new (W : World) (cs : Array Value) (t : TypeId) (n : Nat) (h : ∀ k, k < n → ∃ (a : Option Addr) (ca : Nat) (xs : List (List UInt8)) (b : Option Addr) (cb : Nat) (ys : List (List UInt8)), cs[k * 2]? = some (.slice a xs.length ca) ∧ cs[k * 2 + 1]? = some (.slice b ys.length cb) ∧
    Texts W W.heap.size (.slice a xs.length ca) xs ∧ Texts W W.heap.size (.slice b ys.length cb) ys ∧ xs.length ≤ 12 ∧ ys.length ≤ 12) : TRow (W.alloc (.cells cs t)) W.heap.size n := by
  have hb : Below W.heap.size W (W.alloc (.cells cs t)) := (Below.refl _ _).alloc (Nat.le_refl _) _
  refine ⟨by simp, fun k hk => ?_⟩
  obtain ⟨a, ca, xs, b, cb, ys, h0, h1, X, Y, lx, ly⟩ := h k hk
  exact ⟨a, ca, xs, b, cb, ys, by rw [World.cell?_alloc_new]; exact h0, by rw [World.cell?_alloc_new]; exact h1, X.to hb, Y.to hb, lx, ly⟩
theorem two_new (W : World) (a b : Value) (t : TypeId) : (W.alloc (.cells #[a, b] t)).cell? ⟨W.heap.size, 0, none⟩ = some a ∧ (W.alloc (.cells #[a, b] t)).cell? ⟨W.heap.size, 1, none⟩ = some b := by
  constructor <;> (rw [World.cell?_alloc_new]; rfl)

/-- what holds during a round over the pairs -/
structure Inv (g gp : Nat) (l : List Nat) (R : Nat) (ra rb rc rd : Int) (p q : List UInt8) (Iv : World → Prop) : Prop where
  after : ∀ {W W' : World}, Iv W → Below W.heap.size W W' → Iv W'
  kept : ∀ {W W' : World} {k : Nat}, Iv W → DiceAt W' g l k → Kept g W W' → Iv W'
  box : ∀ {W : World}, Iv W → PBox W gp p q
  dice : ∀ {W : World}, Iv W → ∃ k, DiceAt W g l k
  rule : ∀ {W : World}, Iv W → RuleC W R ra rb rc rd
theorem Inv.held {g gp : Nat} {l : List Nat} {R : Nat} {ra rb rc rd : Int} {p q : List UInt8} {Iv : World → Prop} (I : Inv g gp l R ra rb rc rd p q Iv) {W : World} (h : Iv W) : W.cell? ⟨gp, 0, none⟩ = some (.string ⟨p.toArray⟩) ∧ W.cell? ⟨gp, 1, none⟩ = some (.string ⟨q.toArray⟩) := (I.box h).held
theorem inv_of {w : World} {g R gr gp : Nat} {l : List Nat} {ra rb rc rd : Int} {xv yv : Value} {xs ys : List (List UInt8)} {es : Nat → List UInt8 × List UInt8} {p q : List UInt8} (h1 : g ≠ gr) (h2 : g ≠ gp) :
    Inv g gp l R ra rb rc rd p q (fun W => St w g l R ra rb rc rd xv yv xs ys W ∧ PRow W gr es 5 ∧ PBox W gp p q) :=
  ⟨fun h hb => ⟨h.1.after hb, h.2.1.after hb, h.2.2.after hb⟩, fun h D K => ⟨h.1.kept D K, h.2.1.kept K (fun e => h1 e.symm), h.2.2.kept K (fun e => h2 e.symm)⟩, fun h => h.2.2, fun h => h.1.dice, fun h => h.1.rule⟩
end Go.Proofs.Ytgmnjiiommbjaaa.dist
