/- The mill's Words, Texts and Query. -/
import Derived.Test.YtgmnjiiommbjaaaMill
import Derived.Test.YtgmnjiiommbjaaaBu
set_option linter.unusedVariables false
set_option linter.unusedSimpArgs false
namespace Go.Proofs.Ytgmnjiiommbjaaa.tx
open Go.RowKit Go.Proofs.Ytgmnjiiommbjaaa.txt Go.Proofs.Ytgmnjiiommbjaaa.mill

set_option maxRecDepth 100000 in
set_option maxHeartbeats 1000000 in
theorem words_any (w : World) : Calls Try.prog 33 #[] w fun e w' => ∃ g, e = .returned (.slice (some ⟨g, 0, none⟩) 16 16) ∧ (∀ j, j < 16 → ∃ x : List UInt8, w'.cell? ⟨g, j, none⟩ = some (.string ⟨x.toArray⟩)) ∧ w.heap.size ≤ g ∧ g < w'.heap.size ∧ Below w.heap.size w w' := by
  go_enter Try.func33, Try.ntmps33
  go_wp2
  go_ret
  refine ⟨w.heap.size, rfl, fun j hj => ?_, Nat.le_refl _, by simp, (Below.refl _ w).alloc (Nat.le_refl _) _⟩
  simp only [World.cell?, heap_alloc_new, Option.isSome_none, Bool.false_eq_true, if_false]
  have h : ∀ (cs : Array Value), (∀ v ∈ cs.toList, ∃ x : List UInt8, v = .string ⟨x.toArray⟩) → j < cs.size → ∃ x : List UInt8, cs[j]? = some (.string ⟨x.toArray⟩) := by
    intro cs hc hs
    obtain ⟨x, hx⟩ := hc cs[j] (by simp)
    exact ⟨x, by rw [Array.getElem?_eq_getElem hs, hx]⟩
  refine h _ ?_ hj
  intro v hv
  simp at hv
  rcases hv with rfl | rfl | rfl | rfl | rfl | rfl | rfl | rfl | rfl | rfl | rfl | rfl | rfl | rfl | rfl | rfl <;> exact ⟨_, rfl⟩

/-- the value lies in another block -/
def NotAt (g : Nat) (v : Value) : Prop := ∀ b off n c, v = .slice (some ⟨b, off, none⟩) n c → b ≠ g
theorem notAt_of {w : World} {B g n : Nat} {v : Value} {xs : List Value} (h : w.ownsRow B 9 1 v n xs) (hg : g < B) : NotAt g v := by
  intro b off k c e
  subst e
  rcases h.2 with ⟨he, _⟩ | ⟨g', cap, cur, he, hB, _⟩
  · cases he
  · cases he; omega

set_option maxRecDepth 100000 in
set_option maxHeartbeats 2000000 in
theorem texts_any (w : World) (g : Nat) (l : List Nat) (k most : Nat) (D : DiceAt w g l k) (hm : most ≤ 100) :
    Calls Try.prog 32 #[.pointer (some ⟨g, 0, none⟩), .int .i64 (most : Int)] w fun e w' => ∃ v xs k', e = .returned v ∧ Strs w' w'.heap.size v xs ∧ xs.length ≤ most ∧ DiceAt w' g l k' ∧ Kept g w w' ∧ NotAt g v := by
  obtain ⟨i0, hi, hz0, hz1, hz2⟩ := info_parts tok.info_str
  have hgl := D.lt
  have e3 : IntKind.i64.wrap ((most : Int) + 1) = (most : Int) + 1 := IntWalk.i64_in _ (by omega)
  go_enter Try.func32, Try.ntmps32
  go_wp2_with fail
  have e1 : ((most : Int) + 1) = ((most + 1 : Nat) : Int) := by omega
  rw [e1]
  refine (pick_some w g (most + 1) l k D (by omega) (by omega)).mono ?_
  rintro _ w1 ⟨n0, k1, rfl, hn0, D1, K1⟩
  clear e1 e3
  go_wp2_with fail
  go_loopw [5, 6] (fun v nn wr => ∃ (n : Nat) (xs : List (List UInt8)) (k : Nat), nn = .int .i64 (n : Int) ∧ n + xs.length ≤ most ∧ wr.ownsRow w.heap.size 9 1 v xs.length (xs.map encStr) ∧ DiceAt wr g l k ∧ Kept g w wr) (fun _ nn _ => (intOf nn).toNat)
  case atStart => exact ⟨n0, [], k1, rfl, by simp; omega, World.ownsRow_nil _ _ _ _, D1, K1⟩
  case round =>
    obtain ⟨n, xs, k2, rfl, hx, hown, D2, K2⟩ := hrel
    cases n with
    | zero =>
      rw [show ((0 : Nat) : Int) = 0 from rfl]
      have HO := Lib.hid hown
      clear hown
      go_wp2
      go_ret
      exact ⟨_, xs, k2, rfl, strs_of_owns HO.out, by omega, D2, K2, notAt_of HO.out hgl⟩
    | succ n =>
      have e2 : ((n + 1 : Nat) : Int) = (n : Int) + 1 := by omega
      rw [e2]
      have HD := Lib.hid (And.intro D2 (And.intro K2 hown))
      clear D2 K2 hown
      go_wp2_with fail
      refine (words_any _).mono ?_
      rintro _ w3 ⟨g3, rfl, hc3, hg3, hl3, b3⟩
      have H3 := Lib.hid (And.intro hc3 b3)
      clear hc3 b3
      go_wp2_with fail
      refine (words_any _).mono ?_
      rintro _ w4 ⟨g4, rfl, _, hg4, hl4, b4⟩
      have D4 := (HD.out.1.after H3.out.2).after b4
      go_wp2_with fail
      refine (pick_some w4 g 16 l k2 D4 (by omega) (by omega)).mono ?_
      rintro _ w5 ⟨p, k5, rfl, hp, D5, K5⟩
      obtain ⟨x, hxc⟩ := H3.out.1 p hp
      have hd2 := HD.out.1.lt
      have hk2 := HD.out.2.1.bel.size
      have hs4 := b4.size
      have hs5 := K5.bel.size
      have cx : w5.cell? ⟨g3, p, none⟩ = some (.string ⟨x.toArray⟩) := (K5.cell (p := ⟨g3, p, none⟩) (by show g3 < _; omega) (by show g3 ≠ g; omega)).trans ((b4.cell (p := ⟨g3, p, none⟩) hl3).trans hxc)
      have hk1 := HD.out.2.1.bel.size
      have Kw : Kept g wr w5 := (Kept.of_below (H3.out.2.trans (b4.mono (by omega))) (by omega)).trans K5
      have K24 : Kept g w w5 := HD.out.2.1.trans Kw
      have hown5 := Kw.own (by omega : g < w.heap.size) HD.out.2.2
      have hws : w.heap.size ≤ w5.heap.size := by omega
      have HK := Lib.hid (And.intro D5 (And.intro K24 Kw))
      clear D5 K24 Kw K5 b4 D4 hxc
      go_wp2_with (at_builtin; refine wpList_append_lies _ (by rfl) _ _ 25 (by rfl) w.heap.size 9 i0 _ 1 16 Try.underlying25 hi hz0 hz1 hz2 rfl (by omega) _ xs.length (xs.map encStr) (by rfl) (hown5.alloc _) ⟨w5.heap.size, 0, none⟩ 1 1 [encStr x] (by rfl) (by rfl) (World.news_of_block (cs := #[encStr x]) (t := 9) (fr := (0, 0)) (heap_alloc_new w5 _)) (by simp [Value.oneCell', encStr]) (by omega) (by unfold maxLen; omega) (by omega) (by simp; omega) (w5.heap.size + 1) (by simp) ?_; intro g7 cap7 w7 hown7 hgrow7 hat7 hlt7)
      have hb57 : Below w.heap.size w5 w7 := ((Below.refl w.heap.size w5).alloc hws _).grown hgrow7 (by simp; omega) (fun j e => (hown5.lt j e).1)
      have D7 := HK.out.1.high hb57 hgl
      have K7 : Kept g w w7 := ⟨HK.out.2.1.bel.trans (hb57.mono (by omega)), fun j hj hn => (hb57.block j hj).trans (HK.out.2.1.other j hj hn), fun p k hp hc => (hb57.cell hp).trans (HK.out.2.1.words p k hp hc)⟩
      exact ⟨⟨n, xs ++ [x], k5, by exact congrArg _ (by omega), by simp; omega, by rw [List.length_append, List.map_append, List.map_cons, List.map_nil]; exact hown7, D7, K7⟩, by simp [intOf] <;> omega⟩

set_option maxRecDepth 100000 in
set_option maxHeartbeats 1000000 in
theorem query_any (w : World) (g : Nat) (l : List Nat) (k most : Nat) (D : DiceAt w g l k) (hm : most ≤ 100) :
    Calls Try.prog 25 #[.pointer (some ⟨g, 0, none⟩), .int .i64 (most : Int)] w fun e w' => ∃ v xs k', e = .returned v ∧ Strs w' w'.heap.size v xs ∧ xs.length ≤ most ∧ DiceAt w' g l k' ∧ Kept g w w' := by
  have hgl := D.lt
  go_enter Try.func25, Try.ntmps25
  go_wp2_with fail
  refine (texts_any w g l k most D hm).mono ?_
  rintro _ w1 ⟨v1, xs, k1, rfl, hS, hl, D1, K1, _⟩
  go_wp2_with fail
  refine (refSet_any v1 xs w1 hS (by omega)).mono ?_
  rintro _ w2 ⟨v2, rfl, hS2, b2⟩
  have D2 := D1.after b2
  have K2 := K1.trans (Kept.of_below b2 (by have := D1.lt; omega))
  go_wp2
  go_ret
  exact ⟨_, setOf xs, k1, rfl, hS2, Nat.le_trans (setOf_length xs) hl, D2, K2⟩
end Go.Proofs.Ytgmnjiiommbjaaa.tx
