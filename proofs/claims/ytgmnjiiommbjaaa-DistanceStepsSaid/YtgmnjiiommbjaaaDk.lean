/- The mill's Words and Texts: what its words are. -/
import Derived.Test.YtgmnjiiommbjaaaBy
import Derived.Test.YtgmnjiiommbjaaaDh
set_option linter.unusedVariables false
set_option linter.unusedSimpArgs false
namespace Go.Proofs.Ytgmnjiiommbjaaa.dist
open Go.RowKit Go.Proofs.Ytgmnjiiommbjaaa.txt Go.Proofs.Ytgmnjiiommbjaaa.mill Go.Proofs.Ytgmnjiiommbjaaa.tx

/-- well-formed: bytes below 128, and the letter of two bytes that the words have -/
def good : List UInt8 → Bool
  | [] => true
  | b :: r => if b.toNat < 128 then good r else match r with
    | [] => false
    | c :: r' => b == 195 && (c == 188 && good r')
/-- a word: short, with a token, well-formed -/
def wq (x : List UInt8) : Bool := decide (x.length ≤ 20) && ((x.map fold.low).any tok.inTok && good x)
def wv : Value → Bool
  | .string s => wq s.data.toList
  | _ => false

set_option maxRecDepth 100000 in
set_option maxHeartbeats 1000000 in
theorem wordsQ_any (w : World) : Calls Try.prog 33 #[] w fun e w' => ∃ g, e = .returned (.slice (some ⟨g, 0, none⟩) 16 16) ∧ (∀ j, j < 16 → ∃ x : List UInt8, w'.cell? ⟨g, j, none⟩ = some (.string ⟨x.toArray⟩) ∧ wq x = true) ∧ w.heap.size ≤ g ∧ g < w'.heap.size ∧ Below w.heap.size w w' := by
  go_enter Try.func33, Try.ntmps33
  go_wp2
  go_ret
  refine ⟨w.heap.size, rfl, fun j hj => ?_, Nat.le_refl _, by simp, (Below.refl _ w).alloc (Nat.le_refl _) _⟩
  simp only [World.cell?, heap_alloc_new, Option.isSome_none, Bool.false_eq_true, if_false]
  have h : ∀ (cs : Array Value), cs.toList.all wv = true → j < cs.size → ∃ x : List UInt8, cs[j]? = some (.string ⟨x.toArray⟩) ∧ wq x = true := by
    intro cs hc hs
    have h1 := List.all_eq_true.1 hc cs[j] (by simp)
    rw [Array.getElem?_eq_getElem hs]
    cases e : cs[j] with
    | string s => rw [e] at h1; exact ⟨s.data.toList, rfl, h1⟩
    | _ => rw [e] at h1; cases h1
  refine h _ ?_ hj
  decide

set_option maxRecDepth 100000 in
set_option maxHeartbeats 2000000 in
theorem textsQ_any (w : World) (g : Nat) (l : List Nat) (k most : Nat) (D : DiceAt w g l k) (hm : most ≤ 100) :
    Calls Try.prog 32 #[.pointer (some ⟨g, 0, none⟩), .int .i64 (most : Int)] w fun e w' => ∃ v xs k', e = .returned v ∧ Strs w' w'.heap.size v xs ∧ xs.length ≤ most ∧ DiceAt w' g l k' ∧ Kept g w w' ∧ NotAt g v ∧ ∀ x ∈ xs, wq x = true := by
  obtain ⟨i0, hi, hz0, hz1, hz2⟩ := info_parts tok.info_str
  have hgl := D.lt
  have e3 : IntKind.i64.wrap ((most : Int) + 1) = (most : Int) + 1 := IntWalk.i64_in _ (by omega)
  go_enter Try.func32, Try.ntmps32
  go_wp2_with fail
  have e1 : ((most : Int) + 1) = ((most + 1 : Nat) : Int) := by omega
  rw [e1]
  refine (pick_some w g (most + 1) l k D (by omega) (by omega)).mono ?_
  rintro _ w1 ⟨n0, k1, rfl, hn0, D1, K1⟩
  clear e1 e3
  go_wp2_with fail
  go_loopw [5, 6] (fun v nn wr => ∃ (n : Nat) (xs : List (List UInt8)) (k : Nat), nn = .int .i64 (n : Int) ∧ n + xs.length ≤ most ∧ wr.ownsRow w.heap.size 9 1 v xs.length (xs.map encStr) ∧ DiceAt wr g l k ∧ Kept g w wr ∧ Hid (∀ x ∈ xs, wq x = true)) (fun _ nn _ => (intOf nn).toNat)
  case atStart => exact ⟨n0, [], k1, rfl, by simp; omega, World.ownsRow_nil _ _ _ _, D1, K1, Lib.hid (by simp)⟩
  case round =>
    obtain ⟨n, xs, k2, rfl, hx, hown, D2, K2, hQ⟩ := hrel
    cases n with
    | zero =>
      rw [show ((0 : Nat) : Int) = 0 from rfl]
      have HO := Lib.hid hown
      clear hown
      go_wp2
      go_ret
      exact ⟨_, xs, k2, rfl, strs_of_owns HO.out, by omega, D2, K2, notAt_of HO.out hgl, hQ.out⟩
    | succ n =>
      have e2 : ((n + 1 : Nat) : Int) = (n : Int) + 1 := by omega
      rw [e2]
      have HD := Lib.hid (And.intro D2 (And.intro K2 hown))
      clear D2 K2 hown
      go_wp2_with fail
      refine (wordsQ_any _).mono ?_
      rintro _ w3 ⟨g3, rfl, hc3, hg3, hl3, b3⟩
      have H3 := Lib.hid (And.intro hc3 b3)
      clear hc3 b3
      go_wp2_with fail
      refine (wordsQ_any _).mono ?_
      rintro _ w4 ⟨g4, rfl, _, hg4, hl4, b4⟩
      have D4 := (HD.out.1.after H3.out.2).after b4
      go_wp2_with fail
      refine (pick_some w4 g 16 l k2 D4 (by omega) (by omega)).mono ?_
      rintro _ w5 ⟨p, k5, rfl, hp, D5, K5⟩
      obtain ⟨x, hxc, hxq⟩ := H3.out.1 p hp
      have hQ2 : Hid (∀ y ∈ xs ++ [x], wq y = true) := Lib.hid fun y hy => by
        rcases List.mem_append.1 hy with h | h
        · exact hQ.out y h
        · rw [List.mem_singleton.1 h]; exact hxq
      clear hxq
      have hd2 := HD.out.1.lt
      have hk2 := HD.out.2.1.bel.size
      have hs4 := b4.size
      have hs5 := K5.bel.size
      have cx : w5.cell? ⟨g3, p, none⟩ = some (.string ⟨x.toArray⟩) := (K5.cell (p := ⟨g3, p, none⟩) (by show g3 < _; omega) (by show g3 ≠ g; omega)).trans ((b4.cell (p := ⟨g3, p, none⟩) hl3).trans hxc)
      have hk1 := HD.out.2.1.bel.size
      have Kw : Kept g wr w5 := (Kept.of_below (H3.out.2.trans (b4.mono (by omega))) (by omega)).trans K5
      have K24 : Kept g w w5 := HD.out.2.1.trans Kw
      have hown5 := Kw.own (by omega : g < w.heap.size) HD.out.2.2
      have hws : w.heap.size ≤ w5.heap.size := by omega
      have HK := Lib.hid (And.intro D5 (And.intro K24 Kw))
      clear D5 K24 Kw K5 b4 D4 hxc
      go_wp2_with (at_builtin; refine wpList_append_lies _ (by rfl) _ _ 25 (by rfl) w.heap.size 9 i0 _ 1 16 Try.underlying25 hi hz0 hz1 hz2 rfl (by omega) _ xs.length (xs.map encStr) (by rfl) (hown5.alloc _) ⟨w5.heap.size, 0, none⟩ 1 1 [encStr x] (by rfl) (by rfl) (World.news_of_block (cs := #[encStr x]) (t := 9) (fr := (0, 0)) (heap_alloc_new w5 _)) (by simp [Value.oneCell', encStr]) (by omega) (by unfold maxLen; omega) (by omega) (by simp; omega) (w5.heap.size + 1) (by simp) ?_; intro g7 cap7 w7 hown7 hgrow7 hat7 hlt7)
      have hb57 : Below w.heap.size w5 w7 := ((Below.refl w.heap.size w5).alloc hws _).grown hgrow7 (by simp; omega) (fun j e => (hown5.lt j e).1)
      have D7 := HK.out.1.high hb57 hgl
      have K7 : Kept g w w7 := ⟨HK.out.2.1.bel.trans (hb57.mono (by omega)), fun j hj hn => (hb57.block j hj).trans (HK.out.2.1.other j hj hn), fun p k hp hc => (hb57.cell hp).trans (HK.out.2.1.words p k hp hc)⟩
      exact ⟨⟨n, xs ++ [x], k5, by exact congrArg _ (by omega), by simp; omega, by rw [List.length_append, List.map_append, List.map_cons, List.map_nil]; exact hown7, D7, K7, hQ2⟩, by simp [intOf] <;> omega⟩

theorem wq_len {x : List UInt8} (h : wq x = true) : x.length ≤ 20 := by
  unfold wq at h
  simp only [Bool.and_eq_true, decide_eq_true_eq] at h
  exact h.1
theorem wq_tok {x : List UInt8} (h : wq x = true) : (x.map fold.low).any tok.inTok = true := by
  unfold wq at h
  simp only [Bool.and_eq_true] at h
  exact h.2.1
theorem wq_good {x : List UInt8} (h : wq x = true) : good x = true := by
  unfold wq at h
  simp only [Bool.and_eq_true] at h
  exact h.2.2
end Go.Proofs.Ytgmnjiiommbjaaa.dist
