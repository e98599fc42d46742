/- text.Set. -/
import Derived.Test.YtgmnjiiommbjaaaBs
import Derived.Test.YtgmnjiiommbjaaaShelf3
import Derived.Sort.OwnSorted
import Derived.Shelf.Sort.Plain
import Derived.Shelf.Slices.In.SortNone
import Derived.Shelf.Slices.CompactS
import Derived.Shelf.Slices.Clone
set_option linter.unusedVariables false
set_option linter.unusedSimpArgs false
namespace Go.Proofs.Ytgmnjiiommbjaaa.tx
open Go.RowKit Go.Proofs.Ytgmnjiiommbjaaa.txt Go.Sort

/-- a row that the call may write: at the head of a block of its own -/
def Row (w : World) (g : Nat) (xs : List (List UInt8)) : Prop := g < w.heap.size ∧ Holds encStr w g 0 xs.toArray

theorem row_of_owns {w : World} {B : Nat} {v : Value} {xs : List (List UInt8)} (h : w.ownsRow B 9 1 v xs.length (xs.map encStr)) (hn : v ≠ .slice none 0 0) :
    ∃ g cap, v = .slice (some ⟨g, 0, none⟩) xs.length cap ∧ B ≤ g ∧ Row w g xs ∧ xs.length ≤ cap := by
  rcases h.2 with ⟨rfl, _⟩ | ⟨g, cap, cur, rfl, hB, hg, hnc, hcm, hcs, ht⟩
  · exact absurd rfl hn
  · exact ⟨g, cap, rfl, hB, ⟨(Array.getElem?_eq_some_iff.1 hg).1, holds_of_block hg (by simpa using ht)⟩, hnc⟩

theorem clone_any (v : Value) (xs : List (List UInt8)) (w : World) (h : Strs w w.heap.size v xs) (hl : xs.length ≤ 1000000) :
    Calls Try.prog 45 #[v] w fun e w' => ∃ v', e = .returned v' ∧ ((v' = .slice none 0 0 ∧ xs = []) ∨ ∃ g cap, v' = .slice (some ⟨g, 0, none⟩) xs.length cap ∧ w.heap.size ≤ g ∧ Row w' g xs ∧ xs.length ≤ cap) ∧ Below w.heap.size w w' := by
  rcases h with ⟨rfl, a, cap, rfl⟩ | ⟨b, off, cap, rfl, hlt, hc⟩
  · cases a with
    | none =>
      refine (Any.slices_Clone_string_nil Try.lays2n16 0 cap w).mono ?_
      rintro e w' ⟨rfl, rfl⟩
      exact ⟨_, rfl, .inl ⟨rfl, rfl⟩, Below.refl _ _⟩
    | some ad =>
      refine (Any.slices_Clone_string_zero Try.lays2n16 ad cap w).mono ?_
      rintro e w' ⟨v', rfl, ho, hn, hb⟩
      exact ⟨v', rfl, .inr (row_of_owns (xs := []) ho hn), hb⟩
  · have main : Calls Try.prog 45 #[.slice (some ⟨b, off, none⟩) xs.length cap] w fun e w' => ∃ v', e = .returned v' ∧ w'.ownsRow w.heap.size 9 1 v' xs.length (xs.map encStr) ∧ v' ≠ .slice none 0 0 ∧ Below w.heap.size w w' := by
      by_cases h0 : xs.length = 0
      · obtain rfl := List.length_eq_zero_iff.1 h0
        exact Any.slices_Clone_string_zero Try.lays2n16 ⟨b, off, none⟩ cap w
      · refine (Any.slices_Clone_string Try.lays2n16 b off xs.length cap (xs.map fun x => ⟨x.toArray⟩) w (by simp) (by omega) ?_).mono ?_
        · intro j hj
          have hj' : j < xs.length := by simpa using hj
          rw [hc j _ (List.getElem?_eq_getElem hj')]
          simp [encStr, List.getD, hj']
        · rintro e w' ⟨v', rfl, ho, hn, hb⟩
          refine ⟨v', rfl, ?_, hn, hb⟩
          have : (List.take xs.length (xs.map fun x => (⟨x.toArray⟩ : ByteArray))).map Value.string = xs.map encStr := by
            rw [List.take_of_length_le (by simp)]
            simp [encStr]
          rw [← this]
          exact ho
    refine main.mono ?_
    rintro e w' ⟨v', rfl, ho, hn, hb⟩
    exact ⟨v', rfl, .inr (row_of_owns ho hn), hb⟩

theorem sort_any (g cap : Nat) (xs : List (List UInt8)) (w : World) (h : Row w g xs) (hl : xs.length ≤ 1000000) :
    Calls Try.prog 46 #[.slice (some ⟨g, 0, none⟩) xs.length cap] w fun e w' => e = .returned (.tuple #[]) ∧ Row w' g (xs.mergeSort fun x y => decide (x ≤ y)) ∧ w.grownBy w' (some g) := by
  refine (Any.slices_Sort_string Try.lays190 g 0 cap xs w h.2 h.1 (by omega)).mono ?_
  rintro e w' ⟨rfl, n, os, rfl⟩
  refine ⟨rfl, ⟨?_, ?_⟩, grownBy_sorted _⟩
  · have := h.1
    simp [grow, putRow, mapBlock, Sort.ahead]
    omega
  · refine holds_grow _ _ _ _ _ _ ?_ (holds_putRow encStr (Sort.ahead w n) g 0 xs.toArray _ (holds_ahead _ _ _ _ _ _ h.2) (by simp))
    have := h.1
    simpa [putRow, mapBlock, Sort.ahead] using this

theorem compact_any (g cap : Nat) (xs : List (List UInt8)) (w : World) (h : Row w g xs) (hl : xs.length ≤ 1000000) (hcap : xs.length ≤ cap) :
    Calls Try.prog 48 #[.slice (some ⟨g, 0, none⟩) xs.length cap] w fun e w' => e = .returned (.slice (some ⟨g, 0, none⟩) (Lib.compact xs).length cap) ∧
      Row w' g (Lib.compact xs ++ List.replicate (xs.length - (Lib.compact xs).length) []) ∧ w.grownBy w' (some g) := by
  have hcl : (Lib.compact xs).length ≤ xs.length := by
    unfold Lib.compact Lib.compactUpTo
    rw [List.length_map]
    refine Nat.le_trans (List.length_filter_le _ _) ?_
    rw [List.length_range]
    exact Nat.le_refl _
  refine (Any.slices_Compact_string Try.lays194 g 0 cap xs w h.2 (by omega) hcap).mono ?_
  rintro e w' ⟨rfl, q, rfl⟩
  refine ⟨rfl, ⟨?_, ?_⟩, ?_⟩
  · have := h.1
    simpa [putRow, mapBlock, Sort.ahead] using this
  · exact holds_putRow encStr (Sort.ahead w q) g 0 xs.toArray _ (holds_ahead _ _ _ _ _ _ h.2) (by simp; omega)
  · have := @grownBy_sorted w g q #[] (Lib.compact xs ++ List.replicate (xs.length - (Lib.compact xs).length) []).toArray
    rwa [grow_empty] at this

set_option maxRecDepth 100000 in
set_option maxHeartbeats 1000000 in
theorem clip_any (g n cap : Nat) (h : n ≤ cap) (hc : n ≤ 1000000) (w : World) :
    Calls Try.prog 47 #[.slice (some ⟨g, 0, none⟩) n cap] w fun e w' => e = .returned (.slice (some ⟨g, 0, none⟩) n n) ∧ w' = w := by
  go_enter Try.func47, Try.ntmps47
  go_wp2
  go_ret
  exact ⟨rfl, rfl⟩
set_option maxRecDepth 100000 in
set_option maxHeartbeats 1000000 in
theorem clip_nil (w : World) :
    Calls Try.prog 47 #[.slice none 0 0] w fun e w' => e = .returned (.slice none 0 0) ∧ w' = w := by
  go_enter Try.func47, Try.ntmps47
  go_wp2
  go_ret
  exact ⟨rfl, rfl⟩

theorem strs_of_row {w : World} {g : Nat} {xs ys : List (List UInt8)} (h : Row w g (xs ++ ys)) (B : Nat) (hB : g < B) : Strs w B (.slice (some ⟨g, 0, none⟩) xs.length xs.length) xs := by
  refine .inr ⟨g, 0, _, rfl, hB, fun j x hx => ?_⟩
  have hj : j < xs.length := (List.getElem?_eq_some_iff.1 hx).1
  have := (h.2 j (by simp; omega)).1
  rw [this]
  rw [List.getElem!_toArray, getElem!_def, List.getElem?_append_left hj, hx]

theorem setOf_nil : setOf [] = [] := List.length_eq_zero_iff.1 (Nat.le_zero.1 (setOf_length []))

theorem below_grown {B : Nat} {a b c : World} {g : Nat} (h : Below B a b) (hg : b.grownBy c (some g)) (hB : B ≤ g) (hs : B ≤ b.heap.size) : Below B a c :=
  h.grown hg hs (fun k e => by cases e; exact hB)

set_option maxRecDepth 100000 in
set_option maxHeartbeats 1000000 in
theorem set_cap (v : Value) (xs : List (List UInt8)) (w : World) (h : Strs w w.heap.size v xs) (hl : xs.length ≤ 1000000) :
    Calls Try.prog 36 #[v] w fun e w' => ∃ v', e = .returned v' ∧ Strs w' w'.heap.size v' (setOf xs) ∧ (∃ a, v' = .slice a (setOf xs).length (setOf xs).length) ∧ Below w.heap.size w w' := by
  go_enter Try.func36, Try.ntmps36
  go_wp2_with fail
  refine (clone_any v xs w h hl).mono ?_
  rintro _ w1 ⟨v1, rfl, ⟨rfl, rfl⟩ | ⟨g, cap, rfl, hg, hr1, hcap⟩, hb1⟩
  · go_wp2_with fail
    refine (Any.slices_Sort_string_none Try.lays190 none 0 w1).mono ?_
    rintro _ w2 ⟨rfl, rfl⟩
    go_wp2_with fail
    refine (Any.slices_Compact_string_empty Try.lays194 none 0 w2).mono ?_
    rintro _ w3 ⟨rfl, rfl⟩
    go_wp2_with fail
    refine (clip_nil w3).mono ?_
    rintro _ w4 ⟨rfl, rfl⟩
    go_wp2
    go_ret
    exact ⟨_, rfl, .inl ⟨setOf_nil, _, _, rfl⟩, ⟨none, by rw [setOf_nil]; rfl⟩, hb1⟩
  · by_cases h0 : xs.length = 0
    · obtain rfl := List.length_eq_zero_iff.1 h0
      go_wp2_with fail
      refine (Any.slices_Sort_string_none Try.lays190 (some ⟨g, 0, none⟩) cap w1).mono ?_
      rintro _ w2 ⟨rfl, rfl⟩
      go_wp2_with fail
      refine (Any.slices_Compact_string_empty Try.lays194 (some ⟨g, 0, none⟩) cap w2).mono ?_
      rintro _ w3 ⟨rfl, rfl⟩
      go_wp2_with fail
      refine (clip_any g 0 cap (Nat.zero_le _) (by omega) w3).mono ?_
      rintro _ w4 ⟨rfl, rfl⟩
      go_wp2
      go_ret
      exact ⟨.slice (some ⟨g, 0, none⟩) 0 0, rfl, by rw [setOf_nil]; exact .inr ⟨g, 0, 0, rfl, hr1.1, fun j x hx => by simp at hx⟩, ⟨_, by rw [setOf_nil]; rfl⟩, hb1⟩
    · obtain ⟨ys, hys⟩ : ∃ ys, ys = xs.mergeSort fun x y => decide (x ≤ y) := ⟨_, rfl⟩
      have hyl : ys.length = xs.length := by rw [hys]; simp
      have hset : setOf xs = Lib.compact ys := by rw [hys]; rfl
      have hsl := setOf_length xs
      rw [hset] at hsl
      have HS := Lib.hid hset
      have hb1z : w.heap.size ≤ w1.heap.size := hb1.size
      have hso := sort_any g cap xs w1 hr1 hl
      rw [← hys] at hso
      clear hys hset
      go_wp2_with fail
      refine hso.mono ?_
      rintro _ w2 ⟨rfl, hr2, hg2⟩
      have hb2 := below_grown hb1 hg2 hg hb1z
      have hcm := compact_any g cap ys w2 hr2 (by omega) (by omega)
      rw [hyl] at hcm
      go_wp2_with fail
      refine hcm.mono ?_
      rintro _ w3 ⟨rfl, hr3, hg3⟩
      have hb3 := below_grown hb2 hg3 hg hb2.size
      go_wp2_with fail
      refine (clip_any g _ cap (by omega) (by omega) w3).mono ?_
      rintro _ w4 ⟨rfl, rfl⟩
      go_wp2
      go_ret
      rw [HS.out]
      exact ⟨.slice (some ⟨g, 0, none⟩) (Lib.compact ys).length (Lib.compact ys).length, rfl, strs_of_row hr3 _ hr3.1, ⟨_, rfl⟩, hb3⟩
theorem set_any (v : Value) (xs : List (List UInt8)) (w : World) (h : Strs w w.heap.size v xs) (hl : xs.length ≤ 1000000) :
    Calls Try.prog 36 #[v] w fun e w' => ∃ v', e = .returned v' ∧ Strs w' w'.heap.size v' (setOf xs) ∧ Below w.heap.size w w' :=
  (set_cap v xs w h hl).mono fun _ _ ⟨v', h1, h2, _, h3⟩ => ⟨v', h1, h2, h3⟩
end Go.Proofs.Ytgmnjiiommbjaaa.tx
