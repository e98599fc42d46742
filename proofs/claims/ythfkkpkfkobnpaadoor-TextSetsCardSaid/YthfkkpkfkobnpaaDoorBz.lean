/- TextSets: the law. -/
import Derived.Test.YthfkkpkfkobnpaaDoorBx
import Derived.Test.YthfkkpkfkobnpaaDoorBt
import Derived.Test.YthfkkpkfkobnpaaDoorBy
set_option linter.unusedVariables false
set_option linter.unusedSimpArgs false
namespace Go.Proofs.YthfkkpkfkobnpaaDoor.tx
open Go.RowKit Go.Proofs.YthfkkpkfkobnpaaDoor.txt Go.Proofs.YthfkkpkfkobnpaaDoor.mill

theorem Strs.to {w w' : World} {v : Value} {xs : List (List UInt8)} (h : Strs w w.heap.size v xs) (hb : Below w.heap.size w w') : Strs w' w'.heap.size v xs := (h.below hb).more hb.size
theorem Strs.kept {g : Nat} {w w' : World} {v : Value} {xs : List (List UInt8)} (h : Strs w w.heap.size v xs) (hk : Kept g w w') (hn : xs ≠ [] → NotAt g v) : Strs w' w'.heap.size v xs := by
  rcases h with h | ⟨b, off, cap, rfl, hlt, hc⟩
  · exact .inl h
  · refine .inr ⟨b, off, cap, rfl, Nat.lt_of_lt_of_le hlt hk.bel.size, fun j x hx => ?_⟩
    have hne : xs ≠ [] := fun e => by rw [e] at hx; simp at hx
    exact (hk.cell (p := ⟨b, off + j, none⟩) hlt (hn hne b off _ _ rfl)).trans (hc j x hx)

/-- the lists over which the law goes -/
def Lists (W : World) (B : Nat) : Prop := ∀ j, j < 3 → ∃ a n c xs, W.cell? ⟨B, j, none⟩ = some (.slice a n c) ∧ Strs W W.heap.size (.slice a n c) xs ∧ xs.length ≤ 100

set_option maxRecDepth 100000 in
set_option maxHeartbeats 2000000 in
theorem sets_any (w : World) (A : Option Addr) (c : Nat) (l : List Nat) (S : Seeds w w.heap.size A c l) (hl : l.length ≤ maxLen) (v : Value) (xs : List (List UInt8)) (hx : Strs w w.heap.size v xs) (hU : sane.Utf w) (h2 : 2 ≤ w.heap.size) :
    Calls Tryd.prog 4 #[.slice A l.length c, v] w fun e w' => e = .returned (.bool true) ∧ Below w.heap.size w w' := by
  obtain ⟨ax, cx, rfl, _⟩ := hx.parts
  go_enter Tryd.func4, Tryd.ntmps4
  have HS := Lib.hid (And.intro S hx)
  clear S hx
  go_wp2_with fail
  refine (sane_any w hU h2).mono ?_
  rintro _ w1 ⟨rfl, b1⟩
  have s1 := b1.size
  by_cases h30 : 30 < xs.length
  · have HB := Lib.hid b1
    go_wp2
    go_ret
    exact ⟨rfl, HB.out⟩
  go_wp2_with fail
  refine (new_any w1 A c l ((HS.out.1.below b1).more s1) hl).mono ?_
  rintro _ w2 ⟨rfl, D2, b2⟩
  have s2 := b2.size
  go_wp2_with fail
  refine (texts_any w2 w1.heap.size (l.take 300) 0 12 D2 (by omega)).mono ?_
  rintro _ w3 ⟨v3, xs3, k3, rfl, S3, l3, D3, K3, N3⟩
  have s3 := K3.bel.size
  go_wp2_with fail
  refine (query_any w3 w1.heap.size (l.take 300) k3 8 D3 (by omega)).mono ?_
  rintro _ w4 ⟨v4, xs4, k4, rfl, S4, l4, D4, K4⟩
  have s4 := K4.bel.size
  have X0 : Strs w2 w2.heap.size (.slice ax xs.length cx) xs := (HS.out.2.to b1).to b2
  have N0 : xs ≠ [] → NotAt w1.heap.size (.slice ax xs.length cx) := by
    intro hne b off n c e
    rcases HS.out.2 with ⟨he, _⟩ | ⟨b', off', cap', e', hlt, _⟩
    · exact absurd he hne
    · rw [e] at e'
      cases e'
      omega
  have X4 : Strs w4 w4.heap.size (.slice ax xs.length cx) xs := (X0.kept K3 N0).kept K4 N0
  have Y4 : Strs w4 w4.heap.size v3 xs3 := S3.kept K4 (fun _ => N3)
  obtain ⟨a3, c3, rfl, _⟩ := Y4.parts
  obtain ⟨a4, c4, rfl, _⟩ := S4.parts
  have hbel : Below w.heap.size w w4 := ((b1.trans (b2.mono s1)).trans (K3.bel.mono s1)).trans (K4.bel.mono s1)
  obtain ⟨W, hW⟩ : ∃ W, W = w4.alloc (.cells #[.slice ax xs.length cx, .slice a3 xs3.length c3, .slice a4 xs4.length c4] 28) := ⟨_, rfl⟩
  have hWb : Below w4.heap.size w4 W := by rw [hW]; exact (Below.refl _ _).alloc (Nat.le_refl _) _
  have hWw : Below w.heap.size w W := hbel.trans (hWb.mono (by omega))
  have hLs : Lists W w4.heap.size := by
    intro j hj
    match j, hj with
    | 0, _ => exact ⟨_, _, _, xs, by rw [hW]; simp only [World.cell?, heap_alloc_new]; rfl, X4.to hWb, by omega⟩
    | 1, _ => exact ⟨_, _, _, xs3, by rw [hW]; simp only [World.cell?, heap_alloc_new]; rfl, Y4.to hWb, by omega⟩
    | 2, _ => exact ⟨_, _, _, xs4, by rw [hW]; simp only [World.cell?, heap_alloc_new]; rfl, S4.to hWb, by omega⟩
  have HL := Lib.hid (And.intro hLs hWw)
  clear hLs hWw X4 Y4 S4 X0 S3 K3 K4 D2 D3 D4 b1 b2 hbel hWb N0 N3
  go_wp2_with fail
  rw [← hW]
  have hWs : w4.heap.size < W.heap.size := by rw [hW]; simp
  clear hW
  go_loopw [23] (fun i wr => ∃ j : Nat, i = .int .i64 (j : Int) ∧ j ≤ 3 ∧ Below W.heap.size W wr) (fun i _ => 3 - (intOf i).toNat)
  case atStart => exact ⟨0, rfl, by omega, Below.refl _ _⟩
  case round =>
    obtain ⟨j, rfl, hj, hb⟩ := hrel
    by_cases hj3 : j < 3
    · obtain ⟨a, n, c, ys, hc, hY, hyl⟩ := HL.out.1 j hj3
      have cj := (hb.cell (p := ⟨w4.heap.size, j, none⟩) hWs).trans hc
      have Y1 := hY.to hb
      have HB := Lib.hid hb
      clear hb hc hY
      cases hq : ascB ys
      all_goals
        go_wp2_with fail
        refine (set_any _ ys wr Y1 (by omega)).mono ?_
        rintro _ w11 ⟨v1, rfl, S1, b1⟩
        have hsl := setOf_length ys
        go_wp2_with fail
        refine (refSet_any _ ys w11 (Y1.to b1) (by omega)).mono ?_
        rintro _ w12 ⟨v2, rfl, S2, b2⟩
        go_wp2_with fail
        refine (same_any v1 v2 _ _ w12 (S1.to b2) S2 (by omega) (by omega)).mono ?_
        rintro _ w13 ⟨rfl, d3⟩
        have b3 := d3.below w12.heap.size
        rw [decide_eq_true (rfl : setOf ys = setOf ys)]
        have H3 := Lib.hid (And.intro b1 (And.intro b2 b3))
        have T3 := ((Y1.to b1).to b2).to b3
        have U3 := (S1.to b2).to b3
        clear b1 b2 b3 d3 S1 S2
        go_wp2_with fail
        refine (isSet_any _ ys w13 T3 (by omega)).mono ?_
        rintro _ w14 ⟨rfl, d4⟩
        have b4 := d4.below w13.heap.size
        rw [hq]
        go_wp2_with fail
        refine (refIsSet_any _ ys w14 (T3.to b4) (by omega)).mono ?_
        rintro _ w15 ⟨rfl, d5⟩
        have b5 := d5.below w14.heap.size
        rw [hq]
        have U5 := (U3.to b4).to b5
        have H5 := Lib.hid (And.intro b4 b5)
        clear b4 b5 d4 d5 T3 U3
        go_wp2_with fail
        refine (isSet_any _ (setOf ys) w15 U5 (by omega)).mono ?_
        rintro _ w16 ⟨rfl, d6⟩
        have b6 := d6.below w15.heap.size
        rw [ascB_of (setOf_asc ys)]
        go_wp2_with fail
        refine (set_any _ (setOf ys) w16 (U5.to b6) (by omega)).mono ?_
        rintro _ w17 ⟨v7, rfl, S7, b7⟩
        rw [setOf_set] at S7
        go_wp2_with fail
        refine (same_any v7 v1 (setOf ys) (setOf ys) w17 S7 ((U5.to b6).to b7) (by omega) (by omega)).mono ?_
        rintro _ w18 ⟨rfl, d8⟩
        have b8 := d8.below w17.heap.size
        rw [decide_eq_true (rfl : setOf ys = setOf ys)]
        have hfin : Below W.heap.size W w18 := by
          have z1 := HB.out
          have z2 := z1.trans (H3.out.1.mono z1.size)
          have z3 := z2.trans (H3.out.2.1.mono z2.size)
          have z4 := z3.trans (H3.out.2.2.mono z3.size)
          have z5 := z4.trans (H5.out.1.mono z4.size)
          have z6 := z5.trans (H5.out.2.mono z5.size)
          have z7 := z6.trans (b6.mono z6.size)
          have z8 := z7.trans (b7.mono z7.size)
          exact z8.trans (b8.mono z8.size)
        have HF := Lib.hid hfin
        clear hfin b6 b7 b8 d6 d8 S7 U5 Y1
        go_wp2
        exact ⟨⟨j + 1, by exact congrArg _ (by omega), by omega, HF.out⟩, by simp [intOf] <;> omega⟩
    · obtain rfl : j = 3 := by omega
      have hbW := HL.out.2.trans (hb.mono HL.out.2.size)
      have HF := Lib.hid hbW
      clear hb hbW
      rw [show ((3 : Nat) : Int) = 3 from rfl]
      go_wp2
      go_ret
      exact ⟨rfl, HF.out⟩
end Go.Proofs.YthfkkpkfkobnpaaDoor.tx
