/- Points of the program and of the reference: the code points of any string. -/
import Derived.Test.YtgmnjiiommbjaaaBp
import Derived.Test.YtgmnjiiommbjaaaBk
import Derived.Test.YtgmnjiiommbjaaaBv
import Derived.Deep.AppendLies
set_option linter.unusedVariables false
set_option linter.unusedSimpArgs false
namespace Go.Proofs.Ytgmnjiiommbjaaa.pts
open Go.RowKit Go.Proofs.Ytgmnjiiommbjaaa.pat

def encInt (r : Int) : Value := .int .i64 r
/-- the code points -/
def points (s : ByteArray) : List Int := ptsFrom s s.size 0

theorem info_int : (Try.prog.info? 3).map (fun i => (i.zero, i.size, i.bytes)) = some (some (.int .i64 0), 1, 8) := by kernel_rfl

theorem own_iter {W : World} {K base n : Nat} {e : TypeId} {v : Value} {xs : List Value} (h : W.ownsRow base e 1 v n xs) (hK : K < base) (s : ByteArray) (pos : Nat) : (W.iterAt K s pos).ownsRow base e 1 v n xs := by
  obtain ⟨h1, h2⟩ := h
  refine ⟨h1, ?_⟩
  rcases h2 with h2 | ⟨g, cap, cur, hv, hB, hh, r⟩
  · exact .inl h2
  · exact .inr ⟨g, cap, cur, hv, hB, ((grownBy_iterAt W K s pos).block g (Array.getElem?_eq_some_iff.1 hh).1 (fun e => by have := Option.some.inj e; omega)).trans hh, r⟩

theorem below_iter {B K : Nat} {w W : World} (h : Below B w W) (hK : B ≤ K) (hl : K < W.heap.size) (s : ByteArray) (pos : Nat) : Below B w (W.iterAt K s pos) :=
  h.grown (grownBy_iterAt W K s pos) (by omega) (fun k e => by have := Option.some.inj e; omega)

theorem decode_small (s : ByteArray) (i : Nat) : (Utf8.decode s i).1 < 4000000 := by
  have hb := (s.get! (i + 0)).toNat_lt
  unfold Utf8.decode
  dsimp only
  repeat' split
  all_goals (try dsimp only)
  all_goals (try (unfold Utf8.runeError))
  all_goals omega

theorem pts_length (s : ByteArray) (f : Nat) : ∀ pos, (ptsFrom s f pos).length ≤ f := by
  induction f with
  | zero => intro pos; exact Nat.le_refl _
  | succ f ih =>
    intro pos
    by_cases hp : pos < s.size
    · rw [ptsFrom_succ s f pos hp]
      have := ih (pos + (Utf8.decode s pos).2)
      simp
      omega
    · rw [ptsFrom_end s _ pos hp]
      simp
theorem points_length (s : ByteArray) : (points s).length ≤ s.size := pts_length s s.size 0

set_option maxRecDepth 100000 in
set_option maxHeartbeats 1000000 in
theorem points_any (s : ByteArray) (hs : s.size ≤ 1000000) (w : World) :
    Calls Try.prog 34 #[.string s] w fun e w' => ∃ v, e = .returned v ∧ w'.ownsRow w.heap.size 3 1 v (points s).length ((points s).map encInt) ∧ Below w.heap.size w w' := by
  obtain ⟨i0, hi, hz0, hz1, hz2⟩ := info_parts info_int
  go_enter Try.func34, Try.ntmps34
  go_wp2
  go_loopw [3] (fun v wr => ∃ (pos fuel : Nat) (xs : List Int), wr.ownsRow (w.heap.size + 1) 3 1 v xs.length (xs.map encInt) ∧ wr.heap[w.heap.size]? = some (.stringIter s pos) ∧ xs ++ ptsFrom s fuel pos = points s ∧ s.size ≤ pos + fuel ∧ xs.length + fuel ≤ s.size ∧ Below w.heap.size w wr) (fun _ wr => s.size - wr.iterPos w.heap.size)
  case atStart => exact ⟨0, s.size, [], World.ownsRow_nil _ _ _ _, World.alloc_heap_new w (.stringIter s 0), rfl, by omega, by simp, (Below.refl _ w).alloc (Nat.le_refl _) _⟩
  case round =>
    obtain ⟨pos, fuel, xs, hown, hit, hfin, hfu, hln, hb⟩ := hrel
    have hbs := hb.size
    have hks : w.heap.size < wr.heap.size := (Array.getElem?_eq_some_iff.1 hit).1
    have hpos0 : wr.iterPos w.heap.size = pos := by simp [World.iterPos, hit]
    by_cases hp : pos < s.size
    · have hnx : ∀ ty, (Instr.next (.pointer (some ⟨w.heap.size, 0, none⟩)) true ty).run Try.prog wr = _ := fun ty => Lib.run_next_any_at wr w.heap.size s pos ty hit hp
      have hwd := Lib.width_pos s pos
      have hsm := decode_small s pos
      obtain ⟨f, rfl⟩ : ∃ f, fuel = f + 1 := ⟨fuel - 1, by omega⟩
      rw [ptsFrom_succ s f pos hp] at hfin
      generalize hr : ((Utf8.decode s pos).1 : Int) = r at *
      generalize hd : pos + (Utf8.decode s pos).2 = pos2 at *
      have hp2 : pos < pos2 := by omega
      have hit2 := Lib.iterAt_heap wr w.heap.size s pos pos2 hit
      have hr0 : 0 ≤ r := by omega
      have hr1 : r < 4000000 := by omega
      have e3 : IntKind.i64.wrap r = r := IntWalk.i64_in _ (by omega)
      have hown2 := own_iter hown (Nat.lt_succ_self _) s pos2
      have hb2 := below_iter hb (Nat.le_refl _) hks s pos2
      obtain ⟨W, hW⟩ : ∃ W, W = wr.iterAt w.heap.size s pos2 := ⟨_, rfl⟩
      have hz : wr.heap.size ≤ W.heap.size := by rw [hW]; simp [World.iterAt]
      rw [← hW] at hit2 hown2 hb2 hnx
      clear hW hown hit hb hr hd hsm
      go_wp2_with (at_builtin; refine wpList_append_lies _ (by rfl) _ _ 33 (by rfl) (w.heap.size + 1) 3 i0 _ 1 8 Try.underlying33 hi hz0 hz1 hz2 rfl (by omega) _ xs.length (xs.map encInt) (by rfl) (hown2.alloc _) ⟨W.heap.size, 0, none⟩ 1 1 [encInt r] (by rfl) (by rfl) (World.news_of_block (cs := #[encInt r]) (t := 3) (fr := (0, 0)) (heap_alloc_new W _)) (by simp [Value.oneCell', encInt]) (by omega) (by unfold maxLen; omega) (by omega) (by simp; omega) (W.heap.size + 1) (by simp) ?_; intro g2 cap2 w7 hown7 hgrow hat hlt7)
      have hb7 : Below w.heap.size w w7 := (hb2.alloc hb2.size _).grown hgrow (by simp; omega) (fun j e => by have := (hown2.lt j e).1; omega)
      have hit7 : w7.heap[w.heap.size]? = some (.stringIter s pos2) := by
        have h1 : (W.alloc (.cells #[encInt r] 3)).heap[w.heap.size]? = some (.stringIter s pos2) := by
          rw [Below.heap_alloc _ _ _ (by omega)]; exact hit2
        exact (hgrow.block _ (Array.getElem?_eq_some_iff.1 h1).1 (fun e => by have := (hown2.lt _ e.symm).1; omega)).trans h1
      have hpos7 : w7.iterPos w.heap.size = pos2 := by simp [World.iterPos, hit7]
      refine ⟨⟨pos2, f, xs ++ [r], ?_, hit7, by rw [List.append_assoc]; exact hfin, by omega, by simp; omega, hb7⟩, ?_⟩
      · rw [List.length_append, List.map_append, List.map_cons, List.map_nil]
        exact hown7
      · rw [hpos7, hpos0]
        omega
    · have hnx : ∀ ty, (Instr.next (.pointer (some ⟨w.heap.size, 0, none⟩)) true ty).run Try.prog wr = _ := fun ty => Lib.run_next_end_at wr w.heap.size s pos ty hit hp
      rw [ptsFrom_end s fuel pos hp, List.append_nil] at hfin
      subst hfin
      have HB := Lib.hid (And.intro hown hb)
      clear hown hb
      go_wp2_with fail
      go_ret
      obtain ⟨h1, h2⟩ := HB.out
      refine ⟨_, rfl, ⟨h1.1, ?_⟩, h2⟩
      rcases h1.2 with h3 | ⟨g, cap, cur, hv, hB, r⟩
      · exact .inl h3
      · exact .inr ⟨g, cap, cur, hv, by omega, r⟩

set_option maxRecDepth 100000 in
set_option maxHeartbeats 1000000 in
theorem refPoints_any (s : ByteArray) (hs : s.size ≤ 1000000) (w : World) :
    Calls Try.prog 30 #[.string s] w fun e w' => ∃ v, e = .returned v ∧ w'.ownsRow w.heap.size 3 1 v (points s).length ((points s).map encInt) ∧ Below w.heap.size w w' := by
  obtain ⟨i0, hi, hz0, hz1, hz2⟩ := info_parts info_int
  go_enter Try.func30, Try.ntmps30
  go_wp2
  go_loopw [3] (fun v wr => ∃ (pos fuel : Nat) (xs : List Int), wr.ownsRow (w.heap.size + 1) 3 1 v xs.length (xs.map encInt) ∧ wr.heap[w.heap.size]? = some (.stringIter s pos) ∧ xs ++ ptsFrom s fuel pos = points s ∧ s.size ≤ pos + fuel ∧ xs.length + fuel ≤ s.size ∧ Below w.heap.size w wr) (fun _ wr => s.size - wr.iterPos w.heap.size)
  case atStart => exact ⟨0, s.size, [], World.ownsRow_nil _ _ _ _, World.alloc_heap_new w (.stringIter s 0), rfl, by omega, by simp, (Below.refl _ w).alloc (Nat.le_refl _) _⟩
  case round =>
    obtain ⟨pos, fuel, xs, hown, hit, hfin, hfu, hln, hb⟩ := hrel
    have hbs := hb.size
    have hks : w.heap.size < wr.heap.size := (Array.getElem?_eq_some_iff.1 hit).1
    have hpos0 : wr.iterPos w.heap.size = pos := by simp [World.iterPos, hit]
    by_cases hp : pos < s.size
    · have hnx : ∀ ty, (Instr.next (.pointer (some ⟨w.heap.size, 0, none⟩)) true ty).run Try.prog wr = _ := fun ty => Lib.run_next_any_at wr w.heap.size s pos ty hit hp
      have hwd := Lib.width_pos s pos
      have hsm := decode_small s pos
      obtain ⟨f, rfl⟩ : ∃ f, fuel = f + 1 := ⟨fuel - 1, by omega⟩
      rw [ptsFrom_succ s f pos hp] at hfin
      generalize hr : ((Utf8.decode s pos).1 : Int) = r at *
      generalize hd : pos + (Utf8.decode s pos).2 = pos2 at *
      have hp2 : pos < pos2 := by omega
      have hit2 := Lib.iterAt_heap wr w.heap.size s pos pos2 hit
      have hr0 : 0 ≤ r := by omega
      have hr1 : r < 4000000 := by omega
      have e3 : IntKind.i64.wrap r = r := IntWalk.i64_in _ (by omega)
      have hown2 := own_iter hown (Nat.lt_succ_self _) s pos2
      have hb2 := below_iter hb (Nat.le_refl _) hks s pos2
      obtain ⟨W, hW⟩ : ∃ W, W = wr.iterAt w.heap.size s pos2 := ⟨_, rfl⟩
      have hz : wr.heap.size ≤ W.heap.size := by rw [hW]; simp [World.iterAt]
      rw [← hW] at hit2 hown2 hb2 hnx
      clear hW hown hit hb hr hd hsm
      go_wp2_with (at_builtin; refine wpList_append_lies _ (by rfl) _ _ 33 (by rfl) (w.heap.size + 1) 3 i0 _ 1 8 Try.underlying33 hi hz0 hz1 hz2 rfl (by omega) _ xs.length (xs.map encInt) (by rfl) (hown2.alloc _) ⟨W.heap.size, 0, none⟩ 1 1 [encInt r] (by rfl) (by rfl) (World.news_of_block (cs := #[encInt r]) (t := 3) (fr := (0, 0)) (heap_alloc_new W _)) (by simp [Value.oneCell', encInt]) (by omega) (by unfold maxLen; omega) (by omega) (by simp; omega) (W.heap.size + 1) (by simp) ?_; intro g2 cap2 w7 hown7 hgrow hat hlt7)
      have hb7 : Below w.heap.size w w7 := (hb2.alloc hb2.size _).grown hgrow (by simp; omega) (fun j e => by have := (hown2.lt j e).1; omega)
      have hit7 : w7.heap[w.heap.size]? = some (.stringIter s pos2) := by
        have h1 : (W.alloc (.cells #[encInt r] 3)).heap[w.heap.size]? = some (.stringIter s pos2) := by
          rw [Below.heap_alloc _ _ _ (by omega)]; exact hit2
        exact (hgrow.block _ (Array.getElem?_eq_some_iff.1 h1).1 (fun e => by have := (hown2.lt _ e.symm).1; omega)).trans h1
      have hpos7 : w7.iterPos w.heap.size = pos2 := by simp [World.iterPos, hit7]
      refine ⟨⟨pos2, f, xs ++ [r], ?_, hit7, by rw [List.append_assoc]; exact hfin, by omega, by simp; omega, hb7⟩, ?_⟩
      · rw [List.length_append, List.map_append, List.map_cons, List.map_nil]
        exact hown7
      · rw [hpos7, hpos0]
        omega
    · have hnx : ∀ ty, (Instr.next (.pointer (some ⟨w.heap.size, 0, none⟩)) true ty).run Try.prog wr = _ := fun ty => Lib.run_next_end_at wr w.heap.size s pos ty hit hp
      rw [ptsFrom_end s fuel pos hp, List.append_nil] at hfin
      subst hfin
      have HB := Lib.hid (And.intro hown hb)
      clear hown hb
      go_wp2_with fail
      go_ret
      obtain ⟨h1, h2⟩ := HB.out
      refine ⟨_, rfl, ⟨h1.1, ?_⟩, h2⟩
      rcases h1.2 with h3 | ⟨g, cap, cur, hv, hB, r⟩
      · exact .inl h3
      · exact .inr ⟨g, cap, cur, hv, by omega, r⟩

theorem int_parts {w : World} {B : Nat} {v : Value} {xs : List Int} (h : w.ownsRow B 3 1 v xs.length (xs.map encInt)) : ∃ a cap, v = .slice a xs.length cap ∧
    (xs.length ≠ 0 → ∃ g, a = some ⟨g, 0, none⟩ ∧ ∀ (j : Nat) (x : Int), xs[j]? = some x → w.cell? ⟨g, j, none⟩ = some (.int .i64 x)) := by
  have h' := h
  rcases h.2 with ⟨rfl, h0⟩ | ⟨g, cap, cur, rfl, hB, hg, hnc, hcm, hcs, ht⟩
  · exact ⟨none, 0, by rw [h0], fun hn => absurd h0 hn⟩
  · exact ⟨_, cap, rfl, fun _ => ⟨g, rfl, fun j x hx => by
      have := h'.cells (g := g) rfl j (encInt x) (by rw [List.getElem?_map, hx]; rfl)
      by_cases hj : j = 0
      · subst hj; simpa [Addr.add, encInt] using this
      · simpa [Addr.add, encInt, hj] using this⟩⟩

end Go.Proofs.Ytgmnjiiommbjaaa.pts
