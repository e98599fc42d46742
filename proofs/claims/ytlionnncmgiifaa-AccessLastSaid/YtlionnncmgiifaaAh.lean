/- clone.Column of a column with cells; access.hidden of one row. -/
import Derived.Test.YtlionnncmgiifaaAg
import Derived.Lib.SliceRun
set_option linter.unusedVariables false
set_option linter.unusedSimpArgs false
namespace Go.Proofs.Ytlionnncmgiifaa.acc
open Go.RowKit

theorem info_cell : (Try.prog.info? 37).map (fun i => (i.zero, i.size, i.bytes)) = some (some (.agg #[.bool false, .string ⟨#[]⟩]), 2, 24) := by kernel_rfl

set_option maxRecDepth 100000 in
set_option maxHeartbeats 400000 in
/-- slices.Clone of cells -/
theorem cloneCells (a : Addr) (n cap : Nat) (xs : List Value) (w : World) (hl : xs.length = n * 2) (hn : n ≤ 1000000) (hxs : ∀ j u, xs[j]? = some u → w.cell? (a.add j) = some u) (hb : a.block < w.heap.size) (h1 : ∀ u ∈ xs, u.oneCell' = true) :
    Calls Try.prog 28 #[.slice (some a) n cap] w fun e w' => ∃ v, e = .returned v ∧ w'.ownsRow w.heap.size 37 2 v n xs ∧ Below w.heap.size w w' := by
  obtain ⟨i0, hi, hz0, hz1, hz2⟩ := info_parts info_cell
  have hnil := fun w => Lib.run_eql_slice_nil (P := Try.prog) w 38 37 (some a) n cap 0 0 Try.underlying38
  go_enter Try.func28, Try.ntmps28
  go_wp2_with (at_builtin; refine wpList_append_own _ rfl _ _ 38 rfl w.heap.size 37 i0 _ 2 24 Try.underlying38 hi hz0 hz1 hz2 rfl (by omega) _ 0 [] rfl ⟨by simp, .inr ⟨w.heap.size, 0, #[], rfl, Nat.le_refl _, heap_alloc_new w _, Nat.le_refl _, by simp [maxLen], by simp, by simp⟩⟩ a n cap xs rfl hl ?hn h1 (by unfold maxLen; omega) (by omega) (by simp) ?_)
  case hn =>
    intro j u hu
    have hadd : (a.add j).block = a.block := by unfold Addr.add; split <;> rfl
    rw [World.cell?_alloc_lt _ _ _ (by rw [hadd]; exact hb)]
    exact hxs j u hu
  · intro v' w' hown hgr hnv
    have hbl : Below w.heap.size w w' := ((Below.refl _ _).alloc (Nat.le_refl _) _).grown hgr (by simp) (by simp [Value.ownBlock])
    go_wp2
    go_ret
    exact ⟨_, rfl, hown, hbl⟩

set_option maxRecDepth 100000 in
set_option maxHeartbeats 400000 in
/-- clone.List of cells -/
theorem cloneList (a : Addr) (n cap : Nat) (xs : List Value) (w : World) (h0 : 0 < n) (hl : xs.length = n * 2) (hn : n ≤ 1000000) (hxs : ∀ j u, xs[j]? = some u → w.cell? (a.add j) = some u) (hb : a.block < w.heap.size) (h1 : ∀ u ∈ xs, u.oneCell' = true) :
    Calls Try.prog 23 #[.slice (some a) n cap] w fun e w' => ∃ g, e = .returned (.slice (some ⟨g, 0, none⟩) n n) ∧ w.heap.size ≤ g ∧ (∀ j u, xs[j]? = some u → w'.cell? ((⟨g, 0, none⟩ : Addr).add j) = some u) ∧ Below w.heap.size w w' := by
  have hc := cloneCells a n cap xs w hl hn hxs hb h1
  clear hxs h1
  go_enter Try.func23, Try.ntmps23
  go_wp2_with fail
  refine hc.mono ?_
  rintro _ w1 ⟨v, rfl, hown, hbl⟩
  obtain ⟨g, c, rfl, hg, hlt⟩ := hown.form h0
  have hcap : n ≤ c := by
    obtain ⟨_, ⟨e, _⟩ | ⟨g', cap', cur, e, _, _, h, _⟩⟩ := hown
    · cases e
    · cases e; exact h
  go_wp2_with fail
  have hclip : Calls Try.prog 27 #[.slice (some ⟨g, 0, none⟩) n c] w1 fun e w' => e = .returned (.slice (some ⟨g, 0, none⟩) n n) ∧ w' = w1 := by
    have hs : (n : Int) ≤ (c : Int) := by omega
    have hs2 : (0 : Int) ≤ (n : Int) := by omega
    clear hown hbl
    go_enter Try.func27, Try.ntmps27
    go_wp2
    go_ret
    exact ⟨rfl, rfl⟩
  refine hclip.mono ?_
  rintro _ w2 ⟨rfl, rfl⟩
  have hcells := hown.cells (g := g) rfl
  clear hown
  go_wp2_with fail
  go_ret
  exact ⟨g, rfl, hg, hcells, hbl⟩

set_option maxRecDepth 100000 in
set_option maxHeartbeats 400000 in
/-- clone.Column -/
theorem cloneColumn (nm : ByteArray) (a : Addr) (n cap : Nat) (xs : List Value) (w : World) (h0 : 0 < n) (hl : xs.length = n * 2) (hn : n ≤ 1000000) (hxs : ∀ j u, xs[j]? = some u → w.cell? (a.add j) = some u) (hb : a.block < w.heap.size) (h1 : ∀ u ∈ xs, u.oneCell' = true) :
    Calls Try.prog 14 #[.agg #[.string nm, .slice (some a) n cap]] w fun e w' => ∃ g, e = .returned (.agg #[.string nm, .slice (some ⟨g, 0, none⟩) n n]) ∧ w.heap.size ≤ g ∧ (∀ j u, xs[j]? = some u → w'.cell? ((⟨g, 0, none⟩ : Addr).add j) = some u) ∧ Below w.heap.size w w' := by
  have hc := fun W (h : ∀ j u, xs[j]? = some u → World.cell? W (a.add j) = some u) hb => cloneList a n cap xs W h0 hl hn h hb h1
  clear h1
  go_enter Try.func14, Try.ntmps14
  go_wp2_with fail
  obtain ⟨w1, hw1⟩ : ∃ w1, w1 = (w.alloc (.cells #[.string nm, .slice (some a) n cap] 40)).alloc (.cells #[.string ⟨#[]⟩, .slice none 0 0] 40) := ⟨_, rfl⟩
  have hs1 : w1.heap.size = w.heap.size + 2 := by rw [hw1]; simp
  have hb1 : Below w.heap.size w w1 := by rw [hw1]; exact ((Below.refl _ w).alloc (Nat.le_refl _) _).alloc (by simp) _
  have x0 : w1.heap[w.heap.size]? = some (.cells #[.string nm, .slice (some a) n cap] 40) := by
    rw [hw1]; exact (Below.heap_alloc _ _ _ (by simp)).trans (World.alloc_heap_new w _)
  have x1 : w1.heap[w.heap.size + 1]? = some (.cells #[.string ⟨#[]⟩, .slice none 0 0] 40) := by
    rw [hw1]
    have := World.alloc_heap_new (w.alloc (.cells #[.string nm, .slice (some a) n cap] 40)) (.cells #[.string ⟨#[]⟩, .slice none 0 0] 40)
    rwa [World.size_alloc] at this
  have hadd : ∀ j, (a.add j).block = a.block := fun j => by unfold Addr.add; split <;> rfl
  rw [← hw1]
  clear hw1
  refine (hc w1 (fun j u h => (hb1.cell (p := a.add j) (by rw [hadd]; exact hb)).trans (hxs j u h)) (by omega)).mono ?_
  rintro _ w2 ⟨g, rfl, hg, hcells, hb2⟩
  have y0 := (hb2.block _ (by omega)).trans x0
  have y1 := (hb2.block _ (by omega)).trans x1
  have z0 : w2.cell? ⟨w.heap.size, 0, none⟩ = some (.string nm) := by simp only [World.cell?, y0]; rfl
  have z1 : w2.cell? ⟨w.heap.size, 1, none⟩ = some (.slice (some a) n cap) := by simp only [World.cell?, y0]; rfl
  have z2 : w2.cell? ⟨w.heap.size + 1, 0, none⟩ = some (.string ⟨#[]⟩) := by simp only [World.cell?, y1]; rfl
  have z3 : w2.cell? ⟨w.heap.size + 1, 1, none⟩ = some (.slice none 0 0) := by simp only [World.cell?, y1]; rfl
  have f1 : w2.frozen? ⟨w.heap.size, 1, none⟩ = false := by simp [World.frozen?, y0]
  have f2 : w2.frozen? ⟨w.heap.size + 1, 0, none⟩ = false := by simp [World.frozen?, y1]
  have f3 : w2.frozen? ⟨w.heap.size + 1, 1, none⟩ = false := by simp [World.frozen?, y1]
  have hB := hb1.trans (hb2.mono (by omega))
  have HC := Lib.hid hcells
  clear hcells hxs x0 x1 y0 y1 hc
  go_wp2_with fail
  obtain ⟨w5, hw5⟩ : ∃ w5, w5 = ((w2.setCell ⟨w.heap.size, 1, none⟩ (.slice (some ⟨g, 0, none⟩) n n)).setCell ⟨w.heap.size + 1, 0, none⟩ (.string nm)).setCell ⟨w.heap.size + 1, 1, none⟩ (.slice (some ⟨g, 0, none⟩) n n) := ⟨_, rfl⟩
  have e2 : w5.cell? ⟨w.heap.size + 1, 0, none⟩ = some (.string nm) := by
    rw [hw5, World.cell?_setCell_other _ _ _ _ (by intro h; injection h with _ h; cases h)]
    exact World.cell?_setCell_same' _ _ _ (by rw [World.cell?_setCell_other _ _ _ _ (by intro h; injection h with h; omega), z2]; rfl)
  have e3 : w5.cell? ⟨w.heap.size + 1, 1, none⟩ = some (.slice (some ⟨g, 0, none⟩) n n) := by
    rw [hw5]
    exact World.cell?_setCell_same' _ _ _ (by rw [World.cell?_setCell_other _ _ _ _ (by intro h; injection h with _ h; cases h), World.cell?_setCell_other _ _ _ _ (by intro h; injection h with h; omega), z3]; rfl)
  have hB5 : Below w.heap.size w w5 := by
    rw [hw5]
    exact ((hB.setCell (p := ⟨w.heap.size, 1, none⟩) (Nat.le_refl _) _).setCell (p := ⟨w.heap.size + 1, 0, none⟩) (Nat.le_add_right _ _) _).setCell (p := ⟨w.heap.size + 1, 1, none⟩) (Nat.le_add_right _ _) _
  have hblk : ∀ k, k ≠ w.heap.size → k ≠ w.heap.size + 1 → w5.heap[k]? = w2.heap[k]? := by
    intro k h1 h2
    rw [hw5]
    exact (Below.heap_setCell _ _ _ _ h2).trans ((Below.heap_setCell _ _ _ _ h2).trans (Below.heap_setCell _ _ _ _ h1))
  rw [← hw5]
  refine bodyPost_ret (v := .agg #[.string nm, .slice (some ⟨g, 0, none⟩) n n]) (by simp [results, Try.f14, go_sem, e2, e3]) rfl ?_
  have haddg : ∀ j, ((⟨g, 0, none⟩ : Addr).add j).block = g := fun j => by unfold Addr.add; split <;> rfl
  exact ⟨g, rfl, by omega, fun j u h => (World.cell?_of_block (by rw [haddg]; exact hblk g (by omega) (by omega))).trans (HC.out j u h), hB5⟩
end Go.Proofs.Ytlionnncmgiifaa.acc
