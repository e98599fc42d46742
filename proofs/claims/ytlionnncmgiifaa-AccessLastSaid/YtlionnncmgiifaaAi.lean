/- access.hidden of one row: a column without a name, of one cell that is null. -/
import Derived.Test.YtlionnncmgiifaaAh
import Derived.Laws.CopyOwn
set_option linter.unusedVariables false
set_option linter.unusedSimpArgs false
namespace Go.Proofs.Ytlionnncmgiifaa.acc
open Go.RowKit

set_option maxRecDepth 100000 in
set_option maxHeartbeats 400000 in
theorem mul_one (w : World) : Calls Try.prog 29 #[.int .u64 1, .int .u64 1] w fun e w' => e = .returned (.tuple #[.int .u64 0, .int .u64 1]) ∧ w' = w := by
  have h64 : Calls Try.prog 31 #[.int .u64 1, .int .u64 1] w fun e w' => e = .returned (.tuple #[.int .u64 0, .int .u64 1]) ∧ w' = w := by
    go_enter Try.func31, Try.ntmps31
    go_wp2
    go_ret2
    exact ⟨rfl, rfl⟩
  go_enter Try.func29, Try.ntmps29
  go_wp2_with fail
  refine h64.mono ?_
  rintro _ _ ⟨rfl, rfl⟩
  go_wp2_with fail
  go_ret2
  exact ⟨rfl, rfl⟩

theorem run_copy_wide {P : Program} (w : World) (dT sT ty elem : TypeId) (i : TypeInfo) (g dLen dCap : Nat) (a : Addr) (sLen sCap : Nat) (cur : Array Value) (t : TypeId) (cs : List Value)
    (hu : P.underlying dT = some (.slice elem)) (hi : P.info? elem = some i) (m : Nat) (hm : Nat.min sLen dLen = m) (size : Nat) (hs : i.size = size)
    (hg : w.heap[g]? = some (.cells cur t (0, 0))) (hn : cs.length = m * size)
    (hsrc : ∀ j v, cs[j]? = some v → w.cell? (a.add j) = some v) (hfit : cs.length ≤ cur.size) (h1 : ∀ v ∈ cs, v.oneCell' = true) :
    (Builtin.copy_ #[dT, sT] ty #[.slice (some ⟨g, 0, none⟩) dLen dCap, .slice (some a) sLen sCap]).run P w =
      .ok (goInt m) (w.setRow g (cs ++ cur.toList.drop cs.length).toArray) := by
  have hl := run_loadCells_list (P := P) w a cs hsrc
  have hst := run_storeCells_at P g 0 t cs 0 cur w hg (by simpa using hfit) h1
  simp only [Nat.zero_add, List.take_zero, List.nil_append, Nat.add_zero] at hst
  rw [hn] at hl
  have hst2 := hst
  simp [Builtin.copy_, run_underlying hu, Builtin.lenOf, Builtin.firstCells, sizeOf, typeInfo, hi, hm, hs, hl, hst]

/-- copy, where its run is known -/
theorem wpList_copied {P : Program} {w : World} {ops : Array Oper} {rest : List Oper} {o : Oper} {a : Act} {Q : Exit → Act → World → Prop} (hgd : o.guard = none) (d s : Operand) (t : TypeId)
    (ho : o.op = .call { callee := .builtin .copy, args := #[d, s], argTypes := #[t, t] }) (x y : Value) (hd : a.eval d = x) (hs : a.eval s = y) {v : Value} {w1 w2 : World} (hw : w = w1)
    (hr : (Builtin.copy_ #[t, t] o.type #[x, y]).run P w1 = .ok v w2) (h : wpList P ops Q rest (a.put o.dst v) w2) : wpList P ops Q (o :: rest) a w := by
  subst hw
  refine wpList_plain hgd fun _ hK => ?_
  unfold Oper.wp execOp
  simp only [ho, resolve, invoke, builtin, Sem.run_bind, Sem.run_pure, Result.andThen_ok, List.map_toArray, List.map_cons, List.map_nil, hd, hs, hr]
  exact hK _ _ h

set_option maxRecDepth 100000 in
set_option maxHeartbeats 400000 in
theorem repeat_one (w : World) (b : Nat) (x y : Value) (hx : w.heap[b]? = some (.cells #[x, y] 37)) (h1 : x.oneCell' = true) (h2 : y.oneCell' = true) :
    Calls Try.prog 24 #[.slice (some ⟨b, 0, none⟩) 1 1, .int .i64 1] w fun e w' => ∃ g cap, e = .returned (.slice (some ⟨g, 0, none⟩) 1 cap) ∧ w.heap.size ≤ g ∧ w'.cell? ⟨g, 0, none⟩ = some x ∧ w'.cell? ⟨g, 1, none⟩ = some y ∧ Below w.heap.size w w' := by
  go_enter Try.func24, Try.ntmps24
  have x0 : w.cell? ⟨b, 0, none⟩ = some x := by simp only [World.cell?, hx]; rfl
  have x1 : w.cell? ⟨b, 1, none⟩ = some y := by simp only [World.cell?, hx]; rfl
  obtain ⟨i0, hi, hz0, hz1, hz2⟩ := info_parts info_cell
  have hmk : ∀ W : World, (Instr.makeSlice 38 (.int .i64 1) (.int .i64 1)).run Try.prog W = .ok (.slice (some ⟨W.heap.size, 0, none⟩) 1 1) (W.alloc (.cells #[.bool false, .string ⟨#[]⟩] 37)) := by
    intro W
    have h := run_make (P := Try.prog) W 38 37 i0 _ Try.underlying38 hi hz0 .i64 .i64 1 1 (by decide) (by decide) (by rw [hz2]; decide) (by decide)
    rw [hz1, show madeCells (Value.agg #[Value.bool false, Value.string { data := #[] }]).cells (Int.toNat 1 * 2) = #[.bool false, .string ⟨#[]⟩] by kernel_rfl] at h
    exact h
  have HI := Lib.hid (And.intro hi (And.intro hz0 (And.intro hz1 hz2)))
  clear hi hz0 hz1 hz2
  go_wp2_with fail
  refine (mul_one w).mono ?_
  rintro _ w1 ⟨rfl, hw⟩
  obtain rfl : w = w1 := hw.symm
  clear hw
  obtain ⟨w2, hw2⟩ : ∃ w2, w2 = w.alloc (.cells #[.bool false, .string ⟨#[]⟩] 37) := ⟨_, rfl⟩
  have hg2 : w2.heap[w.heap.size]? = some (.cells #[.bool false, .string ⟨#[]⟩] 37) := by rw [hw2]; exact World.alloc_heap_new w _
  have hb2 : Below w.heap.size w w2 := by rw [hw2]; exact (Below.refl _ w).alloc (Nat.le_refl _) _
  have hcp : ∀ ty, (Builtin.copy_ #[38, 38] ty #[.slice (some ⟨w.heap.size, 0, none⟩) 1 1, .slice (some ⟨b, 0, none⟩) 1 1]).run Try.prog w2 = .ok (goInt 1) (w2.setRow w.heap.size #[x, y]) := by
    intro ty
    have hbl : b < w.heap.size := (Array.getElem?_eq_some_iff.1 hx).1
    have := run_copy_wide (P := Try.prog) w2 38 38 ty 37 i0 w.heap.size 1 1 ⟨b, 0, none⟩ 1 1 _ _ [x, y] Try.underlying38 HI.out.1 1 rfl 2 HI.out.2.2.1 hg2 rfl
      (by
        intro j v hj
        have hadd : (⟨b, 0, none⟩ : Addr).add j = ⟨b, j, none⟩ := by unfold Addr.add; split <;> simp_all
        rw [hadd, hb2.cell (p := ⟨b, j, none⟩) hbl]
        match j, hj with
        | 0, hj => cases hj; exact x0
        | 1, hj => cases hj; exact x1) (by simp) (by simp [h1, h2])
    simpa using this
  have hr : (w2.setRow w.heap.size #[x, y]).heap[w.heap.size]? = some (.cells #[x, y] 37) := setRow_heap w2 w.heap.size _ _ _ _ hg2
  have hb3 : Below w.heap.size w (w2.setRow w.heap.size #[x, y]) := below_setRow hb2 (Nat.le_refl _) _
  go_wp2_with (refine wpList_copied (by rfl) _ _ 38 (by rfl) _ _ (by rfl) (by rfl) hw2.symm (hcp _) ?_)
  rw [← hw2]
  have e0 : (w2.setRow w.heap.size #[x, y]).cell? ⟨w.heap.size, 0, none⟩ = some x := by simp only [World.cell?, hr]; rfl
  have e1 : (w2.setRow w.heap.size #[x, y]).cell? ⟨w.heap.size, 1, none⟩ = some y := by simp only [World.cell?, hr]; rfl
  clear hw2 hx x0 x1 hcp
  refine wp_loop_rounds 1 ?_
  rw [rounds_succ]
  go_wp2
  go_ret
  exact ⟨w.heap.size, 1, rfl, Nat.le_refl _, e0, e1, hb3⟩

set_option maxRecDepth 100000 in
set_option maxHeartbeats 400000 in
/-- access.hidden of one row -/
theorem hidden_one (w : World) :
    Calls Try.prog 15 #[.int .i64 1] w fun e w' => ∃ g cap, e = .returned (.agg #[.string ⟨#[]⟩, .slice (some ⟨g, 0, none⟩) 1 cap]) ∧ w.heap.size ≤ g ∧ w'.cell? ⟨g, 0, none⟩ = some (.bool true) ∧ w'.cell? ⟨g, 1, none⟩ = some (.string ⟨#[]⟩) ∧ Below w.heap.size w w' := by
  have hrp := fun W b h => repeat_one W b (.bool true) (.string ⟨#[]⟩) h rfl rfl
  go_enter Try.func15, Try.ntmps15
  go_wp2_with fail
  obtain ⟨w1, hw1⟩ : ∃ w1, w1 = (w.alloc (.cells #[.string ⟨#[]⟩, .slice none 0 0] 40)).alloc (.cells #[.bool true, .string ⟨#[]⟩] 37) := ⟨_, rfl⟩
  have hs1 : w1.heap.size = w.heap.size + 2 := by rw [hw1]; simp
  have hb1 : Below w.heap.size w w1 := by rw [hw1]; exact ((Below.refl _ w).alloc (Nat.le_refl _) _).alloc (by simp) _
  have x0 : w1.heap[w.heap.size]? = some (.cells #[.string ⟨#[]⟩, .slice none 0 0] 40) := by
    rw [hw1]; exact (Below.heap_alloc _ _ _ (by simp)).trans (World.alloc_heap_new w _)
  have x1 : w1.heap[w.heap.size + 1]? = some (.cells #[.bool true, .string ⟨#[]⟩] 37) := by
    rw [hw1]
    have := World.alloc_heap_new (w.alloc (.cells #[.string ⟨#[]⟩, .slice none 0 0] 40)) (.cells #[.bool true, .string ⟨#[]⟩] 37)
    rwa [World.size_alloc] at this
  rw [← hw1]
  clear hw1
  refine (hrp w1 _ x1).mono ?_
  rintro _ w2 ⟨g, cap, rfl, hg, c0, c1, hb2⟩
  have y0 := (hb2.block _ (by omega)).trans x0
  have z2 : w2.cell? ⟨w.heap.size, 0, none⟩ = some (.string ⟨#[]⟩) := by simp only [World.cell?, y0]; rfl
  have z3 : w2.cell? ⟨w.heap.size, 1, none⟩ = some (.slice none 0 0) := by simp only [World.cell?, y0]; rfl
  have f2 : w2.frozen? ⟨w.heap.size, 0, none⟩ = false := by simp [World.frozen?, y0]
  have f3 : w2.frozen? ⟨w.heap.size, 1, none⟩ = false := by simp [World.frozen?, y0]
  have hB := hb1.trans (hb2.mono (by omega))
  have HC := Lib.hid (And.intro c0 c1)
  clear c0 c1 x0 x1 y0 hrp
  go_wp2_with fail
  obtain ⟨w5, hw5⟩ : ∃ w5, w5 = (w2.setCell ⟨w.heap.size, 0, none⟩ (.string ⟨#[]⟩)).setCell ⟨w.heap.size, 1, none⟩ (.slice (some ⟨g, 0, none⟩) 1 cap) := ⟨_, rfl⟩
  have e2 : w5.cell? ⟨w.heap.size, 0, none⟩ = some (.string ⟨#[]⟩) := by
    rw [hw5, World.cell?_setCell_other _ _ _ _ (by intro h; injection h with _ h; cases h)]
    exact World.cell?_setCell_same' _ _ _ (by rw [z2]; rfl)
  have e3 : w5.cell? ⟨w.heap.size, 1, none⟩ = some (.slice (some ⟨g, 0, none⟩) 1 cap) := by
    rw [hw5]
    exact World.cell?_setCell_same' _ _ _ (by rw [World.cell?_setCell_other _ _ _ _ (by intro h; injection h with _ h; cases h), z3]; rfl)
  have hB5 : Below w.heap.size w w5 := by
    rw [hw5]
    exact (hB.setCell (p := ⟨w.heap.size, 0, none⟩) (Nat.le_refl _) _).setCell (p := ⟨w.heap.size, 1, none⟩) (Nat.le_refl _) _
  have hblk : ∀ k, k ≠ w.heap.size → w5.heap[k]? = w2.heap[k]? := by
    intro k h1
    rw [hw5]
    exact (Below.heap_setCell _ _ _ _ h1).trans (Below.heap_setCell _ _ _ _ h1)
  rw [← hw5]
  refine bodyPost_ret (v := .agg #[.string ⟨#[]⟩, .slice (some ⟨g, 0, none⟩) 1 cap]) (by simp [results, Try.f15, go_sem, e2, e3]) rfl ?_
  exact ⟨g, cap, rfl, by omega, (World.cell?_of_block (hblk g (by omega))).trans HC.out.1, (World.cell?_of_block (hblk g (by omega))).trans HC.out.2, hB5⟩
end Go.Proofs.Ytlionnncmgiifaa.acc
