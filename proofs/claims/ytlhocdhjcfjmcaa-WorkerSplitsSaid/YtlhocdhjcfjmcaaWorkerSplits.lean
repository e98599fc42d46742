/- WorkerSplits: for every n and every number of workers, modulo their limits, the tasks of Split follow each other, cover all numbers and differ by at most one. No conditions. -/
import Derived.Test.YtlhocdhjcfjmcaaSplit
import Derived.Test.YtlhocdhjcfjmcaaKitMod
import Derived.Deep.QuietTactic
import Derived.BigQuiet
import Derived.WalkSmall
namespace Go.Proofs.Ytlhocdhjcfjmcaa.workerSplits
open Go.ChangeShapes Go.WideShapes Go.ChangeAt Go.RowKit Go.Proofs.Ytlhocdhjcfjmcaa.split
set_option linter.unusedVariables false

theorem own : ownKnob Try.prog.godebug = none := by kernel_rfl

set_option maxRecDepth 100000 in
set_option maxHeartbeats 400000 in
theorem awake_any (w : World) : Calls Try.prog 28 #[] w fun e w' => e = .returned (.bool true) ∧ Below w.heap.size w w' := by
  go_enter Try.func28, Try.ntmps28
  go_wp2_with fail
  refine (split_any 10 3 w (by omega) (by omega) (by omega) (by omega)).mono ?_
  rintro e w1 ⟨v, rfl, hown, hbel⟩
  obtain ⟨g, cap, rfl, hg, hlt⟩ := hown.form (by decide)
  have c0 : w1.cell? ⟨g, 0, none⟩ = some (.int .i64 0) := hown.cellAt 0 (by decide)
  have c1 : w1.cell? ⟨g, 1, none⟩ = some (.int .i64 3) := hown.cellAt 1 (by decide)
  have c2 : w1.cell? ⟨g, 2, none⟩ = some (.int .i64 3) := hown.cellAt 2 (by decide)
  have c3 : w1.cell? ⟨g, 3, none⟩ = some (.int .i64 6) := hown.cellAt 3 (by decide)
  have c4 : w1.cell? ⟨g, 4, none⟩ = some (.int .i64 6) := hown.cellAt 4 (by decide)
  have c5 : w1.cell? ⟨g, 5, none⟩ = some (.int .i64 10) := hown.cellAt 5 (by decide)
  clear hown
  simp only [show ((3 : Int).toNat) = 3 from rfl]
  go_wp2
  go_ret
  exact ⟨rfl, hbel⟩

/-- where the i-th task of n numbers for w workers begins -/
def start (n w : Int) (i : Nat) : Int := i * n / w

theorem start_facts (n w : Int) (i : Nat) (h0 : 0 ≤ n) (h1 : n ≤ 1024) (h2 : 1 ≤ w) (h3 : (i : Int) ≤ 9) :
    0 ≤ start n w i ∧ start n w i ≤ 9216 ∧ start n w (i + 1) - start n w i ≤ n / w + 1 ∧ n / w ≤ start n w (i + 1) - start n w i ∧ 0 ≤ n / w ∧ n / w ≤ 1024 := by
  have e1 : 0 ≤ (i : Int) * n := Int.mul_nonneg (by omega) h0
  have e2 : (i : Int) * n ≤ 9216 := by
    have := Int.mul_le_mul h3 h1 h0 (by omega); omega
  have e3 : ((i + 1 : Nat) : Int) * n = i * n + n := by
    rw [Int.natCast_add, Int.add_mul]; simp
  have hw : 0 < w := by omega
  unfold start
  rw [e3]
  generalize (i : Int) * n = x at *
  have a1 := Int.mul_ediv_add_emod x w
  have a2 := Int.emod_nonneg x (show w ≠ 0 by omega)
  have a3 := Int.emod_lt_of_pos x hw
  have b1 := Int.mul_ediv_add_emod n w
  have b2 := Int.emod_nonneg n (show w ≠ 0 by omega)
  have b3 := Int.emod_lt_of_pos n hw
  have q1 : 0 ≤ x / w := Int.ediv_nonneg e1 (by omega)
  have q2 : x / w ≤ x := Int.ediv_le_self _ e1
  have q3 : 0 ≤ n / w := Int.ediv_nonneg h0 (by omega)
  have q4 : n / w ≤ n := Int.ediv_le_self _ h0
  have key : (x + n) / w = x / w + n / w + (x % w + n % w) / w := by
    have : x + n = (x % w + n % w) + w * (x / w + n / w) := by rw [Int.mul_add]; omega
    rw [this, Int.add_mul_ediv_left _ _ (by omega)]; omega
  have r1 : 0 ≤ (x % w + n % w) / w := Int.ediv_nonneg (by omega) (by omega)
  have r2 : (x % w + n % w) / w ≤ 1 := by
    have : (x % w + n % w) / w < 2 := (Int.ediv_lt_iff_lt_mul hw).2 (by omega)
    omega
  rw [key]
  exact ⟨q1, by omega, by omega, by omega, q3, by omega⟩

theorem start_zero (n w : Int) : start n w 0 = 0 := by simp [start]
theorem start_last (n w : Int) (h : 1 ≤ w) : start n w w.toNat = n := by
  unfold start
  rw [show ((w.toNat : Nat) : Int) = w by omega, Int.mul_comm]
  exact Int.mul_ediv_cancel _ (by omega)

theorem task_start (n w : Int) (i : Nat) : task n w i = [.int .i64 (start n w i), .int .i64 (start n w (i + 1))] := by
  simp [task, start]
theorem tasks_len (n w : Int) (k : Nat) : (tasks n w k).length = k * 2 := by
  induction k with
  | zero => rfl
  | succ k ih => rw [tasks_succ, List.length_append, ih, task_start]; simp; omega
theorem tasks_at (n w : Int) (k i : Nat) (h : i < k) : (tasks n w k)[i * 2]? = some (.int .i64 (start n w i)) ∧ (tasks n w k)[i * 2 + 1]? = some (.int .i64 (start n w (i + 1))) := by
  induction k with
  | zero => omega
  | succ k ih =>
    rw [tasks_succ]
    have hl := tasks_len n w k
    rcases Nat.lt_or_ge i k with hi | hi
    · rw [List.getElem?_append_left (by omega), List.getElem?_append_left (by omega)]
      exact ih hi
    · obtain rfl : i = k := by omega
      rw [List.getElem?_append_right (by omega), List.getElem?_append_right (by omega), hl, task_start]
      constructor
      · rw [show i * 2 - i * 2 = 0 by omega]; rfl
      · rw [show i * 2 + 1 - i * 2 = 1 by omega]; rfl

set_option maxRecDepth 100000 in
set_option maxHeartbeats 400000 in
theorem walk (a0 : Int) (a1 : Int) (w0 : (Lit.int .i64 a0).wf = true) (w1 : (Lit.int .i64 a1).wf = true) (w : World) :
    Calls Try.prog 8 #[.int .i64 a0, .int .i64 a1] w fun e w' => e = .returned (.bool true) ∧ Below w.heap.size w w' := by
  go_enter Try.func8, Try.ntmps8
  go_wp2_with fail
  refine (kitMod.mod_some _ _ _ (by omega) (by omega)).mono ?_
  rintro e w' ⟨n, rfl, ⟨hn0, hn1⟩, rfl⟩
  go_wp2_with fail
  refine (kitMod.mod_some _ _ _ (by omega) (by omega)).mono ?_
  rintro e w' ⟨q, rfl, ⟨hq0, hq1⟩, rfl⟩
  go_wp2_with fail
  refine (split_any n (1 + q) w (by omega) (by omega) (by omega) (by omega)).mono ?_
  rintro e w1 ⟨v, rfl, hown, hbel⟩
  obtain ⟨m, hm⟩ : ∃ m : Nat, 1 + q = (m : Int) + 1 := ⟨q.toNat, by omega⟩
  rw [hm] at hown ⊢
  have hm7 : m ≤ 7 := by omega
  clear hm hq0 hq1
  rw [show ((m : Int) + 1).toNat = m + 1 by omega] at hown
  obtain ⟨g, cap, rfl, hg, hlt⟩ := hown.form (by omega)
  have hW1 : (1 : Int) ≤ (m : Int) + 1 := by omega
  have cells : ∀ i, i < m + 1 → w1.cell? ⟨g, i * 2, none⟩ = some (.int .i64 (start n (m + 1) i)) ∧ w1.cell? ⟨g, i * 2 + 1, none⟩ = some (.int .i64 (start n (m + 1) (i + 1))) := fun i hi => by
    have h := tasks_at n ((m : Int) + 1) (m + 1) i hi
    exact ⟨(hown.cellAt (i * 2) (by omega)).trans h.1, (hown.cellAt (i * 2 + 1) (by omega)).trans h.2⟩
  have c0 : w1.cell? ⟨g, 0, none⟩ = some (.int .i64 0) := by
    have := (cells 0 (by omega)).1; rw [start_zero] at this; exact this
  have cl : w1.cell? ⟨g, m * 2 + 1, none⟩ = some (.int .i64 n) := by
    have := (cells m (by omega)).2
    have hl := start_last n ((m : Int) + 1) hW1
    rw [show ((m : Int) + 1).toNat = m + 1 by omega] at hl
    rw [hl] at this; exact this
  have Hc := Lib.hid cells
  clear cells hown
  go_wp2_with fail
  go_loopw [49] (fun i wr => ∃ k : Nat, k ≤ m + 1 ∧ i = .int .i64 k ∧ Below w1.heap.size w1 wr) (fun i _ => m + 1 - (intOf i).toNat)
  case atStart => exact ⟨0, by omega, rfl, Below.refl _ _⟩
  case round =>
    obtain ⟨k, hk, rfl, hb⟩ := hrel
    by_cases hlt2 : k < m + 1
    · have f := start_facts n ((m : Int) + 1) k hn0 (by omega) hW1 (by omega)
      have f' := start_facts n ((m : Int) + 1) (k + 1) hn0 (by omega) hW1 (by omega)
      have hc1 := (hb.cell (p := ⟨g, k * 2, none⟩) hlt).trans (Hc.out k hlt2).1
      have hc2 := (hb.cell (p := ⟨g, k * 2 + 1, none⟩) hlt).trans (Hc.out k hlt2).2
      have hc3 : 0 < k → wr.cell? ⟨g, (k - 1) * 2 + 1, none⟩ = some (.int .i64 (start n (m + 1) k)) := fun h0 => by
        have := (hb.cell (p := ⟨g, (k - 1) * 2 + 1, none⟩) hlt).trans (Hc.out (k - 1) (by omega)).2
        rwa [show k - 1 + 1 = k by omega] at this
      generalize start n ((m : Int) + 1) k = A at *
      generalize start n ((m : Int) + 1) (k + 1) = B at *
      have hcell0 : k = 0 ∨ ∃ j, k = j + 1 ∧ wr.cell? ⟨g, j * 2 + 1, none⟩ = some (.int .i64 A) := by
        rcases Nat.eq_zero_or_pos k with h | h
        · exact .inl h
        · exact .inr ⟨k - 1, by omega, hc3 h⟩
      have q0 := quo_fits n ((m : Int) + 1) hn0 (by omega) hW1
      have W1 : IntKind.i64.wrap (n.tdiv ((m : Int) + 1)) = n / ((m : Int) + 1) := q0.2.2
      have W2 : IntKind.i64.wrap (n / ((m : Int) + 1) + 1) = n / ((m : Int) + 1) + 1 := IntWalk.i64_in _ (by omega)
      have W3 : IntKind.i64.wrap (B - A) = B - A := IntWalk.i64_in _ (by omega)
      have d0 : decide (B < A) = false := by simp; omega
      have d1 : decide (n / ((m : Int) + 1) + 1 < B - A) = false := by simp; omega
      have d2 : decide (B - A < n / ((m : Int) + 1)) = false := by simp; omega
      have z0 : ((m : Int) + 1 == 0) = false := beq_eq_false_iff_ne.2 (by omega)
      clear hc3
      rcases hcell0 with rfl | ⟨j, rfl, hc4⟩
      · go_wp2
        go_quiet (fail)
        go_wp2
        go_roundw
        case rel => exact ⟨0 + 1, by omega, by go_num, Go.below_drewN (hb.alloc hb.size _) _⟩
        case measure => simp [intOf]
      · have hc5 : ∀ o, (wr.alloc o).cell? ⟨g, j * 2 + 1, none⟩ = some (.int .i64 A) := fun o => (World.cell?_alloc_lt wr o _ (by have := hb.size; simp; omega)).trans hc4
        have j0 : (0 : Int) < (j : Int) + 1 := by omega
        have j1 : IntKind.i64.wrap ((j : Int) + 1 - 1) = (j : Int) := by rw [IntWalk.i64_in _ (by omega)]; omega
        have j2 : (0 : Int) ≤ (j : Int) := by omega
        have j3 : (j : Int) < (m : Int) + 1 := by omega
        have j4 : IntKind.i64.wrap (j : Int) = (j : Int) := IntWalk.i64_in _ (by omega)
        go_wp2
        go_quiet (fail)
        go_wp2
        go_roundw
        case rel => exact ⟨j + 1 + 1, by omega, by go_num, below_drewN (hb.alloc hb.size _) _⟩
        case measure => simp [intOf]; omega
    · go_wp2_with fail
      refine (awake_any wr).mono ?_
      rintro e w2 ⟨rfl, hb2⟩
      go_wp2
      go_ret
      exact ⟨rfl, (hbel.trans (hb.mono hbel.size)).trans (hb2.mono (Nat.le_trans hbel.size hb.size))⟩

set_option maxRecDepth 100000 in
theorem lifted (os : Os) (started : os.Started) (H : Type) (enc : TypeId × Value → H) :
    ReturnsInHanded {} Try.checked os 8 .any (Rows.workerSplitsSpec.pre6 enc Try.prog Try.f8 Rows.workerSplitsRow.domain false) (Rows.workerSplitsSpec.post enc Try.prog Try.f8 false true false false) := by
  refine returnsInHanded_of_change (C := Try.checked) own started (by kernel_rfl) Try.func8
    (ChangeSpec.witness6 (enc := enc) (C := Try.checked) false ⟨#[], #[.int .i64 0, .int .i64 0], []⟩ 8 (by kernel_rfl) (by kernel_rfl) (by kernel_rfl) (by kernel_rfl)) ?_
  intro W base args ds gs before hval0 hW hcnd _
  have hval : ∀ (j : Nat) t v, Try.f8.params[j]? = some t → args[j]? = some v → Value.okWide Try.prog W .any base t v := hval0
  have hW' := hW
  obtain ⟨p, q, hA0, hV, rfl, hfz, hnd⟩ := hW
  have hA : DataW.TrodAll enc Try.prog W 0 (fun _ => true) true Try.f8.params.toList args.toList ds p := hA0
  rw [Try.params8] at hA hval
  obtain ⟨v0, vs0, d0, ds0, p0, q0, hargs, rfl, rfl, h0, r0⟩ := trodAll_cons hA
  obtain ⟨v1, vs1, d1, ds1, p1, q1, rfl, rfl, rfl, h1, r1⟩ := trodAll_cons r0
  obtain ⟨rfl, rfl, rfl⟩ := trodAll_nil r1
  obtain rfl : args = #[v0, v1] := by cases args; simp_all
  obtain ⟨rfl, rfl⟩ := trodVars_none hV
  obtain ⟨a0, rfl, rfl, rfl, w0⟩ := open_int Try.underlying3 (hval 0 3 v0 rfl rfl) h0
  obtain ⟨a1, rfl, rfl, rfl, w1⟩ := open_int Try.underlying3 (hval 1 3 v1 rfl rfl) h1
  clear hA0 hval0
  refine (walk a0 a1 w0 w1 W).mono fun e W' ⟨he, bel⟩ => ?_
  subst he
  exact ⟨_, rfl, _, _, _, [], _, [], hW', trodAll_mk1 (shut_bool Try.underlying4 _), (trodAll_cons_mk (shut_int Try.underlying3 w0) (trodAll_cons_mk (shut_int Try.underlying3 w1) trodAll_mk0)), rfl, bel.frame _, fun h => by cases h⟩

theorem over : Rows.workerSplitsRow.holds Try.pinned (OpenSpec.ofChange Rows.workerSplitsSpec) :=
  OpenClaim.holds_of_wide 8 Try.f8 rfl rfl rfl rfl rfl rfl rfl ⟨rfl, rfl, rfl, rfl, rfl⟩ rfl rfl rfl rfl rfl (by kernel_rfl) Try.func8 (by kernel_rfl)
    (of_decide_eq_true (by kernel_rfl)) (by unfold Func.isWrapper; first | (rw [if_pos (by decide +kernel)]; kernel_rfl) | (rw [if_neg (by decide +kernel)]; exact ⟨rfl, rfl⟩))
    (fun os started H enc _ => lifted os started H enc)

/-- The statement. -/
theorem proved : Rows.WorkerSplitsSaid := over
#print axioms proved
end Go.Proofs.Ytlhocdhjcfjmcaa.workerSplits
