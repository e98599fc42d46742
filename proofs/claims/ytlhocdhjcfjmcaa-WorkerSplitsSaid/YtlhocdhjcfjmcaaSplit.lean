/- WorkerSplits: the contract of worker.Split for n from 0 to 1024 and 1 to 8 workers: the tasks, one behind the other, in new memory. -/
import Derived.Test.YtlhocdhjcfjmcaaRows
import Derived.WalkKit
import Derived.ProofKit
import Derived.OpenShut
import Derived.Deep.RegionHeld3
import Derived.Deep.AppendLies
import Derived.Lib.Hide
import Derived.Outline
namespace Go.Proofs.Ytlhocdhjcfjmcaa.split
open Go.RowKit

def task (n w : Int) (i : Nat) : List Value := [.int .i64 (i * n / w), .int .i64 ((i + 1) * n / w)]
def tasks (n w : Int) (k : Nat) : List Value := (List.range k).flatMap (task n w)

theorem quo_fits (a b : Int) (h0 : 0 ≤ a) (h1 : a ≤ 8192) (h2 : 1 ≤ b) : 0 ≤ a / b ∧ a / b ≤ 8192 ∧ IntKind.i64.wrap (a.tdiv b) = a / b := by
  have e : a.tdiv b = a / b := Int.tdiv_eq_ediv_of_nonneg h0
  have h3 : 0 ≤ a / b := Int.ediv_nonneg h0 (by omega)
  have h4 : a / b ≤ a := Int.ediv_le_self _ h0
  exact ⟨h3, by omega, by rw [e]; exact IntWalk.i64_in _ (by omega)⟩

theorem info_task : (Try.prog.info? 63).map (fun i => (i.zero, i.size, i.bytes)) = some (some (.agg #[.int .i64 0, .int .i64 0]), 2, 16) := by kernel_rfl

theorem tasks_succ (n w : Int) (k : Nat) : tasks n w (k + 1) = tasks n w k ++ task n w k := by
  simp [tasks, List.range_succ, List.flatMap_append]

theorem split_below {w wr w1 : World} {v : Value} {e : TypeId} {n : Nat} {xs : List Value} {o : Obj} (hb : Below w.heap.size w wr) (hown : wr.ownsRow w.heap.size e 2 v n xs)
    (hg : ((wr.alloc o).drew).grownBy w1 v.ownBlock) : Below w.heap.size w w1 :=
  (hb.alloc hb.size o).drew.grown hg (by have := hb.size; simp; omega) (fun k hk => (hown.lt k hk).1)

set_option maxRecDepth 100000 in
set_option maxHeartbeats 400000 in
theorem split_any (n wk : Int) (w : World) (h0 : 0 ≤ n) (h1 : n ≤ 1024) (h2 : 1 ≤ wk) (h3 : wk ≤ 8) :
    Calls Try.prog 27 #[.int .i64 n, .int .i64 wk] w fun e w' => ∃ v, e = .returned (.tuple #[v, .int .i64 0]) ∧
      w'.ownsRow w.heap.size 63 2 v wk.toNat (tasks n wk wk.toNat) ∧ Below w.heap.size w w' := by
  have h2' : ((0 : Nat) : Int) ≤ wk := by omega
  obtain ⟨i0, hi, hz0, hz1, hz2⟩ := info_parts info_task
  go_enter Try.func27, Try.ntmps27
  go_wp2
  go_loopw [6, 23] (fun v i wr => ∃ k : Nat, (k : Int) ≤ wk ∧ i = .int .i64 k ∧ wr.ownsRow w.heap.size 63 2 v k (tasks n wk k) ∧ Below w.heap.size w wr)
    (fun _ i _ => wk.toNat - (intOf i).toNat)
  case atStart => exact ⟨0, h2', rfl, World.ownsRow_nil _ _ _ _, Below.refl _ _⟩
  case round =>
    obtain ⟨k, hk, rfl, hown, hbel⟩ := hrel
    by_cases hlt : (k : Int) < wk
    · have e1 : 0 ≤ (k : Int) * n := Int.mul_nonneg (by omega) h0
      have e2 : (k : Int) * n ≤ 8192 := by
        have := Int.mul_le_mul (show (k : Int) ≤ 8 by omega) h1 h0 (by omega); omega
      have e3 : 0 ≤ ((k : Int) + 1) * n := Int.mul_nonneg (by omega) h0
      have e4 : ((k : Int) + 1) * n ≤ 8192 := by
        have := Int.mul_le_mul (show (k : Int) + 1 ≤ 8 by omega) h1 h0 (by omega); omega
      have W1 : IntKind.i64.wrap ((k : Int) * n) = (k : Int) * n := IntWalk.i64_in _ (by omega)
      have W2 : IntKind.i64.wrap ((k : Int) + 1) = (k : Int) + 1 := IntWalk.i64_in _ (by omega)
      have W3 : IntKind.i64.wrap (((k : Int) + 1) * n) = ((k : Int) + 1) * n := IntWalk.i64_in _ (by omega)
      have d1 := quo_fits ((k : Int) * n) wk e1 e2 h2
      have d2 := quo_fits (((k : Int) + 1) * n) wk e3 e4 h2
      have W4 : IntKind.i64.wrap (((k : Int) * n).tdiv wk) = (k : Int) * n / wk := d1.2.2
      have W5 : IntKind.i64.wrap ((((k : Int) + 1) * n).tdiv wk) = ((k : Int) + 1) * n / wk := d2.2.2
      have z0 : (wk == 0) = false := beq_eq_false_iff_ne.2 (by omega)
      have z1 : ¬ wk = 0 := by omega
      clear d1 d2
      go_wp2
      go_region_held3 (fun _ => True) (exact trivial)
        ((refine step_append_lies _ (by rfl) _ _ _ (by rfl) w.heap.size 63 i0 _ 2 16 Try.underlying58 hi hz0 hz1 hz2 rfl (by omega) _ k (tasks n wk k) (by rfl) ((hown.alloc _).drew)
              ⟨wr.heap.size, 0, none⟩ 1 1 (task n wk k) (by rfl) (by rfl) (World.news_of_block (cs := (task n wk k).toArray) (t := 63) (fr := (0, 0)) (heap_alloc_new wr _)) (by simp [task, Value.oneCell'])
              (by omega) (by unfold maxLen; omega) (by omega) (by simp; exact Nat.le_succ_of_le hbel.size) (wr.heap.size + 1) (by simp) ?_; intro gg cap w1 hown1 hgrow hat hlt1))
      have hb1 : Below w.heap.size w w1 := split_below hbel hown hgrow
      have hown2 : w1.ownsRow w.heap.size 63 2 (.slice (some ⟨gg, 0, none⟩) (k + 1) cap) (k + 1) (tasks n wk (k + 1)) := by
        rw [tasks_succ]; exact hown1
      clear hown1 hgrow hat hlt1 hown hbel W1 W2 W3 W4 W5 z0 z1
      go_wp2
      go_roundw
      case rel => exact ⟨k + 1, by omega, by go_num, hown2, hb1⟩
      case measure => simp [intOf]; omega
    · go_wp2
      go_ret2
      obtain rfl : wk = (k : Int) := by omega
      exact ⟨_, rfl, by simpa using hown, hbel⟩

end Go.Proofs.Ytlhocdhjcfjmcaa.split
