/- access: what a slice of permissions is in memory; slices.Backward over it: its closure gives the permissions, the last one first. -/
import Derived.Test.YtlionnncmgiifaaProg
import Derived.RangeFuncNested
import Derived.RangeFuncLeaves
import Derived.Shelf.Abstract
import Derived.WalkKit
import Derived.OwnWalkIn
import Derived.TacticsInMore
import Derived.LoopNIn
import Derived.LoopIn
import Derived.Lib.Hide
set_option linter.unusedVariables false
set_option linter.unusedSimpArgs false
namespace Go.Proofs.Ytlionnncmgiifaa.acc
open Go.RowKit

attribute [local go_sem] Oper.semAt_some

/-- a permission -/
structure Perm where
  u : ByteArray
  a : Bool
  t : Int
  c : Int

def Perm.val (p : Perm) : Value := .agg #[.string p.u, .bool p.a, .int .i64 p.t, .int .i64 p.c]

/-- its four cells -/
structure At4 (w : World) (b o : Nat) (p : Perm) : Prop where
  c0 : w.cell? ⟨b, o, none⟩ = some (.string p.u)
  c1 : w.cell? ⟨b, o + 1, none⟩ = some (.bool p.a)
  c2 : w.cell? ⟨b, o + 2, none⟩ = some (.int .i64 p.t)
  c3 : w.cell? ⟨b, o + 3, none⟩ = some (.int .i64 p.c)

theorem At4.block {w w' : World} {b o : Nat} {p : Perm} (h : At4 w b o p) (hb : w'.heap[b]? = w.heap[b]?) : At4 w' b o p :=
  ⟨(World.cell?_of_block hb).trans h.c0, (World.cell?_of_block hb).trans h.c1, (World.cell?_of_block hb).trans h.c2, (World.cell?_of_block hb).trans h.c3⟩

theorem At4.block' {w w' : World} {b o : Nat} {p : Perm} (h : At4 w b o p) (hb : ∀ o, w'.cell? ⟨b, o, none⟩ = w.cell? ⟨b, o, none⟩) : At4 w' b o p :=
  ⟨(hb _).trans h.c0, (hb _).trans h.c1, (hb _).trans h.c2, (hb _).trans h.c3⟩

/-- The slice value v holds the permissions l, in a block below n; or it is nil and there are none. -/
def Perms (n : Nat) (w : World) (v : Value) (l : List Perm) : Prop :=
  l.length ≤ 3000 ∧ ((v = .slice none 0 0 ∧ l = []) ∨
    ∃ b off cap, v = .slice (some ⟨b, off, none⟩) l.length cap ∧ b < n ∧ ∀ (j : Nat) (p : Perm), l[j]? = some p → At4 w b (off + 4 * j) p)

theorem Perms.below {n : Nat} {w w' : World} {v : Value} {l : List Perm} (h : Perms n w v l) (hb : Below n w w') : Perms n w' v l := by
  obtain ⟨hs, h | ⟨b, off, cap, e, hn, hc⟩⟩ := h
  · exact ⟨hs, .inl h⟩
  · exact ⟨hs, .inr ⟨b, off, cap, e, hn, fun j p hj => (hc j p hj).block' (fun o => hb.cell (p := ⟨b, o, none⟩) hn)⟩⟩

theorem Perms.more {n n' : Nat} {w : World} {v : Value} {l : List Perm} (h : Perms n w v l) (hn : n ≤ n') : Perms n' w v l := by
  obtain ⟨hs, h | ⟨b, off, cap, e, hb, hc⟩⟩ := h
  · exact ⟨hs, .inl h⟩
  · exact ⟨hs, .inr ⟨b, off, cap, e, by omega, hc⟩⟩

/-- the permissions with their places -/
def ixs (l : List Perm) : List (Int × Perm) := l.zipIdx.map fun x => ((x.2 : Nat), x.1)
theorem ixs_length (l : List Perm) : (ixs l).length = l.length := by simp [ixs]
theorem ixs_snd (l : List Perm) : (ixs l).map (·.2) = l := by
  apply List.ext_getElem
  · simp [ixs]
  · intro i h1 h2
    simp [ixs]
theorem ixs_get (l : List Perm) (j : Nat) (p : Perm) (h : l[j]? = some p) : (ixs l)[j]? = some ((j : Int), p) := by
  simp [ixs, List.getElem?_map, List.getElem?_zipIdx, h]

/-- what has come when k rounds are over: the last k, the last one first -/
def lastOf (l : List Perm) (k : Nat) : List (Int × Perm) := (ixs l).reverse.take k

theorem lastOf_succ (l : List Perm) (k : Nat) (p : Perm) (h : l[l.length - 1 - k]? = some p) (hk : k < l.length) : lastOf l (k + 1) = lastOf l k ++ [(((l.length - 1 - k : Nat) : Int), p)] := by
  unfold lastOf
  rw [List.take_add_one, List.getElem?_reverse (by rw [ixs_length]; omega), ixs_length, ixs_get _ _ _ h]
  rfl

theorem lastOf_length (l : List Perm) (k : Nat) (hk : k ≤ l.length) : (lastOf l k).length = k := by simp [lastOf, ixs_length, hk]
theorem lastOf_all (l : List Perm) : (lastOf l l.length).map (·.2) = l.reverse := by
  rw [lastOf, List.take_of_length_le (by simp [ixs_length]), List.map_reverse, ixs_snd]
theorem lastOf_snd (l : List Perm) (k : Nat) : (lastOf l k).map (·.2) = l.reverse.take k := by
  rw [lastOf, List.map_take, List.map_reverse, ixs_snd]

theorem yieldAt_wide {m m' : Nat} {P : Program} {l : Nat} {args : Array Value} {W : World} {R : Ending → World → Prop} (h : YieldAt Fence.wide m P l args W R) : YieldAt Fence.wide m' P l args W R := by
  obtain ⟨fn, tmps, assign, body, hy, hf, hR⟩ := h
  exact ⟨fn, tmps, assign, body, hy, hf, fun c cs _ => hR c cs (room_wide _)⟩

theorem roundIn_wide {m m' : Nat} {P : Program} {l : Nat} {f : FuncId} {tmps : Array Value} {assign body : Code} {W : World} {R R' : Ending → World → Prop} (h : RoundIn Fence.wide m P l f tmps assign body W R) (hr : ∀ e w', R e w' → R' e w') :
    RoundIn Fence.wide m' P l f tmps assign body W R' := by
  obtain ⟨hf, hR⟩ := h.mono hr
  exact ⟨hf, fun c cs _ => hR c cs (room_wide _)⟩

theorem wide_any (n : Nat) : Fence.wide.depth.isSome = true → 1 ≤ n := fun h => by simp [Fence.wide] at h

set_option maxRecDepth 100000 in
set_option maxHeartbeats 400000 in
/-- the closure of slices.Backward: for every loop body that keeps the slice's block and the box -/
theorem back1 (n l Bs b off cap : Nat) (ps : List Perm) (hsmall : ps.length ≤ 3000) {Kp : World → World → Prop} (hK : ∀ A B, Kp A B → B.heap[Bs]? = A.heap[Bs]? ∧ B.heap[b]? = A.heap[b]?)
    (J Jx : List (Int × Perm) → World → Prop)
    (hY : ∀ (pre : List (Int × Perm)) (x : Int × Perm) W, J pre W → pre.length < ps.length → YieldAt Fence.wide n Try.prog l #[.int .i64 x.1, x.2.val] W fun e W' =>
      (e = .returned (.bool true) ∧ J (pre ++ [x]) W' ∧ Kp W W') ∨ (e = .returned (.bool false) ∧ Jx (pre ++ [x]) W'))
    (W : World) (hBs : W.cell? ⟨Bs, 0, none⟩ = some (.slice (some ⟨b, off, none⟩) ps.length cap)) (hc : ∀ (j : Nat) (p : Perm), ps[j]? = some p → At4 W b (off + 4 * j) p) (h0 : J [] W) :
    CallsIn Fence.wide n Try.prog 26 #[.func (.yield l) #[] #[], .pointer (some ⟨Bs, 0, none⟩)] W fun e W' => (∃ v, e = .returned v) ∧
      (J (lastOf ps ps.length) W' ∨ (∃ k, k ≤ ps.length ∧ Jx (lastOf ps k) W')) := by
  refine callsIn_of_wp Try.func26 rfl trivial ?_ rfl
  simp only [Try.ntmps26, List.size_toArray, List.length_cons, List.length_nil, Nat.reduceAdd, Nat.reduceSub, Array.replicate_succ, Array.replicate_zero, List.push_toArray, List.append_toArray, List.nil_append, List.cons_append]
  have hw : -1 ≤ (ps.length : Int) - 1 ∧ (ps.length : Int) - 1 ≤ 3000 := by omega
  gi_wp2
  gi_loopw [3] (fun i wr => ∃ k : Nat, k ≤ ps.length ∧ i = .int .i64 ((ps.length : Int) - 1 - k) ∧ J (lastOf ps k) wr ∧ wr.heap[Bs]? = W.heap[Bs]? ∧ wr.heap[b]? = W.heap[b]?)
    (fun i _ => (intOf i + 1).toNat)
  case atStart => exact ⟨0, Nat.zero_le _, by simp, by simpa [lastOf] using h0, rfl, rfl⟩
  case round =>
    obtain ⟨k, hk, rfl, hJs, hb1, hb2⟩ := hrel
    have hBs' := (World.cell?_of_block hb1 (a := ⟨Bs, 0, none⟩)).trans hBs
    by_cases hlt : k < ps.length
    · obtain ⟨p, hp⟩ : ∃ p, ps[ps.length - 1 - k]? = some p := ⟨_, List.getElem?_eq_getElem (by omega)⟩
      have hcx := (hc _ _ hp).block hb2
      obtain ⟨x0, x1, x2, x3⟩ := hcx
      have e1 : (ps.length : Int) - 1 - k = ((ps.length - 1 - k : Nat) : Int) := by omega
      have e2 : off + 4 * (ps.length - 1 - k) = off + (ps.length - 1 - k) * 4 := by omega
      rw [e2] at x0 x1 x2 x3
      obtain ⟨fn, tmps, assign, body, hy, hR⟩ := hY _ ((((ps.length - 1 - k : Nat) : Int)), p) wr hJs (by rw [lastOf_length _ _ hk]; exact hlt)
      simp only [Perm.val] at hy
      have hlast := lastOf_succ ps k p hp hlt
      rw [e1]
      have hlt' : ps.length - 1 - k < ps.length := by omega
      generalize hd : ps.length - 1 - k = d at *
      gi_wp2
      refine ⟨wide_any _, roundIn_wide hR ?_⟩
      rintro e W3 (⟨rfl, hJ3, hk3⟩ | ⟨rfl, hJx3⟩)
      · have hk4 := hK _ _ hk3
        gi_wp2
        go_roundw
        case rel => exact ⟨k + 1, by omega, by exact congrArg _ (by omega), by rw [hlast]; exact hJ3, hk4.1.trans hb1, hk4.2.trans hb2⟩
        case measure => simp [intOf] <;> omega
      · gi_wp2
        refine bodyPost_ret (results_none rfl _ _ _) rfl ?_
        exact ⟨⟨_, rfl⟩, .inr ⟨k + 1, by omega, by rw [hlast]; exact hJx3⟩⟩
    · obtain rfl : k = ps.length := by omega
      rw [show (ps.length : Int) - 1 - (ps.length : Nat) = -1 by omega]
      gi_wp2
      go_end0
      exact ⟨⟨_, rfl⟩, .inl hJs⟩

set_option maxRecDepth 100000 in
set_option maxHeartbeats 400000 in
theorem back1_nil (n l Bs : Nat) (J : World → Prop) (W : World) (hBs : W.cell? ⟨Bs, 0, none⟩ = some (.slice none 0 0)) (h0 : J W) :
    CallsIn Fence.wide n Try.prog 26 #[.func (.yield l) #[] #[], .pointer (some ⟨Bs, 0, none⟩)] W fun e W' => (∃ v, e = .returned v) ∧ J W' := by
  refine callsIn_of_wp Try.func26 rfl trivial ?_ rfl
  simp only [Try.ntmps26, List.size_toArray, List.length_cons, List.length_nil, Nat.reduceAdd, Nat.reduceSub, Array.replicate_succ, Array.replicate_zero, List.push_toArray, List.append_toArray, List.nil_append, List.cons_append]
  gi_wp2
  gi_loopw [3] (fun i wr => i = .int .i64 (-1) ∧ J wr) (fun _ _ => 0)
  case atStart => exact ⟨rfl, h0⟩
  case round =>
    obtain ⟨rfl, hJs⟩ := hrel
    gi_wp2
    go_end0
    exact ⟨⟨_, rfl⟩, hJs⟩

set_option maxRecDepth 100000 in
set_option maxHeartbeats 400000 in
/-- slices.Backward: the slice is boxed; the closure holds the box -/
theorem backward (n : Nat) (a : Option Addr) (len cap : Nat) (w : World) :
    CallsIn Fence.wide n Try.prog 22 #[.slice a len cap] w fun e w' =>
      e = .returned (.func (.func 26) #[] #[.pointer (some ⟨w.heap.size, 0, none⟩)]) ∧ w' = w.alloc (.cells #[.slice a len cap] 25) := by
  refine callsIn_of_wp Try.func22 rfl trivial ?_ rfl
  simp only [Try.ntmps22, List.size_toArray, List.length_cons, List.length_nil, Nat.reduceAdd, Nat.reduceSub, Array.replicate_succ, Array.replicate_zero, List.push_toArray, List.append_toArray, List.nil_append, List.cons_append]
  gi_wp2
  go_ret
  exact ⟨rfl, rfl⟩

/-- the blocks of the iterator lie as they lay -/
def KeepsTwo (Bs : Nat) (v : Value) (A B : World) : Prop :=
  B.heap[Bs]? = A.heap[Bs]? ∧ ∀ b off len cap, v = .slice (some ⟨b, off, none⟩) len cap → B.heap[b]? = A.heap[b]?

/-- .. and what the closure owes to a loop over it -/
theorem back_stops (n Bs : Nat) (v : Value) (l : List Perm) (w : World) (hBs : Bs < w.heap.size) (hc : w.cell? ⟨Bs, 0, none⟩ = some v) (hI : Perms w.heap.size w v l) :
    SeqStopsK Fence.wide n Try.prog 26 #[.pointer (some ⟨Bs, 0, none⟩)] (fun x : Int × Perm => #[.int .i64 x.1, x.2.val]) (KeepsTwo Bs v)
      (fun xs => xs = lastOf l l.length) (fun pre => ∃ k, k ≤ l.length ∧ pre = lastOf l k) l.length w := fun r J Jx W hW _ _ hY h0 => by
  have hc' := (hW.cell (p := ⟨Bs, 0, none⟩) hBs).trans hc
  obtain ⟨hs, ⟨rfl, rfl⟩ | ⟨b, off, cap, rfl, hb, hcs⟩⟩ := hI.below hW
  · exact (back1_nil n r Bs (J []) W hc' h0).mono fun e W' ⟨he, hj⟩ => ⟨he, .inl ⟨_, rfl, hj⟩⟩
  · refine (back1 n r Bs b off cap l hs (fun A B h => ⟨h.1, h.2 _ _ _ _ rfl⟩) J Jx (fun pre x W hJ hn => yieldAt_wide (hY pre x W hJ hn)) W hc' hcs h0).mono ?_
    rintro e W' ⟨he, hj | ⟨k, hk, hj⟩⟩
    · exact ⟨he, .inl ⟨_, rfl, hj⟩⟩
    · exact ⟨he, .inr ⟨_, ⟨k, hk, rfl⟩, hj⟩⟩

end Go.Proofs.Ytlionnncmgiifaa.acc
