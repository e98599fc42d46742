/- text.class and text.groups: the runs of equal classes of a text's code points. -/
import Derived.Test.YthfkkpkfkobnpaaDoorProg
import Derived.RangeFuncNested
import Derived.RangeFuncLeaves
import Derived.RangeFuncBound
import Derived.RangeFuncCalls
import Derived.Shelf.Abstract
import Derived.WalkKit
import Derived.OwnWalkIn
import Derived.TacticsInMore
import Derived.LoopNIn
import Derived.LoopIn
import Derived.Lib.Hide
import Derived.Lib.TrimU
import Derived.Lib.OthersKept
set_option linter.unusedVariables false
set_option linter.unusedSimpArgs false
namespace Go.Proofs.YthfkkpkfkobnpaaDoor.pat
open Go.RowKit

attribute [local go_sem] Oper.semAt_some

/-- the class of a code point -/
def cls (r : Int) : Int := if 48 ≤ r ∧ r ≤ 57 then 57 else if 65 ≤ r ∧ r ≤ 90 then 65 else if 97 ≤ r ∧ r ≤ 122 then 97 else if 128 ≤ r then 117 else r

set_option maxRecDepth 100000 in
theorem class_in (n : Nat) (r : Int) (w : World) : CallsIn Fence.wide n Tryd.prog 61 #[.int .i32 r] w fun e w' => e = .returned (.int .i32 (cls r)) ∧ w' = w := by
  refine callsIn_of_wp Tryd.func61 rfl trivial ?_ rfl
  simp only [Tryd.ntmps61, List.size_toArray, List.length_cons, List.length_nil, Nat.reduceAdd, Nat.reduceSub, Array.replicate_succ, Array.replicate_zero, List.push_toArray, List.append_toArray, List.nil_append, List.cons_append]
  by_cases h1 : 48 ≤ r <;> by_cases h2 : r ≤ 57 <;> by_cases h3 : 65 ≤ r <;> by_cases h4 : r ≤ 90 <;> by_cases h5 : 97 ≤ r <;> by_cases h6 : r ≤ 122 <;> by_cases h7 : 128 ≤ r <;> first
    | omega
    | (gi_wp2; go_ret; refine ⟨?_, rfl⟩; show Ending.returned (Value.int IntKind.i32 _) = Ending.returned (Value.int IntKind.i32 _); congr 2; unfold cls; (repeat' split) <;> omega)

theorem cls_range (r : Int) (h : 0 ≤ r) : 0 ≤ cls r ∧ cls r < 128 := by
  unfold cls
  repeat' split
  all_goals omega

/-- the code points from a place on -/
def ptsFrom (s : ByteArray) : Nat → Nat → List Int
  | 0, _ => []
  | f + 1, pos => if pos < s.size then ((Utf8.decode s pos).1 : Int) :: ptsFrom s f (pos + (Utf8.decode s pos).2) else []

theorem ptsFrom_end (s : ByteArray) (fuel pos : Nat) (h : ¬ pos < s.size) : ptsFrom s fuel pos = [] := by
  cases fuel with
  | zero => rfl
  | succ f => simp [ptsFrom, h]
theorem ptsFrom_succ (s : ByteArray) (f pos : Nat) (h : pos < s.size) : ptsFrom s (f + 1) pos = ((Utf8.decode s pos).1 : Int) :: ptsFrom s f (pos + (Utf8.decode s pos).2) := by
  simp [ptsFrom, h]

structure St where
  out : List (Int × Nat)
  last : Int
  n : Nat

def gstep (st : St) (r : Int) : St :=
  if 0 < st.n ∧ cls r ≠ st.last then ⟨st.out ++ [(st.last, st.n)], cls r, 1⟩ else ⟨st.out, cls r, st.n + 1⟩
def gend (st : St) : List (Int × Nat) := if 0 < st.n then st.out ++ [(st.last, st.n)] else st.out
/-- the runs of equal classes, with their lengths -/
def groupsOf (s : ByteArray) : List (Int × Nat) := gend ((ptsFrom s s.size 0).foldl gstep ⟨[], 0, 0⟩)

structure Grp where
  c : Int
  n : Nat
  h : 0 ≤ c ∧ c < 128 ∧ 1 ≤ n ∧ n ≤ 1000000
def Grp.pair (g : Grp) : Int × Nat := (g.c, g.n)

theorem roundIn_wide {m m' : Nat} {P : Program} {l : Nat} {f : FuncId} {tmps : Array Value} {assign body : Code} {W : World} {R R' : Ending → World → Prop} (h : RoundIn Fence.wide m P l f tmps assign body W R) (hr : ∀ e w', R e w' → R' e w') :
    RoundIn Fence.wide m' P l f tmps assign body W R' := by
  obtain ⟨hf, hR⟩ := h.mono hr
  exact ⟨hf, fun c cs _ => hR c cs (room_wide _)⟩
theorem wide_any (n : Nat) : Fence.wide.depth.isSome = true → 1 ≤ n := fun h => by simp [Fence.wide] at h

theorem grownBy_iterAt (w : World) (k : Nat) (s : ByteArray) (pos : Nat) : w.grownBy (w.iterAt k s pos) (some k) := grownBy_putObj' w k (.stringIter s pos)

/-- what the loop of groups holds -/
structure Inv (s : ByteArray) (K : Nat) (J : List Grp → World → Prop) (st : St) (wr : World) (pos fuel : Nat) (xs : List Grp) : Prop where
  j : J xs wr
  m : xs.map Grp.pair = st.out
  it : wr.heap[K]? = some (.stringIter s pos)
  fin : (ptsFrom s fuel pos).foldl gstep st = (ptsFrom s s.size 0).foldl gstep ⟨[], 0, 0⟩
  fu : s.size ≤ pos + fuel
  l0 : 0 ≤ st.last ∧ st.last < 128
  nb : st.n + fuel ≤ s.size
  len : (0 < st.n → st.out.length + 1 + fuel ≤ s.size) ∧ st.out.length + fuel ≤ s.size

set_option maxRecDepth 100000 in
set_option maxHeartbeats 2000000 in
theorem groups_stops (n B : Nat) (s : ByteArray) (hs : s.size ≤ 1000000) (w0 : World) (hB : w0.cell? ⟨B, 0, none⟩ = some (.string s)) (hlt : B < w0.heap.size) :
    SeqStopsA Fence.wide n Tryd.prog 60 #[.pointer (some ⟨B, 0, none⟩)] (fun g : Grp => #[.int .i32 g.c, .int .i64 g.n]) (fun xs => xs.map Grp.pair = groupsOf s) (fun _ => True) s.size w0 := by
  intro l J Jx W hW hJ hJx hY h0
  have hB' : W.cell? ⟨B, 0, none⟩ = some (.string s) := (hW.cell (p := ⟨B, 0, none⟩) hlt).trans hB
  refine callsIn_of_wp Tryd.func60 rfl trivial ?_ rfl
  simp only [Tryd.ntmps60, List.size_toArray, List.length_cons, List.length_nil, Nat.reduceAdd, Nat.reduceSub, Array.replicate_succ, Array.replicate_zero, List.push_toArray, List.append_toArray, List.nil_append, List.cons_append]
  gi_wp2
  gi_loopw [3, 4] (fun la nn wr => ∃ (st : St) (pos fuel : Nat) (xs : List Grp), la = .int .i32 st.last ∧ nn = .int .i64 st.n ∧ Inv s W.heap.size J st wr pos fuel xs) (fun _ _ wr => s.size - wr.iterPos W.heap.size)
  case atStart =>
    refine ⟨⟨[], 0, 0⟩, 0, s.size, [], rfl, rfl, hJ [] _ _ none h0 (World.grownBy_alloc _ _ none) (fun r e => by cases e), rfl, ?_, rfl, by omega, by decide, by simp, by simp⟩
    exact World.alloc_heap_new W (.stringIter s 0)
  case round =>
    obtain ⟨⟨out, la, nn⟩, pos, fuel, xs, rfl, rfl, ⟨hj, hm, hit, hfin, hfu, hl0, hnb, hlen⟩⟩ := hrel
    dsimp only at hm hl0 hnb hlen ⊢
    have hks : W.heap.size < wr.heap.size := (Array.getElem?_eq_some_iff.1 hit).1
    by_cases hp : pos < s.size
    · have hnx : ∀ ty, (Instr.next (.pointer (some ⟨W.heap.size, 0, none⟩)) true ty).run Tryd.prog wr = _ := fun ty => Lib.run_next_any_at wr W.heap.size s pos ty hit hp
      have hwd := Lib.width_pos s pos
      obtain ⟨f, rfl⟩ : ∃ f, fuel = f + 1 := ⟨fuel - 1, by omega⟩
      rw [ptsFrom_succ s f pos hp, List.foldl_cons] at hfin
      generalize hr : ((Utf8.decode s pos).1 : Int) = r at *
      have hr0 : 0 ≤ r := by omega
      have hcr := cls_range r hr0
      generalize hd : pos + (Utf8.decode s pos).2 = pos2 at *
      have hit2 := Lib.iterAt_heap wr W.heap.size s pos pos2 hit
      have hj2 : J xs (wr.iterAt W.heap.size s pos2) := hJ xs _ _ (some W.heap.size) hj (grownBy_iterAt _ _ _ _) (fun r e => by cases e; exact ⟨Nat.le_refl _, _, hit, rfl⟩)
      gi_wp2
      refine ⟨trivial, wide_any _, (class_in _ _ _).mono ?_⟩
      rintro e w' ⟨rfl, rfl⟩
      have hpos : ∀ W2 : World, W2.heap[W.heap.size]? = some (.stringIter s pos2) → W2.iterPos W.heap.size = pos2 := fun W2 h => by simp [World.iterPos, h]
      have hpos0 : wr.iterPos W.heap.size = pos := by simp [World.iterPos, hit]
      by_cases hn : nn = 0
      · subst hn
        have hg : gstep ⟨out, la, 0⟩ r = ⟨out, cls r, 1⟩ := by simp [gstep]
        rw [hg] at hfin
        gi_wp2
        go_roundw
        case rel => exact ⟨⟨out, cls r, 1⟩, pos2, f, xs, rfl, rfl, hj2, hm, hit2, hfin, by omega, hcr, by show 1 + f ≤ _; omega, by dsimp only; omega⟩
        case measure => rw [hpos _ hit2, hpos0]; omega
      · by_cases hc : cls r = la
        · subst hc
          have hg : gstep ⟨out, cls r, nn⟩ r = ⟨out, cls r, nn + 1⟩ := by simp [gstep]
          rw [hg] at hfin
          have hc' : (cls r != cls r) = false := by simp
          gi_wp2
          go_roundw
          case rel => exact ⟨⟨out, cls r, nn + 1⟩, pos2, f, xs, rfl, rfl, hj2, hm, hit2, hfin, by omega, hcr, by show nn + 1 + f ≤ _; omega, by dsimp only; omega⟩
          case measure => rw [hpos _ hit2, hpos0]; omega
        · have hg : gstep ⟨out, la, nn⟩ r = ⟨out ++ [(la, nn)], cls r, 1⟩ := by simp [gstep, hc]; omega
          rw [hg] at hfin
          have hc' : (cls r != la) = true := by simp [hc]
          have hxl : xs.length = out.length := by rw [← hm, List.length_map]
          obtain ⟨fn, tmps, assign, body, hy, hR⟩ := hY xs ⟨la, nn, hl0.1, hl0.2, by omega, by omega⟩ (wr.iterAt W.heap.size s pos2) hj2 (by omega)
          dsimp only at hy
          gi_wp2
          refine ⟨wide_any _, roundIn_wide hR ?_⟩
          rintro e W3 (⟨rfl, hJ3, hk3⟩ | ⟨rfl, hJx3⟩)
          · have hit3 := hk3.same _ _ hit2 rfl
            gi_wp2
            go_roundw
            case rel => exact ⟨⟨out ++ [(la, nn)], cls r, 1⟩, pos2, f, _, rfl, rfl, hJ3, by simp [hm, Grp.pair], hit3, hfin, by omega, hcr, by show 1 + f ≤ _; omega, by simp; omega⟩
            case measure => rw [hpos _ hit3, hpos0]; omega
          · gi_wp2
            refine bodyPost_ret (results_none rfl _ _ _) rfl ?_
            exact ⟨⟨_, rfl⟩, .inr ⟨_, trivial, hJx3⟩⟩
    · have hnx : ∀ ty, (Instr.next (.pointer (some ⟨W.heap.size, 0, none⟩)) true ty).run Tryd.prog wr = _ := fun ty => Lib.run_next_end_at wr W.heap.size s pos ty hit hp
      rw [ptsFrom_end s fuel pos hp, List.foldl_nil] at hfin
      by_cases hn : nn = 0
      · subst hn
        have hg : groupsOf s = out := by unfold groupsOf; rw [← hfin]; rfl
        gi_wp2
        go_end0
        exact ⟨⟨_, rfl⟩, .inl ⟨xs, by rw [hm, hg], hj⟩⟩
      · have hg : groupsOf s = out ++ [(la, nn)] := by
          unfold groupsOf
          rw [← hfin]
          simp [gend]
          omega
        have hxl : xs.length = out.length := by rw [← hm, List.length_map]
        obtain ⟨fn, tmps, assign, body, hy, hR⟩ := hY xs ⟨la, nn, hl0.1, hl0.2, by omega, by omega⟩ wr hj (by omega)
        dsimp only at hy
        gi_wp2
        refine ⟨wide_any _, roundIn_wide hR ?_⟩
        rintro e W3 (⟨rfl, hJ3, hk3⟩ | ⟨rfl, hJx3⟩)
        · gi_wp2
          go_end0
          exact ⟨⟨_, rfl⟩, .inl ⟨_, by rw [hg]; simp [hm, Grp.pair], hJ3⟩⟩
        · gi_wp2
          go_end0
          exact ⟨⟨_, rfl⟩, .inr ⟨_, trivial, hJx3⟩⟩
end Go.Proofs.YthfkkpkfkobnpaaDoor.pat
