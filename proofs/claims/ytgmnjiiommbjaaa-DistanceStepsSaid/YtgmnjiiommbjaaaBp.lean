/- text.class and text.groups: the runs of equal classes of a text's code points. -/
import Derived.Test.YtgmnjiiommbjaaaProg
import Derived.RangeFuncNested
import Derived.RangeFuncLeaves
import Derived.RangeFuncBound
import Derived.RangeFuncCalls
import Derived.Shelf.Abstract
import Derived.WalkKit
import Derived.OwnWalkIn
import Derived.TacticsInMore
import Derived.LoopNIn
import Derived.LoopIn
import Derived.Lib.Hide
import Derived.Lib.TrimU
import Derived.Lib.OthersKept
set_option linter.unusedVariables false
set_option linter.unusedSimpArgs false
namespace Go.Proofs.Ytgmnjiiommbjaaa.pat
open Go.RowKit

attribute [local go_sem] Oper.semAt_some

/-- the class of a code point -/
def cls (r : Int) : Int := if 48 ≤ r ∧ r ≤ 57 then 57 else if 65 ≤ r ∧ r ≤ 90 then 65 else if 97 ≤ r ∧ r ≤ 122 then 97 else if 128 ≤ r then 117 else r

theorem cls_range (r : Int) (h : 0 ≤ r) : 0 ≤ cls r ∧ cls r < 128 := by
  unfold cls
  repeat' split
  all_goals omega

/-- the code points from a place on -/
def ptsFrom (s : ByteArray) : Nat → Nat → List Int
  | 0, _ => []
  | f + 1, pos => if pos < s.size then ((Utf8.decode s pos).1 : Int) :: ptsFrom s f (pos + (Utf8.decode s pos).2) else []

theorem ptsFrom_end (s : ByteArray) (fuel pos : Nat) (h : ¬ pos < s.size) : ptsFrom s fuel pos = [] := by
  cases fuel with
  | zero => rfl
  | succ f => simp [ptsFrom, h]
theorem ptsFrom_succ (s : ByteArray) (f pos : Nat) (h : pos < s.size) : ptsFrom s (f + 1) pos = ((Utf8.decode s pos).1 : Int) :: ptsFrom s f (pos + (Utf8.decode s pos).2) := by
  simp [ptsFrom, h]

structure St where
  out : List (Int × Nat)
  last : Int
  n : Nat

def gstep (st : St) (r : Int) : St :=
  if 0 < st.n ∧ cls r ≠ st.last then ⟨st.out ++ [(st.last, st.n)], cls r, 1⟩ else ⟨st.out, cls r, st.n + 1⟩
def gend (st : St) : List (Int × Nat) := if 0 < st.n then st.out ++ [(st.last, st.n)] else st.out
/-- the runs of equal classes, with their lengths -/
def groupsOf (s : ByteArray) : List (Int × Nat) := gend ((ptsFrom s s.size 0).foldl gstep ⟨[], 0, 0⟩)

structure Grp where
  c : Int
  n : Nat
  h : 0 ≤ c ∧ c < 128 ∧ 1 ≤ n ∧ n ≤ 1000000
def Grp.pair (g : Grp) : Int × Nat := (g.c, g.n)

theorem roundIn_wide {m m' : Nat} {P : Program} {l : Nat} {f : FuncId} {tmps : Array Value} {assign body : Code} {W : World} {R R' : Ending → World → Prop} (h : RoundIn Fence.wide m P l f tmps assign body W R) (hr : ∀ e w', R e w' → R' e w') :
    RoundIn Fence.wide m' P l f tmps assign body W R' := by
  obtain ⟨hf, hR⟩ := h.mono hr
  exact ⟨hf, fun c cs _ => hR c cs (room_wide _)⟩
theorem wide_any (n : Nat) : Fence.wide.depth.isSome = true → 1 ≤ n := fun h => by simp [Fence.wide] at h

theorem grownBy_iterAt (w : World) (k : Nat) (s : ByteArray) (pos : Nat) : w.grownBy (w.iterAt k s pos) (some k) := grownBy_putObj' w k (.stringIter s pos)

/-- what the loop of groups holds -/
structure Inv (s : ByteArray) (K : Nat) (J : List Grp → World → Prop) (st : St) (wr : World) (pos fuel : Nat) (xs : List Grp) : Prop where
  j : J xs wr
  m : xs.map Grp.pair = st.out
  it : wr.heap[K]? = some (.stringIter s pos)
  fin : (ptsFrom s fuel pos).foldl gstep st = (ptsFrom s s.size 0).foldl gstep ⟨[], 0, 0⟩
  fu : s.size ≤ pos + fuel
  l0 : 0 ≤ st.last ∧ st.last < 128
  nb : st.n + fuel ≤ s.size
  len : (0 < st.n → st.out.length + 1 + fuel ≤ s.size) ∧ st.out.length + fuel ≤ s.size

end Go.Proofs.Ytgmnjiiommbjaaa.pat
