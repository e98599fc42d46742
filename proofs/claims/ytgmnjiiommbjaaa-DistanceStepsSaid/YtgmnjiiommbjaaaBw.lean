/- text.Pattern: for every string of at most 10^6 bytes. -/
import Derived.Test.YtgmnjiiommbjaaaBp
import Derived.Test.YtgmnjiiommbjaaaBq
import Derived.Test.YtgmnjiiommbjaaaShelf3
import Derived.Shelf.Strings.Runes
import Derived.Shelf.Strings.BuilderK
set_option linter.unusedVariables false
set_option linter.unusedSimpArgs false
namespace Go.Proofs.Ytgmnjiiommbjaaa.pat
open Go.RowKit

attribute [local go_sem] Oper.semAt_some

def inSet (c : Int) : Bool := decide (c = 57 ∨ c = 65 ∨ c = 97 ∨ c = 117)
def put1 (g : Int × Nat) : List UInt8 := if 1 < g.2 ∧ inSet g.1 = true then [g.1.toNat.toUInt8, 43] else List.replicate g.2 g.1.toNat.toUInt8
def patOf (l : List (Int × Nat)) : List UInt8 := l.flatMap put1
/-- the classes of the code points, with runs written once -/
def pattern (s : ByteArray) : List UInt8 := patOf (groupsOf s)

theorem bld_kept {T e : TypeId} {B b : Nat} {p : Value} {bs : List Value} {A C : World} {row : Option Nat} (h : Lib.BuilderAtF T e B b p bs A) (hg : A.grownBy C row) (hr : ∀ r, row = some r → ∃ o : Obj, A.heap[r]? = some o ∧ o.isCells = false) : Lib.BuilderAtF T e B b p bs C := by
  obtain ⟨hB, v, hb, hown, hne⟩ := h
  have hnr : ∀ (k : Nat) (o : Obj), A.heap[k]? = some o → o.isCells = true → row ≠ some k := by
    intro k o ho hc e
    obtain ⟨o', ho', hc'⟩ := hr k e
    rw [ho] at ho'
    cases ho'
    rw [hc] at hc'
    cases hc'
  refine ⟨hB, v, (hg.block b (Array.getElem?_eq_some_iff.1 hb).1 (fun e => hnr b _ hb rfl e.symm)).trans hb, hown.kept hg ?_, hne⟩
  rcases hv : v.ownBlock with _ | g
  · exact .inl rfl
  · obtain ⟨c, fz, hc⟩ := Lib.ownsRowF_kind hown g hv
    exact .inr (fun e => hnr g _ hc rfl e.symm)
theorem isBld_kept {T e : TypeId} {B b : Nat} {bs : List Value} {A C : World} {row : Option Nat} (h : Lib.IsBuilderF T e B b bs A) (hg : A.grownBy C row) (hr : ∀ r, row = some r → ∃ o : Obj, A.heap[r]? = some o ∧ o.isCells = false) : Lib.IsBuilderF T e B b bs C :=
  h.elim (fun x => .inl (bld_kept x hg hr)) (fun x => .inr (bld_kept x hg hr))
theorem isBld_block {T e : TypeId} {B b : Nat} {bs : List Value} {A : World} (h : Lib.IsBuilderF T e B b bs A) : ∃ c, A.heap[b]? = some (.cells c T (0, 0)) := by
  rcases h with ⟨_, v, hb, _⟩ | ⟨_, v, hb, _⟩
  · exact ⟨_, hb⟩
  · exact ⟨_, hb⟩
theorem keeps_of {T e : TypeId} {B b : Nat} {bs : List Value} {A C : World} (h : Lib.IsBuilderF T e B b bs A) (hk : Lib.OthersKept e (some b) A C) (hs : A.heap.size ≤ C.heap.size) : KeepsOthers A C := by
  obtain ⟨c, hb⟩ := isBld_block h
  refine ⟨hs, fun k o ho hc => hk k o ho (fun e => ?_) (fun c fz e => by subst e; cases hc)⟩
  cases e
  rw [hb] at ho
  cases ho
  cases hc
theorem byte_cell (c : Int) (h0 : 0 ≤ c) (h1 : c < 128) : Lib.byteCells [c.toNat.toUInt8] = [.int .u8 c] := by
  obtain ⟨k, rfl⟩ : ∃ k : Nat, c = k := ⟨c.toNat, by omega⟩
  have hk : k < 128 := by omega
  simp [Lib.byteCells]
  omega
theorem put1_length (g : Grp) : (put1 g.pair).length ≤ 1000000 := by
  have := g.h
  unfold put1 Grp.pair
  split
  · simp
  · simp; omega
theorem patOf_snoc (l : List (Int × Nat)) (g : Int × Nat) : patOf (l ++ [g]) = patOf l ++ put1 g := by simp [patOf]
end Go.Proofs.Ytgmnjiiommbjaaa.pat
