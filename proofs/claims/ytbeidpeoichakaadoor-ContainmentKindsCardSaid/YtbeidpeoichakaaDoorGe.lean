/- fraction: digits, cut. -/
import Derived.Test.YtbeidpeoichakaaDoorProg
import Derived.WalkKit
import Derived.WalkSmall
import Derived.ProofKit
import Derived.OpenShut
import Derived.Lib.Hide
import Derived.Handy
import Derived.Deep.QuietTactic
import Derived.BigQuiet
import Derived.Lib.IndexBytes
import Derived.OwnWalk
set_option linter.unusedSimpArgs false
namespace Go.Proofs.YtbeidpeoichakaaDoor.ge
open Go.RowKit

/-- a decimal digit -/
def dig (b : UInt8) : Bool := decide (48 ≤ b.toNat) && decide (b.toNat ≤ 57)
/-- the number that digits stand for -/
def dval (l : List UInt8) : Nat := l.foldl (fun n b => 10 * n + (b.toNat - 48)) 0

theorem dval_snoc (l : List UInt8) (b : UInt8) : dval (l ++ [b]) = 10 * dval l + (b.toNat - 48) := by simp [dval]

theorem dval_lt (l : List UInt8) (h : l.all dig = true) : dval l < 10 ^ l.length := by
  have key : ∀ n (l : List UInt8), l.length = n → l.all dig = true → dval l < 10 ^ n := by
    intro n
    induction n with
    | zero => intro l hl _; rw [List.eq_nil_of_length_eq_zero hl]; decide
    | succ n ih =>
      intro l hl ha
      obtain ⟨l', b, rfl⟩ : ∃ l' b, l = l' ++ [b] := ⟨l.dropLast, l.getLast (by intro e; rw [e] at hl; simp at hl), (List.dropLast_concat_getLast _).symm⟩
      rw [List.length_append] at hl
      rw [List.all_append] at ha
      have h1 := ih l' (by simpa using hl) (by simp at ha ⊢; exact ha.1)
      have h2 : b.toNat ≤ 57 := by simp [dig] at ha; exact ha.2.2
      rw [dval_snoc, Nat.pow_succ]
      omega
  exact key _ l rfl h

/-- what digits answers -/
def isNum (s : ByteArray) (most : Nat) : Bool := decide (1 ≤ s.size) && decide (s.size ≤ most) && s.data.toList.all dig

theorem not_num {s : ByteArray} {most k : Nat} {x : UInt8} (h : s.data.toList[k]? = some x) (hd : dig x = false) : isNum s most = false := by
  have : s.data.toList.all dig = false := List.all_eq_false.2 ⟨x, List.mem_of_getElem? h, by rw [hd]; decide⟩
  unfold isNum
  rw [this]
  simp

def Digits (s : ByteArray) (most : Nat) (w : World) (e : Ending) (w' : World) : Prop :=
  ∃ (v : Nat) (ok : Bool), e = .returned (.tuple #[.int .u64 (v : Int), .bool ok]) ∧ Hid (ok = isNum s most ∧ v = if isNum s most = true then dval s.data.toList else 0) ∧ w = w'

/-- What cut answers: the first point is at k, or there is none. -/
def Cut (s : ByteArray) (w : World) (e : Ending) (w' : World) : Prop :=
  ∃ (f b : ByteArray) (p : Bool), e = .returned (.tuple #[.string f, .string b, .bool p]) ∧
    Hid ((p = false ∧ f = s ∧ b = ByteArray.empty ∧ (46 : UInt8) ∉ s.data.toList) ∨ (p = true ∧ ∃ k, k < s.size ∧ s.data.toList[k]? = some 46 ∧ (46 : UInt8) ∉ s.data.toList.take k ∧ f = s.extract 0 k ∧ b = s.extract (k + 1) s.size)) ∧ ∃ n, w' = w.drewN n

end Go.Proofs.YtbeidpeoichakaaDoor.ge
