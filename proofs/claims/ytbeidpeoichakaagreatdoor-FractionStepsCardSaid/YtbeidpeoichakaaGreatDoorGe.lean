/- fraction: digits, cut. -/
import Derived.Test.YtbeidpeoichakaaGreatDoorProg
import Derived.WalkKit
import Derived.WalkSmall
import Derived.ProofKit
import Derived.OpenShut
import Derived.Lib.Hide
import Derived.Handy
import Derived.Deep.QuietTactic
import Derived.BigQuiet
import Derived.Lib.IndexBytes
import Derived.OwnWalk
set_option linter.unusedSimpArgs false
namespace Go.Proofs.YtbeidpeoichakaaGreatDoor.ge
open Go.RowKit

/-- a decimal digit -/
def dig (b : UInt8) : Bool := decide (48 ≤ b.toNat) && decide (b.toNat ≤ 57)
/-- the number that digits stand for -/
def dval (l : List UInt8) : Nat := l.foldl (fun n b => 10 * n + (b.toNat - 48)) 0

theorem dval_snoc (l : List UInt8) (b : UInt8) : dval (l ++ [b]) = 10 * dval l + (b.toNat - 48) := by simp [dval]

theorem dval_lt (l : List UInt8) (h : l.all dig = true) : dval l < 10 ^ l.length := by
  have key : ∀ n (l : List UInt8), l.length = n → l.all dig = true → dval l < 10 ^ n := by
    intro n
    induction n with
    | zero => intro l hl _; rw [List.eq_nil_of_length_eq_zero hl]; decide
    | succ n ih =>
      intro l hl ha
      obtain ⟨l', b, rfl⟩ : ∃ l' b, l = l' ++ [b] := ⟨l.dropLast, l.getLast (by intro e; rw [e] at hl; simp at hl), (List.dropLast_concat_getLast _).symm⟩
      rw [List.length_append] at hl
      rw [List.all_append] at ha
      have h1 := ih l' (by simpa using hl) (by simp at ha ⊢; exact ha.1)
      have h2 : b.toNat ≤ 57 := by simp [dig] at ha; exact ha.2.2
      rw [dval_snoc, Nat.pow_succ]
      omega
  exact key _ l rfl h

/-- what digits answers -/
def isNum (s : ByteArray) (most : Nat) : Bool := decide (1 ≤ s.size) && decide (s.size ≤ most) && s.data.toList.all dig

theorem not_num {s : ByteArray} {most k : Nat} {x : UInt8} (h : s.data.toList[k]? = some x) (hd : dig x = false) : isNum s most = false := by
  have : s.data.toList.all dig = false := List.all_eq_false.2 ⟨x, List.mem_of_getElem? h, by rw [hd]; decide⟩
  unfold isNum
  rw [this]
  simp

def Digits (s : ByteArray) (most : Nat) (w : World) (e : Ending) (w' : World) : Prop :=
  ∃ (v : Nat) (ok : Bool), e = .returned (.tuple #[.int .u64 (v : Int), .bool ok]) ∧ Hid (ok = isNum s most ∧ v = if isNum s most = true then dval s.data.toList else 0) ∧ w = w'

set_option maxRecDepth 100000 in
set_option maxHeartbeats 1000000 in
theorem digits_any (w : World) (s : ByteArray) (most : Nat) (hm : most ≤ 18) :
    Calls Tryz.prog 62 #[.string s, .int .i64 (most : Int)] w (Digits s most w) := by
  go_enter Tryz.func62, Tryz.ntmps62
  by_cases h1 : s.size < 1
  · have hn : isNum s most = false := by unfold isNum; rw [decide_eq_false (by omega)]; rfl
    have HN := Lib.hid hn
    clear hn
    go_wp2_with fail
    go_ret2
    exact ⟨0, false, rfl, Lib.hid ⟨HN.out.symm, by rw [HN.out]; rfl⟩, rfl⟩
  · by_cases h2 : most < s.size
    · have hn : isNum s most = false := by unfold isNum; rw [decide_eq_false (show ¬ s.size ≤ most by omega)]; simp
      have HN := Lib.hid hn
      clear hn
      go_wp2_with fail
      go_ret2
      exact ⟨0, false, rfl, Lib.hid ⟨HN.out.symm, by rw [HN.out]; rfl⟩, rfl⟩
    · have Hs := Lib.hid (And.intro h1 h2)
      go_wp2_with fail
      go_loop [6, 19] (fun v i => ∃ k : Nat, k ≤ s.size ∧ i = .int .i64 k ∧ v = .int .u64 ((dval (s.data.toList.take k) : Nat) : Int) ∧ (s.data.toList.take k).all dig = true) (fun _ i => s.size - (intOf i).toNat)
      case atStart => exact ⟨0, Nat.zero_le _, rfl, rfl, rfl⟩
      case round =>
        obtain ⟨k, hk, rfl, rfl, ha⟩ := hrel
        have hlen : (s.data.toList.take k).length = k := by
          have e : s.data.toList.length = s.size := by rw [Array.length_toList]; rfl
          rw [List.length_take, e, Nat.min_eq_left hk]
        have hb := dval_lt _ ha
        rw [hlen] at hb
        have hb2 : (10 : Nat) ^ k ≤ 10 ^ 18 := Nat.pow_le_pow_right (by decide) (by omega)
        generalize hV : dval (s.data.toList.take k) = V at *
        have hV18 : V < 1000000000000000000 := Nat.lt_of_lt_of_le hb hb2
        have HA := Lib.hid (And.intro ha hV)
        clear ha hb hb2 hV hlen
        by_cases hin : k < s.size
        · have hiz : (k : Int) < (s.size : Int) := by omega
          obtain ⟨x, hx⟩ : ∃ x : UInt8, s[k] = x := ⟨_, rfl⟩
          have hxl : s.data.toList[k]? = some x := by rw [← hx]; exact Lib.data_getElem? s k hin
          have hxz : (x.toNat : Int) < 256 := by have := x.toNat_lt; omega
          have HX := Lib.hid hxl
          clear hxl
          by_cases hd1 : x.toNat < 48
          · have HN := Lib.hid (not_num (most := most) HX.out (by unfold dig; rw [decide_eq_false (show ¬ 48 ≤ x.toNat by omega)]; rfl))
            go_wp2_with fail
            go_ret2
            exact ⟨0, false, rfl, Lib.hid ⟨HN.out.symm, by rw [HN.out]; rfl⟩, rfl⟩
          · by_cases hd2 : 57 < x.toNat
            · have HN := Lib.hid (not_num (most := most) HX.out (by unfold dig; rw [decide_eq_false (show ¬ x.toNat ≤ 57 by omega)]; simp))
              go_wp2_with fail
              go_ret2
              exact ⟨0, false, rfl, Lib.hid ⟨HN.out.symm, by rw [HN.out]; rfl⟩, rfl⟩
            · have hd : dig x = true := by unfold dig; rw [decide_eq_true (show 48 ≤ x.toNat by omega), decide_eq_true (show x.toNat ≤ 57 by omega)]; rfl
              have e1 : s.data.toList.take (k + 1) = s.data.toList.take k ++ [x] := by rw [List.take_add_one, HX.out]; rfl
              have e2 : (s.data.toList.take (k + 1)).all dig = true := by rw [e1, List.all_append, HA.out.1]; simp [hd]
              have e3 : dval (s.data.toList.take (k + 1)) = 10 * V + (x.toNat - 48) := by rw [e1, dval_snoc, HA.out.2]
              have HE := Lib.hid (And.intro e2 e3)
              clear hd e1 e2 e3
              go_wp2_with fail
              go_round
              case rel => exact ⟨k + 1, by omega, by go_num, by rw [HE.out.2]; exact congrArg (Value.int .u64) (by omega), HE.out.1⟩
              case measure => simp [intOf]; omega
        · obtain rfl : k = s.size := by omega
          have e : s.data.toList.length = s.size := by rw [Array.length_toList]; rfl
          have ha := HA.out
          rw [List.take_of_length_le (by omega)] at ha
          have hn : isNum s most = true := by unfold isNum; rw [ha.1, decide_eq_true (show 1 ≤ s.size by have := Hs.out; omega), decide_eq_true (show s.size ≤ most by have := Hs.out; omega)]; rfl
          have HN := Lib.hid (And.intro hn ha.2)
          clear e ha hn
          go_wp2_with fail
          go_ret2
          exact ⟨V, true, rfl, Lib.hid ⟨HN.out.1.symm, by rw [HN.out.1, if_pos rfl, HN.out.2]⟩, rfl⟩

/-- What cut answers: the first point is at k, or there is none. -/
def Cut (s : ByteArray) (w : World) (e : Ending) (w' : World) : Prop :=
  ∃ (f b : ByteArray) (p : Bool), e = .returned (.tuple #[.string f, .string b, .bool p]) ∧
    Hid ((p = false ∧ f = s ∧ b = ByteArray.empty ∧ (46 : UInt8) ∉ s.data.toList) ∨ (p = true ∧ ∃ k, k < s.size ∧ s.data.toList[k]? = some 46 ∧ (46 : UInt8) ∉ s.data.toList.take k ∧ f = s.extract 0 k ∧ b = s.extract (k + 1) s.size)) ∧ ∃ n, w' = w.drewN n

set_option maxRecDepth 100000 in
set_option maxHeartbeats 1000000 in
theorem cut_any (w : World) (s : ByteArray) (hs : s.size ≤ 1000000) : Calls Tryz.prog 61 #[.string s] w (Cut s w) := by
  go_enter Tryz.func61, Tryz.ntmps61
  go_wp2_with fail
  go_loop [8] (fun i => ∃ k : Nat, k ≤ s.size ∧ i = .int .i64 k ∧ (46 : UInt8) ∉ s.data.toList.take k) (fun i => s.size - (intOf i).toNat)
  case atStart => exact ⟨0, Nat.zero_le _, rfl, by simp⟩
  case round =>
    obtain ⟨k, hk, rfl, ha⟩ := hrel
    have HA := Lib.hid ha
    clear ha
    by_cases hin : k < s.size
    · have hiz : (k : Int) < (s.size : Int) := by omega
      obtain ⟨x, hx⟩ : ∃ x : UInt8, s[k] = x := ⟨_, rfl⟩
      have hxl : s.data.toList[k]? = some x := by rw [← hx]; exact Lib.data_getElem? s k hin
      have HX := Lib.hid hxl
      clear hxl
      by_cases hd1 : x = 46
      · subst hd1
        have i1 : IntKind.i64.wrap ((k : Int) + 1) = (k : Int) + 1 := IntWalk.i64_in _ (by omega)
        have i2 : (0 : Int) ≤ (k : Int) := by omega
        have i3 : (k : Int) ≤ (s.size : Int) := by omega
        have i4 : (k : Int) + 1 ≤ (s.size : Int) := by omega
        go_wp2_with fail
        go_quiet (fail)
        go_wp2_with fail
        go_ret3
        exact ⟨_, _, true, rfl, Lib.hid (.inr ⟨rfl, k, hin, HX.out, HA.out, rfl, rfl⟩), nq, rfl⟩
      · have hne : ¬ x.toNat = 46 := fun e => hd1 (UInt8.toNat_inj.1 (by rw [e]; rfl))
        have z1 : (((x.toNat : Nat) : Int) == 46) = false := beq_eq_false_iff_ne.2 (by omega)
        have e1 : s.data.toList.take (k + 1) = s.data.toList.take k ++ [x] := by rw [List.take_add_one, HX.out]; rfl
        have e2 : (46 : UInt8) ∉ s.data.toList.take (k + 1) := by rw [e1, List.mem_append, List.mem_singleton]; exact fun h => h.elim HA.out (fun h => hd1 h.symm)
        have HE := Lib.hid e2
        clear e1 e2 hne hd1
        go_wp2_with fail
        exact ⟨⟨k + 1, by omega, by go_num, HE.out⟩, by simp [intOf]; omega⟩
    · obtain rfl : k = s.size := by omega
      go_wp2_with fail
      have e : s.data.toList.length = s.size := by rw [Array.length_toList]; rfl
      have ha := HA.out
      rw [List.take_of_length_le (by omega)] at ha
      go_ret3
      exact ⟨_, _, false, rfl, Lib.hid (.inl ⟨rfl, rfl, rfl, ha⟩), 0, rfl⟩

end Go.Proofs.YtbeidpeoichakaaGreatDoor.ge
