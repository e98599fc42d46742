/- Within at any limit; Lengths of both sides at any rule and number. -/
import Derived.Test.YtgmnjiiommbjaaaDz
set_option linter.unusedVariables false
set_option linter.unusedSimpArgs false
namespace Go.Proofs.Ytgmnjiiommbjaaa.dist
open Go.RowKit Go.Proofs.Ytgmnjiiommbjaaa.txt Go.Proofs.Ytgmnjiiommbjaaa.tx Go.Proofs.Ytgmnjiiommbjaaa.lev Go.Proofs.Ytgmnjiiommbjaaa.fold

set_option maxRecDepth 100000 in
set_option maxHeartbeats 1000000 in
theorem within_int (a b : List UInt8) (l : Int) (w : World) (ha : a.length ≤ 1000000) (hb : b.length ≤ 1000000) :
    Calls Try.prog 13 #[.string ⟨a.toArray⟩, .string ⟨b.toArray⟩, .int .i64 l] w fun e w' => e = .returned (.tuple #[.int .i64 (wiV (E a b) l), .bool (wiB (E a b) l)]) ∧ Below w.heap.size w w' := by
  by_cases h : l < 0
  · have HH := Lib.hid h
    go_enter Try.func13, Try.ntmps13
    go_wp2_with fail
    go_ret2
    exact ⟨by unfold wiV wiB; rw [if_neg (show ¬ (E a b : Int) ≤ l by have := HH.out; omega), decide_eq_false (show ¬ (E a b : Int) ≤ l by have := HH.out; omega)]; rfl, Below.refl _ w⟩
  · obtain ⟨m, rfl⟩ : ∃ m : Nat, l = m := ⟨l.toNat, by omega⟩
    refine (within_any a b m w ha hb).mono ?_
    rintro _ w1 ⟨rfl, b1⟩
    refine ⟨?_, b1⟩
    unfold wiV wiB withinV
    by_cases h2 : E a b ≤ m
    · have h3 : (E a b : Int) ≤ (m : Int) := by omega
      simp [h2, h3]
    · have h3 : ¬ (E a b : Int) ≤ (m : Int) := by omega
      simp [h2, h3]

/-- what Lengths gives -/
def lenOk (k l n d x : Int) : Bool := okR k l n d && (!(k == 3) && !(decide (x < 0)))
def lenLo (k l n d x : Int) : Int := if lenOk k l n d x then max 0 (x - l) else 0
def lenHi (k l n d x : Int) : Int := if lenOk k l n d x then x + l else 0

theorem lenOk_true {k l n d x : Int} (h : okR k l n d = true) (h1 : (k == 3) = false) (h2 : ¬ x < 0) : lenOk k l n d x = true := by unfold lenOk; rw [h, h1, decide_eq_false h2]; rfl
theorem len_ret {k l n d x : Int} (h : lenOk k l n d x = true) (a b : Int) (ha : a = max 0 (x - l)) (hb : b = x + l) : Ending.returned (Value.tuple #[.int .i64 a, .int .i64 b, .bool true]) = Ending.returned (Value.tuple #[.int .i64 (lenLo k l n d x), .int .i64 (lenHi k l n d x), .bool (lenOk k l n d x)]) := by
  unfold lenLo lenHi
  rw [h, ha, hb, if_pos rfl, if_pos rfl]
theorem ok_small {k l n d : Int} (h : okR k l n d = true) : 0 ≤ l ∧ l ≤ 8 := by
  unfold okR at h
  have := of_decide_eq_true h
  omega

set_option maxRecDepth 100000 in
set_option maxHeartbeats 2000000 in
theorem lengths_all (k l n d x : Int) (w : World) (hx : x ≤ 1000000) :
    Calls Try.prog 23 #[ruleV k l n d, .int .i64 x] w fun e w' => e = .returned (.tuple #[.int .i64 (lenLo k l n d x), .int .i64 (lenHi k l n d x), .bool (lenOk k l n d x)]) ∧ Below w.heap.size w w' := by
  obtain ⟨R, hR⟩ : ∃ R, R = okR k l n d := ⟨_, rfl⟩
  have hva := fun W => valid_any k l n d W
  simp only [← hR] at hva
  have HR := Lib.hid hR
  clear hR
  go_enter Try.func23, Try.ntmps23
  have hb0 : ∀ v, Below w.heap.size w (w.alloc (.cells v 24)) := fun v => (Below.refl _ w).alloc (Nat.le_refl _) _
  have HB := Lib.hid hb0
  clear hb0
  go_wp2_with fail
  refine (hva _).mono ?_
  rintro _ w1 ⟨rfl, b1⟩
  clear hva
  have c0 : w1.cell? ⟨w.heap.size, 0, none⟩ = some (.int .i64 k) := (b1.cell (p := ⟨w.heap.size, 0, none⟩) (by simp)).trans (by rw [World.cell?_alloc_new]; rfl)
  have c1 : w1.cell? ⟨w.heap.size, 1, none⟩ = some (.int .i64 l) := (b1.cell (p := ⟨w.heap.size, 1, none⟩) (by simp)).trans (by rw [World.cell?_alloc_new]; rfl)
  have HW := Lib.hid ((HB.out _).trans (b1.mono (by simp)))
  clear b1
  cases R
  · have HL := Lib.hid (show lenOk k l n d x = false by unfold lenOk; rw [← HR.out]; rfl)
    go_wp2_with fail
    go_returns
    exact ⟨by unfold lenLo lenHi; rw [HL.out]; rfl, HW.out⟩
  · have hsm := ok_small HR.out.symm
    by_cases hk : k = 3
    · have hk' : (k == 3) = true := by simpa using hk
      have HL := Lib.hid (show lenOk k l n d x = false by unfold lenOk; rw [← HR.out, hk']; rfl)
      clear hk
      go_wp2_with fail
      go_returns
      exact ⟨by unfold lenLo lenHi; rw [HL.out]; rfl, HW.out⟩
    · have hk' : (k == 3) = false := by simpa using hk
      by_cases hx0 : x < 0
      · have HL := Lib.hid (show lenOk k l n d x = false by unfold lenOk; rw [← HR.out, hk', decide_eq_true hx0]; rfl)
        clear hk
        go_wp2_with fail
        go_returns
        exact ⟨by unfold lenLo lenHi; rw [HL.out]; rfl, HW.out⟩
      · have HL := Lib.hid (lenOk_true HR.out.symm hk' hx0)
        have e1 : IntKind.i64.wrap (x - l) = x - l := IntWalk.i64_in _ (by omega)
        have e2 : IntKind.i64.wrap (9223372036854775807 - x) = 9223372036854775807 - x := IntWalk.i64_in _ (by omega)
        have g1 : ¬ 9223372036854775807 - x < l := by omega
        have e3 : IntKind.i64.wrap (x + l) = x + l := IntWalk.i64_in _ (by omega)
        clear hk
        by_cases hnb : (0 : Int) < x - l
        · have HM := Lib.hid (show max 0 (x - l) = x - l by omega)
          go_wp2_with fail
          go_quiet (fail)
          go_wp2_with fail
          go_returns
          exact ⟨len_ret HL.out _ _ (by have := HM.out; omega) (by omega), below_drewN HW.out _⟩
        · have HM := Lib.hid (show max 0 (x - l) = 0 by omega)
          go_wp2_with fail
          go_quiet (fail)
          go_wp2_with fail
          go_returns
          exact ⟨len_ret HL.out _ _ (by have := HM.out; omega) (by omega), below_drewN HW.out _⟩

set_option maxRecDepth 100000 in
set_option maxHeartbeats 2000000 in
theorem refLengths_all (k l n d x : Int) (w : World) (hx : x ≤ 1000000) :
    Calls Try.prog 24 #[ruleV k l n d, .int .i64 x] w fun e w' => e = .returned (.tuple #[.int .i64 (lenLo k l n d x), .int .i64 (lenHi k l n d x), .bool (lenOk k l n d x)]) ∧ Below w.heap.size w w' := by
  obtain ⟨R, hR⟩ : ∃ R, R = okR k l n d := ⟨_, rfl⟩
  have hva := fun W => refValid_any k l n d W
  simp only [← hR] at hva
  have HR := Lib.hid hR
  clear hR
  go_enter Try.func24, Try.ntmps24
  have hb0 : ∀ v, Below w.heap.size w (w.alloc (.cells v 24)) := fun v => (Below.refl _ w).alloc (Nat.le_refl _) _
  have HB := Lib.hid hb0
  clear hb0
  go_wp2_with fail
  refine (hva _).mono ?_
  rintro _ w1 ⟨rfl, b1⟩
  clear hva
  have c0 : w1.cell? ⟨w.heap.size, 0, none⟩ = some (.int .i64 k) := (b1.cell (p := ⟨w.heap.size, 0, none⟩) (by simp)).trans (by rw [World.cell?_alloc_new]; rfl)
  have c1 : w1.cell? ⟨w.heap.size, 1, none⟩ = some (.int .i64 l) := (b1.cell (p := ⟨w.heap.size, 1, none⟩) (by simp)).trans (by rw [World.cell?_alloc_new]; rfl)
  have HW := Lib.hid ((HB.out _).trans (b1.mono (by simp)))
  clear b1
  cases R
  · have HL := Lib.hid (show lenOk k l n d x = false by unfold lenOk; rw [← HR.out]; rfl)
    go_wp2_with fail
    go_returns
    exact ⟨by unfold lenLo lenHi; rw [HL.out]; rfl, HW.out⟩
  · have hsm := ok_small HR.out.symm
    by_cases hk : k = 3
    · have hk' : (k == 3) = true := by simpa using hk
      have HL := Lib.hid (show lenOk k l n d x = false by unfold lenOk; rw [← HR.out, hk']; rfl)
      clear hk
      go_wp2_with fail
      go_returns
      exact ⟨by unfold lenLo lenHi; rw [HL.out]; rfl, HW.out⟩
    · have hk' : (k == 3) = false := by simpa using hk
      by_cases hx0 : x < 0
      · have HL := Lib.hid (show lenOk k l n d x = false by unfold lenOk; rw [← HR.out, hk', decide_eq_true hx0]; rfl)
        clear hk
        go_wp2_with fail
        go_returns
        exact ⟨by unfold lenLo lenHi; rw [HL.out]; rfl, HW.out⟩
      · have HL := Lib.hid (lenOk_true HR.out.symm hk' hx0)
        have e1 : IntKind.i64.wrap (x - l) = x - l := IntWalk.i64_in _ (by omega)
        have e3 : IntKind.i64.wrap (x + l) = x + l := IntWalk.i64_in _ (by omega)
        clear hk
        by_cases hnb : (0 : Int) < x - l
        · have HM := Lib.hid (show max 0 (x - l) = x - l by omega)
          go_wp2_with fail
          go_quiet (fail)
          go_wp2_with fail
          go_returns
          exact ⟨len_ret HL.out _ _ (by have := HM.out; omega) (by omega), below_drewN HW.out _⟩
        · have HM := Lib.hid (show max 0 (x - l) = 0 by omega)
          go_wp2_with fail
          go_quiet (fail)
          go_wp2_with fail
          go_returns
          exact ⟨len_ret HL.out _ _ (by have := HM.out; omega) (by omega), below_drewN HW.out _⟩
end Go.Proofs.Ytgmnjiiommbjaaa.dist
