/- The reference's Has, Common, Union, Valid, Within. -/
import Derived.Test.YtgmnjiiommbjaaaDx
import Derived.Test.YtgmnjiiommbjaaaDg
import Derived.Test.YtgmnjiiommbjaaaDl
set_option linter.unusedVariables false
set_option linter.unusedSimpArgs false
namespace Go.Proofs.Ytgmnjiiommbjaaa.dist
open Go.RowKit Go.Proofs.Ytgmnjiiommbjaaa.txt Go.Proofs.Ytgmnjiiommbjaaa.tx Go.Proofs.Ytgmnjiiommbjaaa.lev Go.Proofs.Ytgmnjiiommbjaaa.fold

/-- how many of xs stand in ys -/
def cnt (xs ys : List (List UInt8)) : Nat := (xs.filter fun x => decide (x ∈ ys)).length
theorem cnt_cons (x : List UInt8) (xs ys : List (List UInt8)) : cnt (x :: xs) ys = (if x ∈ ys then 1 else 0) + cnt xs ys := by
  unfold cnt
  rw [List.filter_cons]
  by_cases h : x ∈ ys
  · simp [h]; omega
  · simp [h]
theorem cnt_drop (xs ys : List (List UInt8)) (y : List UInt8) (h : ∀ x ∈ xs, x ≠ y) : cnt xs (y :: ys) = cnt xs ys := by
  unfold cnt
  congr 1
  apply List.filter_congr
  intro x hx
  rw [decide_eq_decide, List.mem_cons]
  exact ⟨fun h' => h'.resolve_left (h x hx), .inr⟩
theorem mergeN_cnt (f : Nat) : ∀ xs ys : List (List UInt8), xs.length + ys.length ≤ f → asc xs → asc ys → mergeN f xs ys = cnt xs ys := by
  induction f with
  | zero =>
    intro xs ys h _ _
    rw [List.eq_nil_of_length_eq_zero (show xs.length = 0 by omega), mergeN_nil]
    rfl
  | succ f ih =>
    intro xs ys h hx hy
    cases xs with
    | nil => rw [mergeN_nil]; rfl
    | cons x xs =>
      cases ys with
      | nil => rw [mergeN_nil']; unfold cnt; rw [List.filter_eq_nil_iff.2 (by simp)]; rfl
      | cons y ys =>
        have hx' := List.pairwise_cons.1 hx
        have hy' := List.pairwise_cons.1 hy
        simp only [List.length_cons] at h
        rw [mergeN_cons]
        by_cases h1 : x < y
        · have hn : x ∉ y :: ys := by
            intro hm
            rcases List.mem_cons.1 hm with e | e
            · rw [e] at h1; exact List.lt_irrefl _ h1
            · exact List.lt_irrefl _ (List.lt_trans h1 (hy'.1 x e))
          rw [if_pos h1, ih xs (y :: ys) (by simp only [List.length_cons]; omega) hx'.2 hy, cnt_cons, if_neg hn, Nat.zero_add]
        · by_cases h2 : y < x
          · rw [if_neg h1, if_pos h2, ih (x :: xs) ys (by simp only [List.length_cons]; omega) hx hy'.2, cnt_drop]
            intro z hz e
            rcases List.mem_cons.1 hz with e2 | e2
            · rw [← e, e2] at h2; exact List.lt_irrefl _ h2
            · exact List.lt_irrefl _ (List.lt_trans h2 (by rw [← e]; exact hx'.1 z e2))
          · have e : x = y := List.le_antisymm (List.not_lt.1 h2) (List.not_lt.1 h1)
            subst e
            rw [if_neg h1, if_neg h2, ih xs ys (by omega) hx'.2 hy'.2, cnt_cons, if_pos (List.mem_cons_self), cnt_drop xs ys x (fun z hz e => by rw [e] at hz; exact List.lt_irrefl _ (hx'.1 x hz)), Nat.add_comm]
theorem merge_cnt (xs ys : List (List UInt8)) (hx : asc xs) (hy : asc ys) : merge xs ys = cnt xs ys := mergeN_cnt _ xs ys (Nat.le_refl _) hx hy
theorem cnt_snoc (xs ys : List (List UInt8)) (k : Nat) (x : List UInt8) (hx : xs[k]? = some x) : cnt (xs.take (k + 1)) ys = cnt (xs.take k) ys + (if x ∈ ys then 1 else 0) := by
  unfold cnt
  rw [List.take_add_one, hx, List.filter_append, List.length_append]
  congr 1
  by_cases h : x ∈ ys <;> simp [h]
theorem asc_of {l : List (List UInt8)} (h : ascB l = true) : asc l := by
  induction l with
  | nil => exact List.Pairwise.nil
  | cons a r ih =>
    cases r with
    | nil => exact List.pairwise_cons.2 ⟨fun _ h => by simp at h, List.Pairwise.nil⟩
    | cons b r =>
      unfold ascB at h
      simp only [Bool.and_eq_true, decide_eq_true_eq] at h
      have h2 := ih h.2
      refine List.pairwise_cons.2 ⟨fun z hz => ?_, h2⟩
      rcases List.mem_cons.1 hz with e | e
      · rw [e]; exact h.1
      · exact List.lt_trans h.1 ((List.pairwise_cons.1 h2).1 z e)
theorem cnt_le (xs ys : List (List UInt8)) : cnt xs ys ≤ xs.length := List.length_filter_le _ _

set_option maxRecDepth 100000 in
set_option maxHeartbeats 1000000 in
theorem refHas_any (v : Value) (xs : List (List UInt8)) (s : List UInt8) (w : World) (h : Strs w w.heap.size v xs) (hl : xs.length ≤ 1000000) :
    Calls Try.prog 43 #[v, .string ⟨s.toArray⟩] w fun e w' => e = .returned (.bool (decide (s ∈ xs))) ∧ w' = w := by
  obtain ⟨a, cap, rfl, hp⟩ := h.parts
  go_enter Try.func43, Try.ntmps43
  go_wp2
  go_loopw [9] (fun i wr => ∃ k : Nat, i = .int .i64 (k : Int) ∧ k ≤ xs.length ∧ s ∉ xs.take k ∧ wr = w) (fun i _ => xs.length - (intOf i).toNat)
  case atStart => exact ⟨0, rfl, Nat.zero_le _, by simp, rfl⟩
  case round =>
    obtain ⟨k, rfl, hk, hno, rfl⟩ := hrel
    by_cases hkl : k < xs.length
    · obtain ⟨b, off, rfl, hlt, hc⟩ := hp (by omega)
      obtain ⟨x, hx⟩ : ∃ x, xs[k]? = some x := ⟨_, List.getElem?_eq_getElem hkl⟩
      have cx := hc _ _ hx
      have HX := Lib.hid (And.intro hx hno)
      clear hc hp hx hno
      by_cases he : x = s
      · have hg : (x == s) = true := by simpa using he
        have hm : s ∈ xs := by rw [← he]; exact List.mem_of_getElem? HX.out.1
        have HM := Lib.hid hm
        clear hm he
        go_wp2
        go_ret
        exact ⟨by rw [decide_eq_true HM.out]; rfl, rfl⟩
      · have hg : (x == s) = false := by simpa using he
        have HE := Lib.hid he
        clear he
        go_wp2
        exact ⟨⟨k + 1, by exact congrArg _ (by omega), by omega, by
          intro h'
          rw [List.take_add_one, HX.out.1] at h'
          rcases List.mem_append.1 h' with h' | h'
          · exact HX.out.2 h'
          · exact HE.out (List.mem_singleton.1 h').symm, by trivial⟩, by simp [intOf] <;> omega⟩
    · obtain rfl : k = xs.length := by omega
      rw [List.take_length] at hno
      have HM := Lib.hid hno
      clear hno
      go_wp2
      go_ret
      exact ⟨by rw [decide_eq_false HM.out]; rfl, rfl⟩

set_option maxRecDepth 100000 in
set_option maxHeartbeats 1000000 in
theorem refCommon_any (v u : Value) (xs ys : List (List UInt8)) (w : World) (h : Strs w w.heap.size v xs) (h' : Strs w w.heap.size u ys) (hl : xs.length ≤ 1000000) (hl' : ys.length ≤ 1000000) :
    Calls Try.prog 27 #[v, u] w fun e w' => e = .returned (.int .i64 (comV xs ys : Int)) ∧ Drew w w' := by
  obtain ⟨a, cap, rfl, hp⟩ := h.parts
  have HT := Lib.hid (And.intro h (And.intro h' hp))
  clear h h' hp
  go_enter Try.func27, Try.ntmps27
  go_wp2_with fail
  refine (refIsSet_any _ xs w HT.out.1 hl).mono ?_
  rintro _ w1 ⟨rfl, m1, rfl⟩
  by_cases ha : ascB xs = true
  · rw [ha]
    go_wp2_with fail
    refine (refIsSet_any u ys _ (show Strs (w.drewN m1) _ u ys from HT.out.2.1) hl').mono ?_
    rintro _ w2 ⟨rfl, m2, rfl⟩
    by_cases hb : ascB ys = true
    · rw [hb]
      have HV := Lib.hid (show comV xs ys = cnt xs ys by unfold comV; rw [if_pos ⟨ha, hb⟩]; exact merge_cnt xs ys (asc_of ha) (asc_of hb))
      go_wp2_with fail
      go_loopw [5, 18] (fun c i wr => ∃ k : Nat, i = .int .i64 (k : Int) ∧ k ≤ xs.length ∧ c = .int .i64 (cnt (xs.take k) ys : Int) ∧ wr = w.drewN (m1 + m2)) (fun _ i _ => xs.length - (intOf i).toNat)
      case atStart => exact ⟨0, rfl, Nat.zero_le _, rfl, rfl⟩
      case round =>
        obtain ⟨k, rfl, hk, rfl, rfl⟩ := hrel
        by_cases hkl : k < xs.length
        · obtain ⟨b, off, rfl, hlt, hc⟩ := HT.out.2.2 (by omega)
          obtain ⟨x, hx⟩ : ∃ x, xs[k]? = some x := ⟨_, List.getElem?_eq_getElem hkl⟩
          have cx := hc _ _ hx
          have hs := cnt_snoc xs ys k x hx
          have hcl := cnt_le (xs.take k) ys
          rw [List.length_take] at hcl
          obtain ⟨n, hn⟩ : ∃ n, n = cnt (xs.take k) ys := ⟨_, rfl⟩
          rw [← hn] at hs hcl ⊢
          have HS := Lib.hid hs
          have hkl2 : (k : Int) < (xs.length : Int) := by omega
          have e1 : IntKind.i64.wrap ((n : Int) + 1) = (n : Int) + 1 := IntWalk.i64_in _ (by omega)
          have e2 : IntKind.i64.wrap ((k : Int) + 1) = (k : Int) + 1 := IntWalk.i64_in _ (by omega)
          clear hs hc hx hn
          go_wp2_with fail
          refine (refHas_any u ys x _ (show Strs (w.drewN (m1 + m2)) _ u ys from HT.out.2.1) hl').mono ?_
          rintro _ w3 ⟨rfl, rfl⟩
          by_cases hm : x ∈ ys
          · rw [decide_eq_true hm]
            have HM := Lib.hid hm
            clear hm
            go_wp2_with fail
            exact ⟨⟨k + 1, by exact congrArg _ (by omega), by omega, by rw [HS.out, if_pos HM.out]; exact congrArg _ (by omega), trivial⟩, by simp [intOf] <;> omega⟩
          · rw [decide_eq_false hm]
            have HM := Lib.hid hm
            clear hm
            go_wp2_with fail
            exact ⟨⟨k + 1, by exact congrArg _ (by omega), by omega, by rw [HS.out, if_neg HM.out]; exact congrArg _ (by omega), trivial⟩, by simp [intOf] <;> omega⟩
        · obtain rfl : k = xs.length := by omega
          have hkl2 : ¬ ((xs.length : Nat) : Int) < (xs.length : Int) := by omega
          go_wp2_with fail
          go_ret
          refine ⟨?_, ⟨_, rfl⟩⟩
          rw [HV.out]
          rfl
    · have hb' : ascB ys = false := by simpa using hb
      rw [hb']
      have HV := Lib.hid (show comV xs ys = 0 by unfold comV; rw [if_neg (by simp [hb'])])
      go_wp2_with fail
      go_ret
      exact ⟨by rw [HV.out]; rfl, ⟨_, rfl⟩⟩
  · have ha' : ascB xs = false := by simpa using ha
    rw [ha']
    have HV := Lib.hid (show comV xs ys = 0 by unfold comV; rw [if_neg (by simp [ha'])])
    go_wp2_with fail
    go_ret
    exact ⟨by rw [HV.out]; rfl, ⟨m1, rfl⟩⟩

set_option maxRecDepth 100000 in
set_option maxHeartbeats 1000000 in
theorem refUnion_any (v u : Value) (xs ys : List (List UInt8)) (w : World) (h : Strs w w.heap.size v xs) (h' : Strs w w.heap.size u ys) (hl : xs.length ≤ 1000000) (hl' : ys.length ≤ 1000000) :
    Calls Try.prog 29 #[v, u] w fun e w' => e = .returned (.int .i64 (uniV xs ys : Int)) ∧ Drew w w' := by
  obtain ⟨a, cap, rfl, hp⟩ := h.parts
  obtain ⟨a2, cap2, rfl, hp2⟩ := h'.parts
  have HT := Lib.hid (And.intro h h')
  clear h h' hp hp2
  go_enter Try.func29, Try.ntmps29
  go_wp2_with fail
  refine (refIsSet_any _ xs w HT.out.1 hl).mono ?_
  rintro _ w1 ⟨rfl, m1, rfl⟩
  by_cases ha : ascB xs = true
  · rw [ha]
    go_wp2_with fail
    refine (refIsSet_any _ ys _ (show Strs (w.drewN m1) _ _ ys from HT.out.2) hl').mono ?_
    rintro _ w2 ⟨rfl, m2, rfl⟩
    by_cases hb : ascB ys = true
    · rw [hb]
      have hle := merge_le xs ys
      have hc : comV xs ys = merge xs ys := by unfold comV; rw [if_pos ⟨ha, hb⟩]
      have HV := Lib.hid (show (uniV xs ys : Int) = (xs.length : Int) + (ys.length : Int) - (merge xs ys : Int) by unfold uniV; rw [if_pos ⟨ha, hb⟩]; omega)
      go_wp2_with fail
      refine (refCommon_any _ _ xs ys _ (show Strs (w.drewN (m1 + m2)) _ _ xs from HT.out.1) (show Strs (w.drewN (m1 + m2)) _ _ ys from HT.out.2) hl hl').mono ?_
      rintro _ w3 ⟨rfl, m3, rfl⟩
      rw [hc]
      obtain ⟨mm, hmm⟩ : ∃ mm, mm = merge xs ys := ⟨_, rfl⟩
      rw [← hmm] at hle HV ⊢
      have e1 : IntKind.i64.wrap ((xs.length : Int) + (ys.length : Int)) = (xs.length : Int) + (ys.length : Int) := IntWalk.i64_in _ (by omega)
      have e2 : IntKind.i64.wrap ((xs.length : Int) + (ys.length : Int) - (mm : Int)) = (xs.length : Int) + (ys.length : Int) - (mm : Int) := IntWalk.i64_in _ (by omega)
      go_wp2_with fail
      go_ret
      refine ⟨?_, ⟨_, rfl⟩⟩
      have hv := HV.out
      have hr : ∀ q : Int, q = (uniV xs ys : Int) → Ending.returned (Value.int .i64 q) = Ending.returned (Value.int .i64 (uniV xs ys : Int)) := fun q h => by rw [h]
      exact hr _ (by rw [hv]; try rw [hmm])
    · have hb' : ascB ys = false := by simpa using hb
      rw [hb']
      have HV := Lib.hid (show uniV xs ys = 0 by unfold uniV; rw [if_neg (by simp [hb'])])
      go_wp2_with fail
      go_ret
      exact ⟨by rw [HV.out]; rfl, ⟨_, rfl⟩⟩
  · have ha' : ascB xs = false := by simpa using ha
    rw [ha']
    have HV := Lib.hid (show uniV xs ys = 0 by unfold uniV; rw [if_neg (by simp [ha'])])
    go_wp2_with fail
    go_ret
    exact ⟨by rw [HV.out]; rfl, ⟨m1, rfl⟩⟩

def wiV (e : Nat) (l : Int) : Int := if (e : Int) ≤ l then (e : Int) else 0
def wiB (e : Nat) (l : Int) : Bool := decide ((e : Int) ≤ l)
set_option maxRecDepth 100000 in
set_option maxHeartbeats 1000000 in
theorem refWithin_any (a b : List UInt8) (l : Int) (w : World) (ha : a.length ≤ 1000000) (hb : b.length ≤ 1000000) :
    Calls Try.prog 14 #[.string ⟨a.toArray⟩, .string ⟨b.toArray⟩, .int .i64 l] w fun e w' => e = .returned (.tuple #[.int .i64 (wiV (E a b) l), .bool (wiB (E a b) l)]) ∧ Below w.heap.size w w' := by
  go_enter Try.func14, Try.ntmps14
  go_wp2_with fail
  refine (refEdit_any a b w ha hb).mono ?_
  rintro _ w1 ⟨rfl, b1⟩
  have HB := Lib.hid b1
  clear b1
  by_cases h : (E a b : Int) ≤ l
  · have HH := Lib.hid h
    go_wp2_with fail
    go_ret2
    exact ⟨by unfold wiV wiB; rw [if_pos HH.out, decide_eq_true HH.out]; rfl, HB.out⟩
  · have HH := Lib.hid h
    go_wp2_with fail
    go_ret2
    exact ⟨by unfold wiV wiB; rw [if_neg (show ¬ (E a b : Int) ≤ l by have := HH.out; omega), decide_eq_false (show ¬ (E a b : Int) ≤ l by have := HH.out; omega)]; rfl, HB.out⟩
end Go.Proofs.Ytgmnjiiommbjaaa.dist
