/- distance.Edit, Within, Common, Union, Tokens. -/
import Derived.Test.YtgmnjiiommbjaaaDe
import Derived.Test.YtgmnjiiommbjaaaCd
import Derived.Test.YtgmnjiiommbjaaaBk
set_option linter.unusedVariables false
set_option linter.unusedSimpArgs false
namespace Go.Proofs.Ytgmnjiiommbjaaa.dist
open Go.RowKit Go.Proofs.Ytgmnjiiommbjaaa.txt Go.Proofs.Ytgmnjiiommbjaaa.tx Go.Proofs.Ytgmnjiiommbjaaa.lev Go.Proofs.Ytgmnjiiommbjaaa.fold

theorem nums_of_own {w : World} {B : Nat} {v : Value} {xs : List Int} (h : w.ownsRow B 3 1 v xs.length (xs.map pts.encInt)) : Nums w w.heap.size v xs := by
  have h' := h
  rcases h.2 with ⟨rfl, h0⟩ | ⟨g, cap, cur, rfl, hB, hg, hnc, hcm, hcs, ht⟩
  · exact .inl ⟨List.eq_nil_of_length_eq_zero h0, none, 0, rfl⟩
  · refine .inr ⟨g, 0, cap, rfl, hnc, hcm, (Array.getElem?_eq_some_iff.1 hg).1, fun j x hx => ?_⟩
    have := h'.cells (g := g) rfl j (pts.encInt x) (by rw [List.getElem?_map, hx]; rfl)
    by_cases hj : j = 0
    · subst hj; simpa [Addr.add, pts.encInt] using this
    · simpa [Addr.add, pts.encInt, hj] using this
theorem Nums.to {w w' : World} {v : Value} {xs : List Int} (h : Nums w w.heap.size v xs) (hb : Below w.heap.size w w') : Nums w' w'.heap.size v xs := (h.below hb).more hb.size

/-- the code points of a text; the edit distance of two texts -/
abbrev P (a : List UInt8) : List Int := pts.points ⟨a.toArray⟩
abbrev E (a b : List UInt8) : Nat := lev (P a) (P b)
theorem P_len (a : List UInt8) : (P a).length ≤ a.length := Nat.le_trans (pts.points_length _) (by simp [ByteArray.size])

theorem pointsL (X : List UInt8) (w : World) (hs : X.length ≤ 1000000) :
    Calls Try.prog 34 #[.string ⟨X.toArray⟩] w fun e w' => ∃ v, e = .returned v ∧ Nums w' w'.heap.size v (P X) ∧ Below w.heap.size w w' :=
  (pts.points_any ⟨X.toArray⟩ (by simpa [ByteArray.size] using hs) w).mono fun _ _ ⟨v, h1, h2, h3⟩ => ⟨v, h1, nums_of_own h2, h3⟩

set_option maxRecDepth 100000 in
set_option maxHeartbeats 1000000 in
theorem edit_any (a b : List UInt8) (w : World) (ha : a.length ≤ 1000000) (hb : b.length ≤ 1000000) :
    Calls Try.prog 11 #[.string ⟨a.toArray⟩, .string ⟨b.toArray⟩] w fun e w' => e = .returned (.int .i64 (E a b : Int)) ∧ Below w.heap.size w w' := by
  go_enter Try.func11, Try.ntmps11
  go_wp2_with fail
  refine (pointsL a w ha).mono ?_
  rintro _ w1 ⟨v1, rfl, n1, b1⟩
  go_wp2_with fail
  refine (pointsL b w1 hb).mono ?_
  rintro _ w2 ⟨v2, rfl, n2, b2⟩
  have n1' := n1.to b2
  have hp := P_len a
  have hq := P_len b
  have hmax := lev_max (P a) (P b)
  have hE : E a b = lev (P a) (P b) := rfl
  obtain ⟨p, hpp⟩ : ∃ p, p = P a := ⟨_, rfl⟩
  obtain ⟨q, hqq⟩ : ∃ q, q = P b := ⟨_, rfl⟩
  rw [← hpp, ← hqq] at hmax hE
  rw [← hpp] at n1' hp
  rw [← hqq] at n2 hq
  obtain ⟨A, C, rfl⟩ := n1'.len
  obtain ⟨A', C', rfl⟩ := n2.len
  have HN := Lib.hid (And.intro n1' (And.intro n2 (And.intro (b1.trans (b2.mono b1.size)) (And.intro hE hmax))))
  clear n1 n1' n2 b1 b2 hE hmax hpp hqq
  go_wp2_with fail
  rw [show max (p.length : Int) (q.length : Int) = ((max p.length q.length : Nat) : Int) by omega]
  refine (distance_any _ _ p q (max p.length q.length) w2 HN.out.1 HN.out.2.1 (by omega) (by omega) (by omega)).mono ?_
  rintro _ w3 ⟨rfl, b3⟩
  have HB := Lib.hid (HN.out.2.2.1.trans (b3.mono HN.out.2.2.1.size))
  go_wp2
  go_ret
  refine ⟨?_, HB.out⟩
  have h2 := HN.out.2.2.2.2
  rw [HN.out.2.2.2.1]
  exact congrArg (fun n : Nat => Ending.returned (Value.int .i64 (n : Int))) (by omega)

def withinV (e l : Nat) : Nat := if e ≤ l then e else 0

set_option maxRecDepth 100000 in
set_option maxHeartbeats 2000000 in
theorem within_any (a b : List UInt8) (l : Nat) (w : World) (ha : a.length ≤ 1000000) (hb : b.length ≤ 1000000) :
    Calls Try.prog 13 #[.string ⟨a.toArray⟩, .string ⟨b.toArray⟩, .int .i64 (l : Int)] w fun e w' => e = .returned (.tuple #[.int .i64 (withinV (E a b) l : Int), .bool (decide (E a b ≤ l))]) ∧ Below w.heap.size w w' := by
  go_enter Try.func13, Try.ntmps13
  have hl0 : ¬ (l : Int) < 0 := by omega
  go_wp2_with fail
  refine (pointsL a w ha).mono ?_
  rintro _ w1 ⟨v1, rfl, n1, b1⟩
  go_wp2_with fail
  refine (pointsL b w1 hb).mono ?_
  rintro _ w2 ⟨v2, rfl, n2, b2⟩
  have n1' := n1.to b2
  have hp := P_len a
  have hq := P_len b
  have hmax := lev_max (P a) (P b)
  obtain ⟨EE, hE⟩ : ∃ EE, EE = E a b := ⟨_, rfl⟩
  obtain ⟨p, hpp⟩ : ∃ p, p = P a := ⟨_, rfl⟩
  obtain ⟨q, hqq⟩ : ∃ q, q = P b := ⟨_, rfl⟩
  have hE2 : EE = lev p q := by rw [hE, hpp, hqq]
  rw [← hpp, ← hqq, ← hE2] at hmax
  rw [← hpp] at n1' hp
  rw [← hqq] at n2 hq
  obtain ⟨A, C, rfl⟩ := n1'.len
  obtain ⟨A', C', rfl⟩ := n2.len
  have HN := Lib.hid (And.intro n1' (And.intro n2 (And.intro (b1.trans (b2.mono b1.size)) (And.intro hE2 hE))))
  clear n1 n1' n2 b1 b2 hE hE2 hpp hqq
  obtain ⟨M, hM⟩ : ∃ M, M = max p.length q.length := ⟨_, rfl⟩
  rw [← hM] at hmax
  obtain ⟨L, hL⟩ : ∃ L, L = min l M := ⟨_, rfl⟩
  have hLM : min (l : Int) (max (p.length : Int) (q.length : Int)) = (L : Int) := by omega
  have hcalls := distance_any _ _ p q L w2 HN.out.1 HN.out.2.1 (by omega) (by omega) (by omega)
  rw [← HN.out.2.2.2.1] at hcalls
  have hkey : (min EE (L + 1) ≤ L ↔ EE ≤ l) ∧ (EE ≤ l → min EE (L + 1) = EE) := by omega
  have HC := Lib.hid (And.intro hcalls hkey)
  have HLM := Lib.hid hLM
  clear hcalls hkey hLM hM hmax
  have hL2 : L ≤ l := by omega
  clear hL
  go_upto_region 5 with fail
  rw [HLM.out]
  go_wp2_with fail
  refine HC.out.1.mono ?_
  rintro _ w3 ⟨rfl, b3⟩
  have HB := Lib.hid (HN.out.2.2.1.trans (b3.mono HN.out.2.2.1.size))
  clear b3
  by_cases hle : EE ≤ l
  · have e1 := HC.out.2.2 hle
    have e2 : ((min EE (L + 1) : Nat) : Int) ≤ (L : Int) := by have := HC.out.2.1.2 hle; omega
    rw [e1] at e2 ⊢
    clear e1
    go_wp2
    go_ret2
    refine ⟨?_, HB.out⟩
    have hle' : E a b ≤ l := by rw [← HN.out.2.2.2.2]; exact hle
    have h1 : withinV (E a b) l = EE := by unfold withinV; rw [if_pos hle']; exact HN.out.2.2.2.2.symm
    rw [h1, decide_eq_true hle']
    rfl
  · have e2 : ¬ ((min EE (L + 1) : Nat) : Int) ≤ (L : Int) := by
      intro h
      exact hle (HC.out.2.1.1 (by omega))
    generalize min EE (L + 1) = K at *
    go_wp2
    go_ret2
    refine ⟨?_, HB.out⟩
    have hle' : ¬ E a b ≤ l := by rw [← HN.out.2.2.2.2]; exact hle
    have h1 : withinV (E a b) l = 0 := if_neg hle'
    rw [h1, decide_eq_false hle']
    rfl

-- sets of texts
theorem Texts.to {w w' : World} {v : Value} {xs : List (List UInt8)} (h : Texts w w.heap.size v xs) (hb : Below w.heap.size w w') : Texts w' w'.heap.size v xs := (h.below hb).more hb.size

theorem mergeN_le (f : Nat) : ∀ xs ys, mergeN f xs ys ≤ xs.length := by
  induction f with
  | zero => intro xs ys; exact Nat.zero_le _
  | succ f ih =>
    intro xs ys
    cases xs with
    | nil => rw [mergeN_nil]; exact Nat.zero_le _
    | cons x xs =>
      cases ys with
      | nil => rw [mergeN_nil']; exact Nat.zero_le _
      | cons y ys =>
        rw [mergeN_cons, List.length_cons]
        have h1 := ih xs (y :: ys)
        have h2 := ih (x :: xs) ys
        have h3 := ih xs ys
        rw [List.length_cons] at h2
        split
        · omega
        · split <;> omega
theorem merge_le (xs ys : List (List UInt8)) : merge xs ys ≤ xs.length := mergeN_le _ _ _

def comV (xs ys : List (List UInt8)) : Nat := if ascB xs = true ∧ ascB ys = true then merge xs ys else 0
def uniV (xs ys : List (List UInt8)) : Nat := if ascB xs = true ∧ ascB ys = true then xs.length + ys.length - merge xs ys else 0
theorem drew_trans {a b c : World} (h : Drew a b) (h' : Drew b c) : Drew a c := by
  obtain ⟨m, rfl⟩ := h
  obtain ⟨n, rfl⟩ := h'
  exact Drew.more m n

set_option maxRecDepth 100000 in
set_option maxHeartbeats 1000000 in
theorem common_any (v u : Value) (xs ys : List (List UInt8)) (w : World) (h : Texts w w.heap.size v xs) (h' : Texts w w.heap.size u ys) (hl : xs.length ≤ 1000000) (hl' : ys.length ≤ 1000000) :
    Calls Try.prog 26 #[v, u] w fun e w' => e = .returned (.int .i64 (comV xs ys : Int)) ∧ Drew w w' := by
  go_enter Try.func26, Try.ntmps26
  have HT := Lib.hid (And.intro h h')
  clear h h'
  go_wp2_with fail
  refine (isSet_any v xs w HT.out.1.strs hl).mono ?_
  rintro _ w1 ⟨rfl, d1⟩
  have t1 := HT.out.1.to (d1.below _)
  have t2 := HT.out.2.to (d1.below _)
  have H1 := Lib.hid (And.intro d1 (And.intro t1 t2))
  clear d1 t1 t2 HT
  obtain ⟨A, hA⟩ : ∃ A, A = ascB xs := ⟨_, rfl⟩
  obtain ⟨B, hB⟩ : ∃ B, B = ascB ys := ⟨_, rfl⟩
  have HX := Lib.hid (And.intro hA hB)
  rw [← hA]
  clear hA
  cases A
  · clear hB
    go_wp2_with fail
    go_ret
    exact ⟨by unfold comV; rw [← HX.out.1, if_neg (by simp)]; rfl, H1.out.1⟩
  · go_wp2_with fail
    refine (isSet_any u ys w1 H1.out.2.2.strs hl').mono ?_
    rintro _ w2 ⟨rfl, d2⟩
    rw [← hB]
    clear hB
    have H2 := Lib.hid (And.intro (drew_trans H1.out.1 d2) (And.intro (H1.out.2.1.to (d2.below _)) (H1.out.2.2.to (d2.below _))))
    clear d2 H1
    cases B
    · go_wp2_with fail
      go_ret
      exact ⟨by unfold comV; rw [← HX.out.2, if_neg (by simp)]; rfl, H2.out.1⟩
    · go_wp2_with fail
      refine (ascend_any v u xs ys w2 w2.heap.size H2.out.2.1 H2.out.2.2 hl hl').mono ?_
      rintro _ w3 ⟨rfl, d3⟩
      have HD := Lib.hid (drew_trans H2.out.1 d3)
      clear d3
      go_wp2
      go_ret
      exact ⟨by unfold comV; rw [← HX.out.1, ← HX.out.2, if_pos ⟨rfl, rfl⟩]; rfl, HD.out⟩

set_option maxRecDepth 100000 in
set_option maxHeartbeats 1000000 in
theorem union_any (v u : Value) (xs ys : List (List UInt8)) (w : World) (h : Texts w w.heap.size v xs) (h' : Texts w w.heap.size u ys) (hl : xs.length ≤ 1000000) (hl' : ys.length ≤ 1000000) :
    Calls Try.prog 28 #[v, u] w fun e w' => e = .returned (.int .i64 (uniV xs ys : Int)) ∧ Drew w w' := by
  obtain ⟨a, cap, rfl⟩ := h.len
  obtain ⟨a', cap', rfl⟩ := h'.len
  go_enter Try.func28, Try.ntmps28
  have HT := Lib.hid (And.intro h h')
  clear h h'
  go_wp2_with fail
  refine (isSet_any _ xs w HT.out.1.strs hl).mono ?_
  rintro _ w1 ⟨rfl, d1⟩
  have t1 := HT.out.1.to (d1.below _)
  have t2 := HT.out.2.to (d1.below _)
  have H1 := Lib.hid (And.intro d1 (And.intro t1 t2))
  clear d1 t1 t2 HT
  obtain ⟨A, hA⟩ : ∃ A, A = ascB xs := ⟨_, rfl⟩
  obtain ⟨B, hB⟩ : ∃ B, B = ascB ys := ⟨_, rfl⟩
  have HX := Lib.hid (And.intro hA hB)
  rw [← hA]
  clear hA
  cases A
  · clear hB
    go_wp2_with fail
    go_ret
    exact ⟨by unfold uniV; rw [← HX.out.1, if_neg (by simp)]; rfl, H1.out.1⟩
  · go_wp2_with fail
    refine (isSet_any _ ys w1 H1.out.2.2.strs hl').mono ?_
    rintro _ w2 ⟨rfl, d2⟩
    rw [← hB]
    clear hB
    have H2 := Lib.hid (And.intro (drew_trans H1.out.1 d2) (And.intro (H1.out.2.1.to (d2.below _)) (H1.out.2.2.to (d2.below _))))
    clear d2 H1
    cases B
    · go_wp2_with fail
      go_ret
      exact ⟨by unfold uniV; rw [← HX.out.2, if_neg (by simp)]; rfl, H2.out.1⟩
    · go_wp2_with fail
      refine (common_any _ _ xs ys w2 H2.out.2.1 H2.out.2.2 hl hl').mono ?_
      rintro _ w3 ⟨rfl, d3⟩
      have HD := Lib.hid (drew_trans H2.out.1 d3)
      have hK : comV xs ys = merge xs ys := by unfold comV; rw [← HX.out.1, ← HX.out.2, if_pos ⟨rfl, rfl⟩]
      have hU : uniV xs ys = xs.length + ys.length - merge xs ys := by unfold uniV; rw [← HX.out.1, ← HX.out.2, if_pos ⟨rfl, rfl⟩]
      have hml := merge_le xs ys
      rw [hK]
      have HU := Lib.hid (And.intro hK (And.intro hU hml))
      obtain ⟨K, hKK⟩ : ∃ K, K = merge xs ys := ⟨_, rfl⟩
      rw [← hKK] at hml ⊢
      have HKK := Lib.hid hKK
      clear d3 hK hU hKK
      go_wp2
      go_ret
      refine ⟨?_, HD.out⟩
      rw [HU.out.2.1, ← HKK.out]
      exact congrArg (fun z => Ending.returned (Value.int .i64 z)) (by omega)

/-- the tokens' set of a text -/
abbrev TS (a : List UInt8) : List (List UInt8) := setOf (tok.tokens (a.map low))
abbrev Co (a b : List UInt8) : Nat := merge (TS a) (TS b)
abbrev Un (a b : List UInt8) : Nat := (TS a).length + (TS b).length - Co a b
theorem tokens_few (a : List UInt8) : (tok.tokens (a.map low)).length ≤ a.length + 1 := by
  have := (tok.upTo_le (a.map low) ((a.map low).length + 1)).2
  rw [List.length_map] at this
  unfold tok.tokens
  rw [List.length_map]
  exact this
theorem TS_few (a : List UInt8) : (TS a).length ≤ a.length + 1 := Nat.le_trans (setOf_length _) (tokens_few a)

set_option maxRecDepth 100000 in
set_option maxHeartbeats 2000000 in
theorem tokens_two (a b : List UInt8) (w : World) (ha : a.length ≤ 400000) (hb : b.length ≤ 400000) :
    Calls Try.prog 15 #[.string ⟨a.toArray⟩, .string ⟨b.toArray⟩] w fun e w' => e = .returned (.tuple #[.int .i64 (Co a b : Int), .int .i64 (Un a b : Int)]) ∧ Below w.heap.size w w' := by
  have f1 := tokens_few a
  have f2 := tokens_few b
  have g1 := TS_few a
  have g2 := TS_few b
  have k1 : (TS a).length ≤ maxLen := by unfold maxLen; omega
  have k2 : (TS b).length ≤ maxLen := by unfold maxLen; omega
  have HK := Lib.hid (And.intro k1 k2)
  clear k1 k2
  go_enter Try.func15, Try.ntmps15
  go_wp2_with fail
  refine (tok.tokens_any ⟨a.toArray⟩ w (by simp [ByteArray.size]; omega)).mono ?_
  rintro _ w1 ⟨v1, rfl, o1, b1⟩
  go_wp2_with fail
  refine (set_cap v1 _ w1 (strs_of_owns o1) (by omega)).mono ?_
  rintro _ w2 ⟨v2, rfl, S2, ⟨a2, rfl⟩, b2⟩
  have T2 : Texts w2 w2.heap.size (.slice a2 (TS a).length (TS a).length) (TS a) := texts_of S2 (Nat.le_refl _) HK.out.1
  have H2 := Lib.hid (And.intro (b1.trans (b2.mono b1.size)) T2)
  clear o1 b1 b2 S2 T2
  go_wp2_with fail
  refine (tok.tokens_any ⟨b.toArray⟩ w2 (by simp [ByteArray.size]; omega)).mono ?_
  rintro _ w3 ⟨v3, rfl, o3, b3⟩
  go_wp2_with fail
  refine (set_cap v3 _ w3 (strs_of_owns o3) (by omega)).mono ?_
  rintro _ w4 ⟨v4, rfl, S4, ⟨a4, rfl⟩, b4⟩
  have T4 : Texts w4 w4.heap.size (.slice a4 (TS b).length (TS b).length) (TS b) := texts_of S4 (Nat.le_refl _) HK.out.2
  have H4 := Lib.hid (And.intro (H2.out.1.trans ((b3.trans (b4.mono b3.size)).mono H2.out.1.size)) (And.intro ((H2.out.2.to b3).to b4) T4))
  clear o3 b3 b4 S4 T4
  have A1 := ascB_of (setOf_asc (tok.tokens (a.map low)))
  have A2 := ascB_of (setOf_asc (tok.tokens (b.map low)))
  have HA := Lib.hid (And.intro A1 A2)
  clear A1 A2
  have hC : comV (TS a) (TS b) = Co a b := by unfold comV; rw [if_pos HA.out]
  have hU : uniV (TS a) (TS b) = Un a b := by unfold uniV; rw [if_pos HA.out]
  have HCU := Lib.hid (And.intro hC hU)
  clear hC hU
  go_wp2_with fail
  refine (common_any _ _ (TS a) (TS b) w4 H4.out.2.1 H4.out.2.2 (by omega) (by omega)).mono ?_
  rintro _ w5 ⟨rfl, d5⟩
  rw [HCU.out.1]
  have H5 := Lib.hid (And.intro (H4.out.1.trans ((d5.below _).mono H4.out.1.size)) (And.intro (H4.out.2.1.to (d5.below _)) (H4.out.2.2.to (d5.below _))))
  clear d5
  go_wp2_with fail
  refine (union_any _ _ (TS a) (TS b) w5 H5.out.2.1 H5.out.2.2 (by omega) (by omega)).mono ?_
  rintro _ w6 ⟨rfl, d6⟩
  rw [HCU.out.2]
  have HB := Lib.hid (H5.out.1.trans ((d6.below _).mono H5.out.1.size))
  go_wp2
  go_ret2
  exact ⟨rfl, HB.out⟩
end Go.Proofs.Ytgmnjiiommbjaaa.dist
