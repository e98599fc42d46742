/- cmp.Compare at texts; ascend.Common: how many texts two ascending lists have in common. -/
import Derived.Test.YtgmnjiiommbjaaaBs
import Derived.Test.YtgmnjiiommbjaaaBt
import Derived.Test.YtgmnjiiommbjaaaBu
import Derived.Test.YtgmnjiiommbjaaaDd
set_option linter.unusedVariables false
set_option linter.unusedSimpArgs false
namespace Go.Proofs.Ytgmnjiiommbjaaa.dist
open Go.RowKit Go.Proofs.Ytgmnjiiommbjaaa.txt Go.Proofs.Ytgmnjiiommbjaaa.tx

/-- -1, 0, 1 -/
def cmpT (x y : List UInt8) : Int := if x < y then -1 else if y < x then 1 else 0

set_option maxRecDepth 100000 in
theorem isNaN_any (x : List UInt8) (w : World) : Calls Try.prog 55 #[.string ⟨x.toArray⟩] w fun e w' => e = .returned (.bool false) ∧ w' = w := by
  have hg : (x == x) = true := by simp
  go_enter Try.func55, Try.ntmps55
  go_wp2
  go_ret
  exact ⟨rfl, rfl⟩

set_option maxRecDepth 100000 in
set_option maxHeartbeats 1000000 in
theorem compare_any (x y : List UInt8) (w : World) : Calls Try.prog 52 #[.string ⟨x.toArray⟩, .string ⟨y.toArray⟩] w fun e w' => e = .returned (.int .i64 (cmpT x y)) ∧ w' = w := by
  go_enter Try.func52, Try.ntmps52
  go_wp2_with fail
  refine (isNaN_any x w).mono ?_
  rintro _ w1 ⟨rfl, hw⟩
  obtain rfl : w = w1 := hw.symm
  go_wp2_with fail
  refine (isNaN_any y w).mono ?_
  rintro _ w1 ⟨rfl, hw⟩
  obtain rfl : w = w1 := hw.symm
  clear hw
  by_cases h1 : x < y
  · have g1 : Op.bytesLess x y = true := by rw [bytesLess_eq]; simp [h1]
    have hc : cmpT x y = -1 := by unfold cmpT; rw [if_pos h1]
    have HC := Lib.hid hc
    clear hc h1
    go_wp2_with fail
    go_ret
    exact ⟨by rw [HC.out]; rfl, rfl⟩
  · have g1 : Op.bytesLess x y = false := by rw [bytesLess_eq]; simp [h1]
    by_cases h2 : y < x
    · have g2 : Op.bytesLess y x = true := by rw [bytesLess_eq]; simp [h2]
      have hc : cmpT x y = 1 := by unfold cmpT; rw [if_neg h1, if_pos h2]
      have g3 : (x == y) = false := by simpa using fun e : x = y => ne_of_lt h2 e.symm
      have HC := Lib.hid hc
      clear hc h1 h2
      go_wp2_with fail
      go_ret
      exact ⟨by rw [HC.out]; rfl, rfl⟩
    · have g2 : Op.bytesLess y x = false := by rw [bytesLess_eq]; simp [h2]
      have hc : cmpT x y = 0 := by unfold cmpT; rw [if_neg h1, if_neg h2]
      have g3 : (x == y) = true := by simpa using List.le_antisymm (List.not_lt.1 h2) (List.not_lt.1 h1)
      have HC := Lib.hid hc
      clear hc h1 h2
      go_wp2_with fail
      go_ret
      exact ⟨by rw [HC.out]; rfl, rfl⟩

/-- a list of texts with room -/
def Texts (w : World) (B : Nat) (v : Value) (xs : List (List UInt8)) : Prop :=
  (xs = [] ∧ ∃ a cap, v = .slice a 0 cap) ∨ ∃ b off cap, v = .slice (some ⟨b, off, none⟩) xs.length cap ∧ xs.length ≤ cap ∧ cap ≤ maxLen ∧ b < B ∧ ∀ (j : Nat) (x : List UInt8), xs[j]? = some x → w.cell? ⟨b, off + j, none⟩ = some (encStr x)
theorem Texts.cons {w : World} {B : Nat} {v : Value} {x : List UInt8} {xs : List (List UInt8)} (h : Texts w B v (x :: xs)) : ∃ g off cap, v = .slice (some ⟨g, off, none⟩) (xs.length + 1) cap ∧ xs.length + 1 ≤ cap ∧ cap ≤ maxLen ∧ w.cell? ⟨g, off, none⟩ = some (.string ⟨x.toArray⟩) ∧ Texts w B (.slice (if cap = 1 then some ⟨g, off, none⟩ else some ⟨g, off + 1, none⟩) xs.length (cap - 1)) xs := by
  rcases h with ⟨h, _⟩ | ⟨g, off, cap, hv, h1, h2, hlt, hc⟩
  · cases h
  · rw [List.length_cons] at hv h1
    refine ⟨g, off, cap, hv, h1, h2, hc 0 x rfl, ?_⟩
    by_cases hcap : cap = 1
    · obtain rfl := List.eq_nil_of_length_eq_zero (by omega : xs.length = 0)
      exact .inl ⟨rfl, _, _, rfl⟩
    · rw [if_neg hcap]
      refine .inr ⟨g, off + 1, cap - 1, rfl, by omega, by omega, hlt, fun j y hy => ?_⟩
      have := hc (j + 1) y (by rw [List.getElem?_cons_succ]; exact hy)
      rw [show off + 1 + j = off + (j + 1) by omega]
      exact this
theorem Texts.len {w : World} {B : Nat} {v : Value} {xs : List (List UInt8)} (h : Texts w B v xs) : ∃ a cap, v = .slice a xs.length cap := by
  rcases h with ⟨rfl, a, cap, rfl⟩ | ⟨g, off, cap, hv, _⟩
  · exact ⟨a, cap, rfl⟩
  · exact ⟨_, cap, hv⟩
theorem Texts.strs {w : World} {B : Nat} {v : Value} {xs : List (List UInt8)} (h : Texts w B v xs) : Strs w B v xs := by
  rcases h with h | ⟨g, off, cap, hv, h1, h2, hlt, hc⟩
  · exact .inl h
  · exact .inr ⟨g, off, cap, hv, hlt, hc⟩
theorem texts_of {w : World} {B : Nat} {xs : List (List UInt8)} {a : Option Addr} {cap : Nat} (h : Strs w B (.slice a xs.length cap) xs) (hl : xs.length ≤ cap) (hc : cap ≤ maxLen) : Texts w B (.slice a xs.length cap) xs := by
  rcases h with ⟨rfl, h⟩ | ⟨g, off, cap', hv, hlt, hcell⟩
  · exact .inl ⟨rfl, h⟩
  · injection hv with h1 h2 h3
    subst h1 h3
    exact .inr ⟨g, off, _, rfl, hl, hc, hlt, hcell⟩
theorem Texts.below {w w' : World} {B : Nat} {v : Value} {xs : List (List UInt8)} (h : Texts w B v xs) (hb : Below B w w') : Texts w' B v xs := by
  rcases h with h | ⟨b, off, cap, hv, h1, h2, hlt, hc⟩
  · exact .inl h
  · exact .inr ⟨b, off, cap, hv, h1, h2, hlt, fun j x hx => (hb.cell (p := ⟨b, off + j, none⟩) hlt).trans (hc j x hx)⟩
theorem Texts.more {w : World} {B B' : Nat} {v : Value} {xs : List (List UInt8)} (h : Texts w B v xs) (hB : B ≤ B') : Texts w B' v xs := by
  rcases h with h | ⟨g, off, cap, hv, h1, h2, hlt, hc⟩
  · exact .inl h
  · exact .inr ⟨g, off, cap, hv, h1, h2, by omega, hc⟩

/-- what the merge counts -/
def mergeN : Nat → List (List UInt8) → List (List UInt8) → Nat
  | 0, _, _ => 0
  | _ + 1, [], _ => 0
  | _ + 1, _ :: _, [] => 0
  | f + 1, x :: xs, y :: ys => if x < y then mergeN f xs (y :: ys) else if y < x then mergeN f (x :: xs) ys else mergeN f xs ys + 1
def merge (xs ys : List (List UInt8)) : Nat := mergeN (xs.length + ys.length) xs ys
theorem mergeN_nil (f : Nat) (ys : List (List UInt8)) : mergeN f [] ys = 0 := by cases f <;> rfl
theorem mergeN_nil' (f : Nat) (xs : List (List UInt8)) : mergeN f xs [] = 0 := by cases f <;> cases xs <;> rfl
theorem mergeN_cons (f : Nat) (x y : List UInt8) (xs ys : List (List UInt8)) : mergeN (f + 1) (x :: xs) (y :: ys) = if x < y then mergeN f xs (y :: ys) else if y < x then mergeN f (x :: xs) ys else mergeN f xs ys + 1 := rfl

theorem split_two (p q : List (List UInt8)) : (p = [] ∨ ∃ x p', p = x :: p' ∧ q = []) ∨ ∃ x y p' q', p = x :: p' ∧ q = y :: q' := by
  cases p with
  | nil => exact .inl (.inl rfl)
  | cons x p =>
    cases q with
    | nil => exact .inl (.inr ⟨x, p, rfl, rfl⟩)
    | cons y q => exact .inr ⟨x, y, p, q, rfl, rfl⟩

set_option maxRecDepth 100000 in
set_option maxHeartbeats 4000000 in
theorem ascend_any (v0 u0 : Value) (xs ys : List (List UInt8)) (w : World) (B : Nat) (h : Texts w B v0 xs) (h' : Texts w B u0 ys) (hl : xs.length ≤ 1000000) (hl' : ys.length ≤ 1000000) :
    Calls Try.prog 41 #[v0, u0] w fun e w' => e = .returned (.int .i64 (merge xs ys : Int)) ∧ ∃ m, w' = w.drewN m := by
  go_enter Try.func41, Try.ntmps41
  go_wp2
  go_loopw [0, 1, 5] (fun v u n wr => ∃ (p q : List (List UInt8)) (k f m : Nat), Texts w B v p ∧ Texts w B u q ∧ n = .int .i64 (k : Int) ∧ k + mergeN f p q = merge xs ys ∧ p.length + q.length ≤ f ∧ k + p.length ≤ 1000000 ∧ q.length ≤ 1000000 ∧ wr = w.drewN m) (fun v u _ _ => lenV v + lenV u)
  case atStart => exact ⟨xs, ys, 0, _, 0, h, h', rfl, Nat.zero_add _, Nat.le_refl _, by omega, hl', rfl⟩
  case round =>
    obtain ⟨p, q, k, f, m, hP, hQ, rfl, hk, hf, hk1, hq1, rfl⟩ := hrel
    clear h h'
    rcases split_two p q with hstop | ⟨x, y, p, q, rfl, rfl⟩
    · have hm : k = merge xs ys := by
        rcases hstop with rfl | ⟨x, p, rfl, rfl⟩
        · rw [mergeN_nil] at hk; omega
        · rw [mergeN_nil'] at hk; omega
      have HM := Lib.hid hm
      clear hm hk
      rcases hstop with rfl | ⟨x, p, rfl, rfl⟩
      · obtain ⟨a, cap, rfl⟩ := hP.len
        obtain ⟨a', cap', rfl⟩ := hQ.len
        go_wp2
        go_ret
        exact ⟨by rw [← HM.out]; rfl, _, rfl⟩
      · obtain ⟨g, off, cap, rfl, k1, k2, c1, n1⟩ := hP.cons
        obtain ⟨a', cap', rfl⟩ := hQ.len
        have hd : decide ((0 : Int) < (p.length : Int) + 1) = true := by simp <;> omega
        go_wp2
        go_ret
        exact ⟨by rw [← HM.out]; rfl, _, rfl⟩
    · obtain ⟨g, off, cap, rfl, k1, k2, c1, n1⟩ := hP.cons
      obtain ⟨g', off', cap', rfl, k1', k2', c1', n1'⟩ := hQ.cons
      obtain ⟨f, rfl⟩ : ∃ f', f = f' + 1 := ⟨f - 1, by simp at hf; omega⟩
      rw [mergeN_cons] at hk
      rw [List.length_cons] at hk1 hq1
      simp only [List.length_cons] at hf
      have hd : decide ((0 : Int) < (p.length : Int) + 1) = true := by simp <;> omega
      have hd' : decide ((0 : Int) < (q.length : Int) + 1) = true := by simp <;> omega
      have e1 : IntKind.i64.wrap ((k : Int) + 1) = (k : Int) + 1 := IntWalk.i64_in _ (by omega)
      have hcmp := fun W => compare_any x y W
      by_cases h1 : x < y
      · have hc : cmpT x y = -1 := by unfold cmpT; rw [if_pos h1]
        rw [if_pos h1] at hk
        rw [hc] at hcmp
        have HN := Lib.hid (And.intro n1 (And.intro hQ hk))
        clear hP hQ n1 n1' hk h1 hc
        go_wp2
        go_quiet (first | (go_at_call 52; exact (hcmp _).mono (fun _ _ h => ⟨h.1, _, h.2⟩)))
        go_wp2
        refine ⟨⟨p, y :: q, k, f, _, HN.out.1, HN.out.2.1, rfl, HN.out.2.2, by rw [List.length_cons]; omega, by omega, by rw [List.length_cons]; omega, rfl⟩, ?_⟩
        simp [lenV]
      · rw [if_neg h1] at hk
        by_cases h2 : y < x
        · have hc : cmpT x y = 1 := by unfold cmpT; rw [if_neg h1, if_pos h2]
          rw [if_pos h2] at hk
          rw [hc] at hcmp
          have HN := Lib.hid (And.intro hP (And.intro n1' hk))
          clear hP hQ n1 n1' hk h1 h2 hc
          go_wp2
          go_quiet (first | (go_at_call 52; exact (hcmp _).mono (fun _ _ h => ⟨h.1, _, h.2⟩)))
          go_wp2
          refine ⟨⟨x :: p, q, k, f, _, HN.out.1, HN.out.2.1, rfl, HN.out.2.2, by rw [List.length_cons]; omega, by rw [List.length_cons]; omega, by omega, rfl⟩, ?_⟩
          simp [lenV]
        · have hc : cmpT x y = 0 := by unfold cmpT; rw [if_neg h1, if_neg h2]
          rw [if_neg h2] at hk
          rw [hc] at hcmp
          have HN := Lib.hid (And.intro n1 (And.intro n1' hk))
          clear hP hQ n1 n1' hk h1 h2 hc
          go_wp2
          go_quiet (first | (go_at_call 52; exact (hcmp _).mono (fun _ _ h => ⟨h.1, _, h.2⟩)))
          go_wp2
          go_quiet (fail)
          go_wp2
          refine ⟨⟨p, q, k + 1, f, _, HN.out.1, HN.out.2.1, by simp, by have := HN.out.2.2; omega, by omega, by omega, by omega, drewN_two _ _ _⟩, ?_⟩
          simp [lenV] <;> omega
end Go.Proofs.Ytgmnjiiommbjaaa.dist
