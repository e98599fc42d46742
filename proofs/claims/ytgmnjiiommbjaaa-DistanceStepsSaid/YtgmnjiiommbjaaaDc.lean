/- distance.differing: what two lists have between their common beginning and end. -/
import Derived.Test.YtgmnjiiommbjaaaDb
import Derived.Test.YtgmnjiiommbjaaaCd
import Derived.LoopN
import Derived.Deep.QuietTactic
import Derived.BigQuiet
set_option linter.unusedVariables false
set_option linter.unusedSimpArgs false
namespace Go.Proofs.Ytgmnjiiommbjaaa.dist
open Go.RowKit Go.Proofs.Ytgmnjiiommbjaaa.lev

/-- the value v holds the numbers xs, in a block below B -/
def Nums (w : World) (B : Nat) (v : Value) (xs : List Int) : Prop :=
  (xs = [] ∧ ∃ a cap, v = .slice a 0 cap) ∨ ∃ g off cap, v = .slice (some ⟨g, off, none⟩) xs.length cap ∧ xs.length ≤ cap ∧ cap ≤ maxLen ∧ g < B ∧ ∀ (j : Nat) (x : Int), xs[j]? = some x → w.cell? ⟨g, off + j, none⟩ = some (.int .i64 x)

theorem Nums.below {w w' : World} {B : Nat} {v : Value} {xs : List Int} (h : Nums w B v xs) (hb : Below B w w') : Nums w' B v xs := by
  rcases h with h | ⟨g, off, cap, hv, h1, h2, hlt, hc⟩
  · exact .inl h
  · exact .inr ⟨g, off, cap, hv, h1, h2, hlt, fun j x hx => (hb.cell (p := ⟨g, off + j, none⟩) hlt).trans (hc j x hx)⟩
theorem Nums.more {w : World} {B B' : Nat} {v : Value} {xs : List Int} (h : Nums w B v xs) (hB : B ≤ B') : Nums w B' v xs := by
  rcases h with h | ⟨g, off, cap, hv, h1, h2, hlt, hc⟩
  · exact .inl h
  · exact .inr ⟨g, off, cap, hv, h1, h2, by omega, hc⟩
theorem Nums.len {w : World} {B : Nat} {v : Value} {xs : List Int} (h : Nums w B v xs) : ∃ a cap, v = .slice a xs.length cap := by
  rcases h with ⟨rfl, a, cap, rfl⟩ | ⟨g, off, cap, hv, _⟩
  · exact ⟨a, cap, rfl⟩
  · exact ⟨_, cap, hv⟩
theorem Nums.cons {w : World} {B : Nat} {v : Value} {x : Int} {xs : List Int} (h : Nums w B v (x :: xs)) : ∃ g off cap, v = .slice (some ⟨g, off, none⟩) (xs.length + 1) cap ∧ xs.length + 1 ≤ cap ∧ cap ≤ maxLen ∧ w.cell? ⟨g, off, none⟩ = some (.int .i64 x) ∧ Nums w B (.slice (if cap = 1 then some ⟨g, off, none⟩ else some ⟨g, off + 1, none⟩) xs.length (cap - 1)) xs := by
  rcases h with ⟨h, _⟩ | ⟨g, off, cap, hv, h1, h2, hlt, hc⟩
  · cases h
  · rw [List.length_cons] at hv h1
    refine ⟨g, off, cap, hv, h1, h2, hc 0 x rfl, ?_⟩
    by_cases hcap : cap = 1
    · obtain rfl := List.eq_nil_of_length_eq_zero (by omega : xs.length = 0)
      exact .inl ⟨rfl, _, _, rfl⟩
    · rw [if_neg hcap]
      refine .inr ⟨g, off + 1, cap - 1, rfl, by omega, by omega, hlt, fun j y hy => ?_⟩
      have := hc (j + 1) y (by rw [List.getElem?_cons_succ]; exact hy)
      rw [show off + 1 + j = off + (j + 1) by omega]
      exact this
theorem Nums.snoc {w : World} {B : Nat} {v : Value} {x : Int} {xs : List Int} (h : Nums w B v (xs ++ [x])) : ∃ g off cap, v = .slice (some ⟨g, off, none⟩) (xs.length + 1) cap ∧ xs.length + 1 ≤ cap ∧ cap ≤ maxLen ∧ w.cell? ⟨g, off + xs.length, none⟩ = some (.int .i64 x) ∧ Nums w B (.slice (some ⟨g, off, none⟩) xs.length cap) xs := by
  rcases h with ⟨h, _⟩ | ⟨g, off, cap, hv, h1, h2, hlt, hc⟩
  · exact absurd h (by simp)
  · rw [List.length_append, List.length_singleton] at hv h1
    refine ⟨g, off, cap, hv, h1, h2, hc xs.length x (by simp), .inr ⟨g, off, cap, rfl, by omega, h2, hlt, fun j y hy => ?_⟩⟩
    refine hc j y ?_
    rw [List.getElem?_append_left (List.getElem?_eq_some_iff.1 hy).1]
    exact hy
theorem Nums.parts {w : World} {B : Nat} {v : Value} {xs : List Int} (h : Nums w B v xs) : ∃ a cap, v = .slice a xs.length cap ∧ (xs.length ≠ 0 → ∃ g off, a = some ⟨g, off, none⟩ ∧ g < B ∧ ∀ (j : Nat) (x : Int), xs[j]? = some x → w.cell? ⟨g, off + j, none⟩ = some (.int .i64 x)) := by
  rcases h with ⟨rfl, a, cap, rfl⟩ | ⟨g, off, cap, hv, _, _, hlt, hc⟩
  · exact ⟨a, cap, rfl, fun h => absurd rfl h⟩
  · exact ⟨_, cap, hv, fun _ => ⟨g, off, rfl, hlt, hc⟩⟩

theorem drewN_two (w : World) (m n : Nat) : (w.drewN m).drewN n = w.drewN (m + n) := by simp [World.drewN, Nat.add_assoc]

theorem drewN_three (w : World) (m n k : Nat) : ((w.drewN m).drewN n).drewN k = w.drewN (m + n + k) := by simp [World.drewN, Nat.add_assoc]

def lenV : Value → Nat
  | .slice _ n _ => n
  | _ => 0

/-- what differing makes of two lists -/
structure Strip (w : World) (B : Nat) (xs ys : List Int) (v u : Value) (p q : List Int) : Prop where
  a : Nums w B v p
  b : Nums w B u q
  lev : lev p q = lev xs ys
  la : p.length ≤ xs.length
  lb : q.length ≤ ys.length

theorem split_head (p q : List Int) : (p = [] ∨ ∃ x p', p = x :: p' ∧ (q = [] ∨ ∃ y q', q = y :: q' ∧ x ≠ y)) ∨ ∃ x p' q', p = x :: p' ∧ q = x :: q' := by
  cases p with
  | nil => exact .inl (.inl rfl)
  | cons x p =>
    cases q with
    | nil => exact .inl (.inr ⟨x, p, rfl, .inl rfl⟩)
    | cons y q =>
      by_cases h : x = y
      · subst h; exact .inr ⟨x, p, q, rfl, rfl⟩
      · exact .inl (.inr ⟨x, p, rfl, .inr ⟨y, q, rfl, h⟩⟩)
theorem split_last (p q : List Int) : (p = [] ∨ ∃ x p', p = p' ++ [x] ∧ (q = [] ∨ ∃ y q', q = q' ++ [y] ∧ x ≠ y)) ∨ ∃ x p' q', p = p' ++ [x] ∧ q = q' ++ [x] := by
  rcases List.eq_nil_or_concat p with rfl | ⟨p, x, rfl⟩
  · exact .inl (.inl rfl)
  · rcases List.eq_nil_or_concat q with rfl | ⟨q, y, rfl⟩
    · exact .inl (.inr ⟨x, p, List.concat_eq_append, .inl rfl⟩)
    · by_cases h : x = y
      · subst h; exact .inr ⟨x, p, q, List.concat_eq_append, List.concat_eq_append⟩
      · exact .inl (.inr ⟨x, p, List.concat_eq_append, .inr ⟨y, q, List.concat_eq_append, h⟩⟩)

set_option maxRecDepth 100000 in
set_option maxHeartbeats 2000000 in
theorem differing_any (v0 u0 : Value) (xs ys : List Int) (w : World) (B : Nat) (h : Nums w B v0 xs) (h' : Nums w B u0 ys) (hl : xs.length ≤ 1000000) (hl' : ys.length ≤ 1000000) :
    Calls Try.prog 44 #[v0, u0] w fun e w' => (∃ v u p q, e = .returned (.tuple #[v, u]) ∧ Strip w B xs ys v u p q) ∧ ∃ m, w' = w.drewN m := by
  go_enter Try.func44, Try.ntmps44
  go_wp2
  go_loopw [0, 1] (fun v u wr => ∃ (p q : List Int) (m : Nat), Strip w B xs ys v u p q ∧ wr = w.drewN m) (fun v _ _ => lenV v)
  case atStart => exact ⟨xs, ys, 0, ⟨h, h', rfl, Nat.le_refl _, Nat.le_refl _⟩, rfl⟩
  case round =>
    obtain ⟨p, q, m, hS, rfl⟩ := hrel
    clear h h'
    have hpl := hS.la
    have hql := hS.lb
    rcases split_head p q with hstop | ⟨x, p, q, rfl, rfl⟩
    · have HS := Lib.hid hS
      rcases hstop with rfl | ⟨x, p, rfl, rfl | ⟨y, q, rfl, hxy⟩⟩
      · obtain ⟨a, cap, rfl⟩ := hS.a.len
        obtain ⟨a', cap', rfl⟩ := hS.b.len
        clear hS
        go_wp2
        go_quiet (fail)
        go_wp2
        go_loopw [0, 1] (fun v u wx => ∃ (p q : List Int) (m : Nat), Strip w B xs ys v u p q ∧ wx = w.drewN m) (fun v _ _ => lenV v)
        case atStart => exact ⟨_, _, m + nq, HS.out, drewN_two _ _ _⟩
        case round =>
          obtain ⟨p, q, m, hS, rfl⟩ := hrel
          clear HS
          have hpl := hS.la
          have hql := hS.lb
          rcases split_last p q with hstop | ⟨x, p, q, rfl, rfl⟩
          · have HS := Lib.hid hS
            rcases hstop with rfl | ⟨x, p, rfl, rfl | ⟨y, q, rfl, hxy⟩⟩
            · obtain ⟨a, cap, rfl⟩ := hS.a.len
              obtain ⟨a', cap', rfl⟩ := hS.b.len
              clear hS
              go_wp2
              go_quiet (fail)
              go_wp2
              go_ret2
              exact ⟨⟨_, _, _, _, rfl, HS.out⟩, _, drewN_two _ _ _⟩
            · obtain ⟨g, off, cap, rfl, k1, k2, c1, n1⟩ := hS.a.snoc
              obtain ⟨a', cap', rfl⟩ := hS.b.len
              have hd : decide ((0 : Int) < (p.length : Int) + 1) = true := by simp <;> omega
              clear hS n1
              go_wp2
              go_quiet (fail)
              go_wp2
              go_ret2
              exact ⟨⟨_, _, _, _, rfl, HS.out⟩, _, drewN_two _ _ _⟩
            · obtain ⟨g, off, cap, rfl, k1, k2, c1, n1⟩ := hS.a.snoc
              obtain ⟨g', off', cap', rfl, k1', k2', c1', n1'⟩ := hS.b.snoc
              rw [List.length_append, List.length_singleton] at hpl hql
              have hd : decide ((0 : Int) < (p.length : Int) + 1) = true := by simp <;> omega
              have hd' : decide ((0 : Int) < (q.length : Int) + 1) = true := by simp <;> omega
              have e1 : IntKind.i64.wrap (p.length : Int) = (p.length : Int) := IntWalk.i64_in _ (by omega)
              have e2 : IntKind.i64.wrap (q.length : Int) = (q.length : Int) := IntWalk.i64_in _ (by omega)
              have hne : (x == y) = false := by simpa using hxy
              clear hS n1 n1'
              go_wp2
              go_quiet (fail)
              go_wp2
              go_ret2
              exact ⟨⟨_, _, _, _, rfl, HS.out⟩, _, drewN_two _ _ _⟩
          · obtain ⟨g, off, cap, rfl, k1, k2, c1, n1⟩ := hS.a.snoc
            obtain ⟨g', off', cap', rfl, k1', k2', c1', n1'⟩ := hS.b.snoc
            have hlev := hS.lev
            rw [lev_snoc] at hlev
            rw [List.length_append, List.length_singleton] at hpl hql
            have hd : decide ((0 : Int) < (p.length : Int) + 1) = true := by simp <;> omega
            have hd' : decide ((0 : Int) < (q.length : Int) + 1) = true := by simp <;> omega
            have e1 : IntKind.i64.wrap (p.length : Int) = (p.length : Int) := IntWalk.i64_in _ (by omega)
            have e2 : IntKind.i64.wrap (q.length : Int) = (q.length : Int) := IntWalk.i64_in _ (by omega)
            have hxx : (x == x) = true := by simp
            have HN := Lib.hid (And.intro n1 (And.intro n1' hlev))
            clear hS n1 n1' hlev
            go_wp2
            go_quiet (fail)
            go_wp2
            go_quiet (fail)
            go_wp2
            refine ⟨⟨p, q, _, ⟨HN.out.1, HN.out.2.1, HN.out.2.2, by omega, by omega⟩, drewN_three _ _ _ _⟩, ?_⟩
            simp [lenV]
      · obtain ⟨g, off, cap, rfl, k1, k2, c1, n1⟩ := hS.a.cons
        obtain ⟨a', cap', rfl⟩ := hS.b.len
        have hd : decide ((0 : Int) < (p.length : Int) + 1) = true := by simp <;> omega
        clear hS n1
        go_wp2
        go_quiet (fail)
        go_wp2
        clear c1 k1 k2 hd
        go_loopw [0, 1] (fun v u wx => ∃ (p q : List Int) (m : Nat), Strip w B xs ys v u p q ∧ wx = w.drewN m) (fun v _ _ => lenV v)
        case atStart => exact ⟨_, _, m + nq, HS.out, drewN_two _ _ _⟩
        case round =>
          obtain ⟨p, q, m, hS, rfl⟩ := hrel
          clear HS
          have hpl := hS.la
          have hql := hS.lb
          rcases split_last p q with hstop | ⟨x, p, q, rfl, rfl⟩
          · have HS := Lib.hid hS
            rcases hstop with rfl | ⟨x, p, rfl, rfl | ⟨y, q, rfl, hxy⟩⟩
            · obtain ⟨a, cap, rfl⟩ := hS.a.len
              obtain ⟨a', cap', rfl⟩ := hS.b.len
              clear hS
              go_wp2
              go_quiet (fail)
              go_wp2
              go_ret2
              exact ⟨⟨_, _, _, _, rfl, HS.out⟩, _, drewN_two _ _ _⟩
            · obtain ⟨g, off, cap, rfl, k1, k2, c1, n1⟩ := hS.a.snoc
              obtain ⟨a', cap', rfl⟩ := hS.b.len
              have hd : decide ((0 : Int) < (p.length : Int) + 1) = true := by simp <;> omega
              clear hS n1
              go_wp2
              go_quiet (fail)
              go_wp2
              go_ret2
              exact ⟨⟨_, _, _, _, rfl, HS.out⟩, _, drewN_two _ _ _⟩
            · obtain ⟨g, off, cap, rfl, k1, k2, c1, n1⟩ := hS.a.snoc
              obtain ⟨g', off', cap', rfl, k1', k2', c1', n1'⟩ := hS.b.snoc
              rw [List.length_append, List.length_singleton] at hpl hql
              have hd : decide ((0 : Int) < (p.length : Int) + 1) = true := by simp <;> omega
              have hd' : decide ((0 : Int) < (q.length : Int) + 1) = true := by simp <;> omega
              have e1 : IntKind.i64.wrap (p.length : Int) = (p.length : Int) := IntWalk.i64_in _ (by omega)
              have e2 : IntKind.i64.wrap (q.length : Int) = (q.length : Int) := IntWalk.i64_in _ (by omega)
              have hne : (x == y) = false := by simpa using hxy
              clear hS n1 n1'
              go_wp2
              go_quiet (fail)
              go_wp2
              go_ret2
              exact ⟨⟨_, _, _, _, rfl, HS.out⟩, _, drewN_two _ _ _⟩
          · obtain ⟨g, off, cap, rfl, k1, k2, c1, n1⟩ := hS.a.snoc
            obtain ⟨g', off', cap', rfl, k1', k2', c1', n1'⟩ := hS.b.snoc
            have hlev := hS.lev
            rw [lev_snoc] at hlev
            rw [List.length_append, List.length_singleton] at hpl hql
            have hd : decide ((0 : Int) < (p.length : Int) + 1) = true := by simp <;> omega
            have hd' : decide ((0 : Int) < (q.length : Int) + 1) = true := by simp <;> omega
            have e1 : IntKind.i64.wrap (p.length : Int) = (p.length : Int) := IntWalk.i64_in _ (by omega)
            have e2 : IntKind.i64.wrap (q.length : Int) = (q.length : Int) := IntWalk.i64_in _ (by omega)
            have hxx : (x == x) = true := by simp
            have HN := Lib.hid (And.intro n1 (And.intro n1' hlev))
            clear hS n1 n1' hlev
            go_wp2
            go_quiet (fail)
            go_wp2
            go_quiet (fail)
            go_wp2
            refine ⟨⟨p, q, _, ⟨HN.out.1, HN.out.2.1, HN.out.2.2, by omega, by omega⟩, drewN_three _ _ _ _⟩, ?_⟩
            simp [lenV]
      · obtain ⟨g, off, cap, rfl, k1, k2, c1, n1⟩ := hS.a.cons
        obtain ⟨g', off', cap', rfl, k1', k2', c1', n1'⟩ := hS.b.cons
        have hd : decide ((0 : Int) < (p.length : Int) + 1) = true := by simp <;> omega
        have hd' : decide ((0 : Int) < (q.length : Int) + 1) = true := by simp <;> omega
        have hne : (x == y) = false := by simpa using hxy
        clear hS n1 n1'
        go_wp2
        go_quiet (fail)
        go_wp2
        clear c1 k1 k2 hd c1' k1' k2' hd' hne hxy
        go_loopw [0, 1] (fun v u wx => ∃ (p q : List Int) (m : Nat), Strip w B xs ys v u p q ∧ wx = w.drewN m) (fun v _ _ => lenV v)
        case atStart => exact ⟨_, _, m + nq, HS.out, drewN_two _ _ _⟩
        case round =>
          obtain ⟨p, q, m, hS, rfl⟩ := hrel
          clear HS
          have hpl := hS.la
          have hql := hS.lb
          rcases split_last p q with hstop | ⟨x, p, q, rfl, rfl⟩
          · have HS := Lib.hid hS
            rcases hstop with rfl | ⟨x, p, rfl, rfl | ⟨y, q, rfl, hxy⟩⟩
            · obtain ⟨a, cap, rfl⟩ := hS.a.len
              obtain ⟨a', cap', rfl⟩ := hS.b.len
              clear hS
              go_wp2
              go_quiet (fail)
              go_wp2
              go_ret2
              exact ⟨⟨_, _, _, _, rfl, HS.out⟩, _, drewN_two _ _ _⟩
            · obtain ⟨g, off, cap, rfl, k1, k2, c1, n1⟩ := hS.a.snoc
              obtain ⟨a', cap', rfl⟩ := hS.b.len
              have hd : decide ((0 : Int) < (p.length : Int) + 1) = true := by simp <;> omega
              clear hS n1
              go_wp2
              go_quiet (fail)
              go_wp2
              go_ret2
              exact ⟨⟨_, _, _, _, rfl, HS.out⟩, _, drewN_two _ _ _⟩
            · obtain ⟨g, off, cap, rfl, k1, k2, c1, n1⟩ := hS.a.snoc
              obtain ⟨g', off', cap', rfl, k1', k2', c1', n1'⟩ := hS.b.snoc
              rw [List.length_append, List.length_singleton] at hpl hql
              have hd : decide ((0 : Int) < (p.length : Int) + 1) = true := by simp <;> omega
              have hd' : decide ((0 : Int) < (q.length : Int) + 1) = true := by simp <;> omega
              have e1 : IntKind.i64.wrap (p.length : Int) = (p.length : Int) := IntWalk.i64_in _ (by omega)
              have e2 : IntKind.i64.wrap (q.length : Int) = (q.length : Int) := IntWalk.i64_in _ (by omega)
              have hne : (x == y) = false := by simpa using hxy
              clear hS n1 n1'
              go_wp2
              go_quiet (fail)
              go_wp2
              go_ret2
              exact ⟨⟨_, _, _, _, rfl, HS.out⟩, _, drewN_two _ _ _⟩
          · obtain ⟨g, off, cap, rfl, k1, k2, c1, n1⟩ := hS.a.snoc
            obtain ⟨g', off', cap', rfl, k1', k2', c1', n1'⟩ := hS.b.snoc
            have hlev := hS.lev
            rw [lev_snoc] at hlev
            rw [List.length_append, List.length_singleton] at hpl hql
            have hd : decide ((0 : Int) < (p.length : Int) + 1) = true := by simp <;> omega
            have hd' : decide ((0 : Int) < (q.length : Int) + 1) = true := by simp <;> omega
            have e1 : IntKind.i64.wrap (p.length : Int) = (p.length : Int) := IntWalk.i64_in _ (by omega)
            have e2 : IntKind.i64.wrap (q.length : Int) = (q.length : Int) := IntWalk.i64_in _ (by omega)
            have hxx : (x == x) = true := by simp
            have HN := Lib.hid (And.intro n1 (And.intro n1' hlev))
            clear hS n1 n1' hlev
            go_wp2
            go_quiet (fail)
            go_wp2
            go_quiet (fail)
            go_wp2
            refine ⟨⟨p, q, _, ⟨HN.out.1, HN.out.2.1, HN.out.2.2, by omega, by omega⟩, drewN_three _ _ _ _⟩, ?_⟩
            simp [lenV]
    · obtain ⟨g, off, cap, rfl, k1, k2, c1, n1⟩ := hS.a.cons
      obtain ⟨g', off', cap', rfl, k1', k2', c1', n1'⟩ := hS.b.cons
      have hlev := hS.lev
      rw [lev_same] at hlev
      rw [List.length_cons] at hpl hql
      have hd : decide ((0 : Int) < (p.length : Int) + 1) = true := by simp <;> omega
      have hd' : decide ((0 : Int) < (q.length : Int) + 1) = true := by simp <;> omega
      have hxx : (x == x) = true := by simp
      have HN := Lib.hid (And.intro n1 (And.intro n1' hlev))
      clear hS n1 n1' hlev
      go_wp2
      go_quiet (fail)
      go_wp2
      go_quiet (fail)
      go_wp2
      refine ⟨⟨p, q, _, ⟨HN.out.1, HN.out.2.1, HN.out.2.2, by omega, by omega⟩, drewN_three _ _ _ _⟩, ?_⟩
      simp [lenV]
end Go.Proofs.Ytgmnjiiommbjaaa.dist
