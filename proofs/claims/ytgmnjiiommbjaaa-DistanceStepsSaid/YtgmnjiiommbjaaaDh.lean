/- The examples of the chapter hold: sane. Points of texts of small bytes; edits. -/
import Derived.Test.YtgmnjiiommbjaaaDg
import Derived.Test.YtgmnjiiommbjaaaMill
import Derived.Lib.TrimByte
set_option linter.unusedVariables false
set_option linter.unusedSimpArgs false
namespace Go.Proofs.Ytgmnjiiommbjaaa.dist
open Go.RowKit Go.Proofs.Ytgmnjiiommbjaaa.txt Go.Proofs.Ytgmnjiiommbjaaa.tx Go.Proofs.Ytgmnjiiommbjaaa.lev Go.Proofs.Ytgmnjiiommbjaaa.fold Go.Proofs.Ytgmnjiiommbjaaa.pat

def levF : Nat → List Int → List Int → Nat
  | 0, _, _ => 0
  | _ + 1, [], b => b.length
  | _ + 1, x :: a, [] => (x :: a).length
  | f + 1, x :: a, y :: b => if x = y then levF f a b else 1 + min (levF f a b) (min (levF f a (y :: b)) (levF f (x :: a) b))
theorem lev_fuel (f : Nat) : ∀ a b : List Int, a.length + b.length < f → lev a b = levF f a b := by
  induction f with
  | zero => intro a b h; exact absurd h (Nat.not_lt_zero _)
  | succ f ih =>
    intro a b h
    cases a with
    | nil => rw [lev_nil]; rfl
    | cons x a =>
      cases b with
      | nil => rw [lev_nil']; rfl
      | cons y b =>
        simp only [List.length_cons] at h
        unfold levF
        by_cases e : x = y
        · subst e
          rw [if_pos rfl, lev_same, ih a b (by omega)]
        · rw [if_neg e, lev_diff _ _ _ _ e, ih a b (by omega), ih a (y :: b) (by rw [List.length_cons]; omega), ih (x :: a) b (by rw [List.length_cons]; omega)]

/-- bytes below 128 -/
def Asc (l : List UInt8) : Prop := ∀ b ∈ l, b.toNat < 128
def ints (l : List UInt8) : List Int := l.map fun b => (b.toNat : Int)
theorem decode_ascii (s : ByteArray) (i : Nat) (h : (s.get! i).toNat < 128) : Utf8.decode s i = ((s.get! i).toNat, 1) := by
  unfold Utf8.decode
  simp only [Nat.add_zero]
  rw [if_pos h]
theorem get_of (l : List UInt8) (k : Nat) (hk : k < l.length) : (⟨l.toArray⟩ : ByteArray).get! k = l[k] := by
  show l.toArray[k]! = l[k]
  simp [hk]
theorem pts_ascii (l : List UInt8) (h : Asc l) (f : Nat) : ∀ pos, l.length ≤ pos + f → ptsFrom ⟨l.toArray⟩ f pos = ints (l.drop pos) := by
  have hsz : (⟨l.toArray⟩ : ByteArray).size = l.length := by simp [ByteArray.size]
  induction f with
  | zero =>
    intro pos hp
    rw [List.drop_eq_nil_of_le (by omega)]
    rfl
  | succ f ih =>
    intro pos hp
    by_cases hlt : pos < l.length
    · have hg := get_of l pos hlt
      have hd := decode_ascii ⟨l.toArray⟩ pos (by rw [hg]; exact h _ (List.getElem_mem _))
      rw [ptsFrom_succ _ f pos (by rw [hsz]; exact hlt), hd, hg, ih (pos + 1) (by omega), List.drop_eq_getElem_cons hlt]
      rfl
    · rw [ptsFrom_end _ _ pos (by rw [hsz]; exact hlt), List.drop_eq_nil_of_le (by omega)]
      rfl
theorem P_ascii (l : List UInt8) (h : Asc l) : P l = ints l := by
  have hsz : (⟨l.toArray⟩ : ByteArray).size = l.length := by simp [ByteArray.size]
  show ptsFrom _ _ _ = _
  rw [pts_ascii l h _ 0 (by rw [hsz]; omega), List.drop_zero]

theorem edit_x : E [107, 105, 116, 116, 101, 110] [115, 105, 116, 116, 105, 110, 103] = 3 := by
  show lev (P _) (P _) = 3
  rw [P_ascii _ (by unfold Asc; decide), P_ascii _ (by unfold Asc; decide), lev_fuel 14 _ _ (by decide)]
  decide
theorem edit_y : E [98, 97, 116] [99, 97, 116] = 1 := by
  show lev (P _) (P _) = 1
  rw [P_ascii _ (by unfold Asc; decide), P_ascii _ (by unfold Asc; decide), lev_fuel 7 _ _ (by decide)]
  decide
set_option maxRecDepth 100000 in
theorem ts_x : TS [78, 101, 119, 32, 89, 111, 114, 107] = [[110, 101, 119], [121, 111, 114, 107]] := by
  have h : tok.tokens (List.map low [78, 101, 119, 32, 89, 111, 114, 107]) = [[110, 101, 119], [121, 111, 114, 107]] := by decide
  show setOf _ = _
  rw [h]
  exact setOf_eq (by unfold asc; decide) fun x => Iff.rfl
set_option maxRecDepth 100000 in
theorem ts_y : TS [121, 111, 114, 107, 32, 40, 110, 101, 119, 41] = [[110, 101, 119], [121, 111, 114, 107]] := by
  have h : tok.tokens (List.map low [121, 111, 114, 107, 32, 40, 110, 101, 119, 41]) = [[121, 111, 114, 107], [110, 101, 119]] := by decide
  show setOf _ = _
  rw [h]
  exact setOf_eq (by unfold asc; decide) fun x => by
    simp only [List.mem_cons, List.not_mem_nil, or_false]
    exact Or.comm
theorem co_x : Co [78, 101, 119, 32, 89, 111, 114, 107] [121, 111, 114, 107, 32, 40, 110, 101, 119, 41] = 2 := by
  show merge _ _ = 2
  rw [ts_x, ts_y]
  decide
theorem un_x : Un [78, 101, 119, 32, 89, 111, 114, 107] [121, 111, 114, 107, 32, 40, 110, 101, 119, 41] = 2 := by
  show (TS _).length + (TS _).length - Co _ _ = 2
  rw [co_x, ts_x, ts_y]
  decide
theorem sim_x : simV 2 1 0 0 [98, 97, 116] [99, 97, 116] = true := by
  rw [simV_two (by decide) rfl, edit_y]
  decide

set_option maxRecDepth 100000 in
set_option maxHeartbeats 1000000 in
theorem sane_any (w : World) : Calls Try.prog 8 #[] w fun e w' => e = .returned (.bool true) ∧ Below w.heap.size w w' := by
  go_enter Try.func8, Try.ntmps8
  go_wp2_with fail
  refine (tokens_two [78, 101, 119, 32, 89, 111, 114, 107] [121, 111, 114, 107, 32, 40, 110, 101, 119, 41] w (by decide) (by decide)).mono ?_
  rintro _ w1 ⟨rfl, b1⟩
  rw [co_x, un_x]
  go_wp2_with fail
  refine (edit_any [107, 105, 116, 116, 101, 110] [115, 105, 116, 116, 105, 110, 103] w1 (by decide) (by decide)).mono ?_
  rintro _ w2 ⟨rfl, b2⟩
  rw [edit_x]
  have b12 := b1.trans (b2.mono b1.size)
  go_wp2_with fail
  refine (similar_any 2 1 0 0 [98, 97, 116] [99, 97, 116] w2 (by decide) (by decide)).mono ?_
  rintro _ w3 ⟨rfl, b3⟩
  rw [sim_x]
  have b13 := b12.trans (b3.mono b12.size)
  go_wp2_with fail
  go_ret
  exact ⟨rfl, b13⟩

-- one edit
theorem al_self : ∀ p : List Int, Al p p 0
  | [] => .nil
  | x :: p => .keep x (al_self p)
theorem al_mid (p a b q : List Int) {n : Nat} (h : Al a b n) : Al (p ++ (a ++ q)) (p ++ (b ++ q)) n := by
  have := al_append (al_self p) (al_append h (al_self q))
  rwa [Nat.zero_add, Nat.add_zero] at this
theorem lev_ins (p q : List Int) (y : Int) : lev (p ++ q) (p ++ ([y] ++ q)) ≤ 1 := lev_le (al_mid p [] [y] q (.ins y .nil))
theorem lev_del (p q : List Int) (x : Int) : lev (p ++ ([x] ++ q)) (p ++ q) ≤ 1 := lev_le (al_mid p [x] [] q (.del x .nil))
theorem lev_sub (p q : List Int) (x y : Int) : lev (p ++ ([x] ++ q)) (p ++ ([y] ++ q)) ≤ 1 := lev_le (al_mid p [x] [y] q (.sub x y .nil))
theorem ints_append (a b : List UInt8) : ints (a ++ b) = ints a ++ ints b := by simp [ints]

/-- a and b after k edits -/
structure Edited (a b : List UInt8) (k : Nat) : Prop where
  asc : Asc b
  lev : lev (ints a) (ints b) ≤ k
  len : b.length ≤ 8 + k
theorem Edited.ins {a b : List UInt8} {k : Nat} (h : Edited a b k) (i : Nat) : Edited a (b.take i ++ [120] ++ b.drop i) (k + 1) := by
  have hb : b = b.take i ++ b.drop i := (List.take_append_drop i b).symm
  refine ⟨fun c hc => ?_, ?_, ?_⟩
  · simp only [List.mem_append, List.mem_singleton] at hc
    rcases hc with (hc | rfl) | hc
    · exact h.asc c (List.mem_of_mem_take hc)
    · decide
    · exact h.asc c (List.mem_of_mem_drop hc)
  · have h1 := lev_triangle (ints a) (ints b) (ints (b.take i ++ [120] ++ b.drop i))
    have h2 : Go.Proofs.Ytgmnjiiommbjaaa.lev.lev (ints b) (ints (b.take i ++ [120] ++ b.drop i)) ≤ 1 := by
      conv => lhs; arg 1; rw [hb]
      rw [ints_append, ints_append, ints_append, List.append_assoc]
      exact lev_ins _ _ _
    have := h.lev
    omega
  · have := h.len
    simp
    omega
theorem Edited.del {a b : List UInt8} {k : Nat} (h : Edited a b k) (i : Nat) (hi : i < b.length) : Edited a (b.take i ++ b.drop (i + 1)) (k + 1) := by
  have hb : b = b.take i ++ ([b[i]] ++ b.drop (i + 1)) := by
    conv => lhs; rw [← List.take_append_drop i b, List.drop_eq_getElem_cons hi]
    rfl
  refine ⟨fun c hc => ?_, ?_, ?_⟩
  · rcases List.mem_append.1 hc with hc | hc
    · exact h.asc c (List.mem_of_mem_take hc)
    · exact h.asc c (List.mem_of_mem_drop hc)
  · have h1 := lev_triangle (ints a) (ints b) (ints (b.take i ++ b.drop (i + 1)))
    have h2 : Go.Proofs.Ytgmnjiiommbjaaa.lev.lev (ints b) (ints (b.take i ++ b.drop (i + 1))) ≤ 1 := by
      conv => lhs; arg 1; rw [hb]
      rw [ints_append, ints_append, ints_append]
      exact lev_del _ _ _
    have := h.lev
    omega
  · have := h.len
    simp
    omega
theorem Edited.sub {a b : List UInt8} {k : Nat} (h : Edited a b k) (i : Nat) (hi : i < b.length) : Edited a (b.take i ++ [121] ++ b.drop (i + 1)) (k + 1) := by
  have hb : b = b.take i ++ ([b[i]] ++ b.drop (i + 1)) := by
    conv => lhs; rw [← List.take_append_drop i b, List.drop_eq_getElem_cons hi]
    rfl
  refine ⟨fun c hc => ?_, ?_, ?_⟩
  · simp only [List.mem_append, List.mem_singleton] at hc
    rcases hc with (hc | rfl) | hc
    · exact h.asc c (List.mem_of_mem_take hc)
    · decide
    · exact h.asc c (List.mem_of_mem_drop hc)
  · have h1 := lev_triangle (ints a) (ints b) (ints (b.take i ++ [121] ++ b.drop (i + 1)))
    have h2 : Go.Proofs.Ytgmnjiiommbjaaa.lev.lev (ints b) (ints (b.take i ++ [121] ++ b.drop (i + 1))) ≤ 1 := by
      conv => lhs; arg 1; rw [hb]
      rw [ints_append, ints_append, ints_append, ints_append, List.append_assoc]
      exact lev_sub _ _ _ _
    have := h.lev
    omega
  · have := h.len
    simp
    omega
theorem edited_start (a : List UInt8) (h : Asc a) (hl : a.length ≤ 8) : Edited a a 0 := ⟨h, by rw [lev_self]; exact Nat.le_refl _, hl⟩
theorem Edited.E {a b : List UInt8} {k : Nat} (h : Edited a b k) (ha : Asc a) : E a b ≤ k := by
  show Go.Proofs.Ytgmnjiiommbjaaa.lev.lev (P a) (P b) ≤ k
  rw [P_ascii a ha, P_ascii b h.asc]
  exact h.lev
end Go.Proofs.Ytgmnjiiommbjaaa.dist
