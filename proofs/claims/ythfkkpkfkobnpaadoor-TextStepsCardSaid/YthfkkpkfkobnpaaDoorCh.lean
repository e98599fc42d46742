/- Pattern of the reference. -/
import Derived.Test.YthfkkpkfkobnpaaDoorCd
import Derived.Test.YthfkkpkfkobnpaaDoorCa
import Derived.LoopN
import Derived.Deep.QuietTactic
import Derived.BigQuiet
set_option linter.unusedSimpArgs false
set_option linter.unusedVariables false
namespace Go.Proofs.YthfkkpkfkobnpaaDoor.rp
open Go.RowKit Go.Proofs.YthfkkpkfkobnpaaDoor.pat Go.Proofs.YthfkkpkfkobnpaaDoor.tw

/-- the pattern of a list of classes -/
def pt (cs : List Int) : List UInt8 := patOf (gend (cs.foldl gstepC ⟨[], 0, 0⟩))
theorem pattern_pt (s : ByteArray) : pattern s = pt ((ptsFrom s s.size 0).map cls) := by
  unfold pattern
  rw [groupsOf_cls]
  rfl

theorem pend (cs : List Int) : ∀ (out : List (Int × Nat)) (last : Int) (n : Nat), 0 < n → patOf (gend (cs.foldl gstepC ⟨out, last, n⟩)) = patOf out ++ (put1 (last, n + (cs.takeWhile (· == last)).length) ++ pt (cs.drop (cs.takeWhile (· == last)).length)) := by
  induction cs with
  | nil =>
    intro out last n hn
    have e : gend ⟨out, last, n⟩ = out ++ [(last, n)] := by simp [gend, hn]
    rw [List.foldl_nil, e, patOf_snoc]
    simp [pt, gend, patOf]
  | cons c r ih =>
    intro out last n hn
    rw [List.foldl_cons]
    by_cases h : c = last
    · subst h
      have e : gstepC ⟨out, c, n⟩ c = ⟨out, c, n + 1⟩ := by simp [gstepC]
      rw [e, ih out c (n + 1) (by omega), List.takeWhile_cons, if_pos (by simp), List.length_cons, List.drop_succ_cons]
      congr 3
      congr 1
      omega
    · have e : gstepC ⟨out, last, n⟩ c = ⟨out ++ [(last, n)], c, 1⟩ := by simp [gstepC, hn, h]
      have hp : pt (c :: r) = put1 (c, 1 + (r.takeWhile (· == c)).length) ++ pt (r.drop (r.takeWhile (· == c)).length) := by
        have e2 : gstepC ⟨[], 0, 0⟩ c = ⟨[], c, 1⟩ := by simp [gstepC]
        have := ih [] c 1 (by omega)
        rw [← e2, ← List.foldl_cons] at this
        exact this
      rw [e, ih _ c 1 (by omega), List.takeWhile_cons, if_neg (by simpa using h), List.length_nil, List.drop_zero, Nat.add_zero, hp, patOf_snoc, List.append_assoc]

theorem pt_cons (c : Int) (r : List Int) : pt (c :: r) = put1 (c, 1 + (r.takeWhile (· == c)).length) ++ pt (r.drop (r.takeWhile (· == c)).length) := by
  have e2 : gstepC ⟨[], 0, 0⟩ c = ⟨[], c, 1⟩ := by simp [gstepC]
  have := pend r [] c 1 (by omega)
  rw [← e2, ← List.foldl_cons] at this
  exact this

theorem pt_single (c : Int) (r : List Int) (h : inSet c = false) : pt (c :: r) = c.toNat.toUInt8 :: pt r := by
  have put : ∀ n, put1 (c, n) = List.replicate n c.toNat.toUInt8 := by intro n; simp [put1, h]
  rw [pt_cons, put]
  cases r with
  | nil => simp
  | cons d r =>
    by_cases e : d = c
    · subst e
      rw [List.takeWhile_cons, if_pos (by simp), List.length_cons, List.drop_succ_cons, pt_cons, put]
      have e1 : 1 + ((List.takeWhile (fun x => x == d) r).length + 1) = (1 + (List.takeWhile (fun x => x == d) r).length) + 1 := by omega
      rw [e1, List.replicate_succ]
      rfl
    · rw [List.takeWhile_cons, if_neg (by simpa using e)]
      simp

/-- how many code points one round of the reference takes -/
def runLen (c : Int) (r : List Int) : Nat := if inSet c = true then 1 + (r.takeWhile (· == c)).length else 1
theorem pt_step (c : Int) (r : List Int) : pt (c :: r) = [c.toNat.toUInt8] ++ (if 1 < runLen c r then [43] else []) ++ pt (r.drop (runLen c r - 1)) := by
  unfold runLen
  cases h : inSet c
  · rw [pt_single c r h]
    simp
  · rw [pt_cons]
    simp only [if_true]
    have e : 1 + (r.takeWhile (· == c)).length - 1 = (r.takeWhile (· == c)).length := by omega
    rw [e]
    congr 1
    unfold put1
    by_cases h1 : 1 < 1 + (r.takeWhile (· == c)).length
    · simp [h, h1]
    · have e0 : (r.takeWhile (· == c)).length = 0 := by omega
      rw [e0]
      simp

theorem runLen_le (c : Int) (r : List Int) : 1 ≤ runLen c r ∧ runLen c r ≤ r.length + 1 := by
  unfold runLen
  have := (List.takeWhile_sublist (fun x => x == c) (l := r)).length_le
  split <;> omega
theorem tw_get (c : Int) (r : List Int) : ∀ q, q < (r.takeWhile (· == c)).length → r[q]? = some c := by
  induction r with
  | nil => intro q h; simp at h
  | cons d r ih =>
    intro q h
    rw [List.takeWhile_cons] at h
    by_cases e : d = c
    · subst e
      rw [if_pos (by simp), List.length_cons] at h
      cases q with
      | zero => rfl
      | succ q => rw [List.getElem?_cons_succ]; exact ih q (by omega)
    · rw [if_neg (by simpa using e)] at h
      simp at h
theorem tw_stop (c : Int) (r : List Int) : ∀ d, r[(r.takeWhile (· == c)).length]? = some d → d ≠ c := by
  induction r with
  | nil => intro d h; simp at h
  | cons x r ih =>
    intro d h
    rw [List.takeWhile_cons] at h
    by_cases e : x = c
    · subst e
      rw [if_pos (by simp), List.length_cons, List.getElem?_cons_succ] at h
      exact ih d h
    · rw [if_neg (by simpa using e), List.length_nil, List.getElem?_cons_zero] at h
      rw [← Option.some.inj h]
      exact e

theorem pt_length (n : Nat) : ∀ cs : List Int, cs.length ≤ n → (pt cs).length ≤ 2 * cs.length := by
  induction n with
  | zero =>
    intro cs h
    obtain rfl := List.eq_nil_of_length_eq_zero (Nat.le_zero.1 h)
    simp [pt, gend, patOf]
  | succ n ih =>
    intro cs h
    cases cs with
    | nil => simp [pt, gend, patOf]
    | cons c r =>
      have h1 := runLen_le c r
      rw [List.length_cons] at h
      have h2 := ih (r.drop (runLen c r - 1)) (by rw [List.length_drop]; omega)
      rw [pt_step, List.length_append, List.length_append, List.length_cons]
      rw [List.length_drop] at h2
      by_cases h3 : 1 < runLen c r
      · rw [if_pos h3]
        simp
        omega
      · rw [if_neg h3]
        simp
        omega

def encR (r : Int) : Value := .int .i32 r
theorem info_r : (Tryd.prog.info? 21).map (fun i => (i.zero, i.size, i.bytes)) = some (some (.int .i32 0), 1, 4) := by kernel_rfl

set_option maxRecDepth 100000 in
theorem refClass_any (r : Int) (w : World) : Calls Tryd.prog 44 #[.int .i32 r] w fun e w' => e = .returned (.int .i32 (cls r)) ∧ w' = w := by
  go_enter Tryd.func44, Tryd.ntmps44
  by_cases h1 : 48 ≤ r <;> by_cases h2 : r ≤ 57 <;> by_cases h3 : 65 ≤ r <;> by_cases h4 : r ≤ 90 <;> by_cases h5 : 97 ≤ r <;> by_cases h6 : r ≤ 122 <;> by_cases h7 : 128 ≤ r <;> first
    | omega
    | (go_wp2; go_ret; refine ⟨?_, rfl⟩; show Ending.returned (Value.int IntKind.i32 _) = Ending.returned (Value.int IntKind.i32 _); congr 2; unfold cls; (repeat' split) <;> omega)

theorem enc_ascii (c : Int) (h0 : 0 ≤ c) (h1 : c < 128) : Utf8.encode c = ⟨#[c.toNat.toUInt8]⟩ := by
  obtain ⟨k, rfl⟩ : ∃ k : Nat, c = k := ⟨c.toNat, by omega⟩
  have hk : k < 128 := by omega
  clear h0 h1
  have hv : Utf8.valid (k : Int) = true := by
    unfold Utf8.valid
    simp
    omega
  unfold Utf8.encode
  simp only [hv, if_true, Int.toNat_natCast]
  rw [if_pos hk]

/-- the classes, in a block of their own -/
theorem r_parts {w : World} {B : Nat} {v : Value} {xs : List Int} (h : w.ownsRow B 21 1 v xs.length (xs.map encR)) : ∃ a cap, v = .slice a xs.length cap ∧
    (xs.length ≠ 0 → ∃ g, a = some ⟨g, 0, none⟩ ∧ ∀ (j : Nat) (x : Int), xs[j]? = some x → w.cell? ⟨g, j, none⟩ = some (.int .i32 x)) := by
  have h' := h
  rcases h.2 with ⟨rfl, h0⟩ | ⟨g, cap, cur, rfl, hB, hg, hnc, hcm, hcs, ht⟩
  · exact ⟨none, 0, by rw [h0], fun hn => absurd h0 hn⟩
  · exact ⟨_, cap, rfl, fun _ => ⟨g, rfl, fun j x hx => by
      have := h'.cells (g := g) rfl j (encR x) (by rw [List.getElem?_map, hx]; rfl)
      by_cases hj : j = 0
      · subst hj; simpa [Addr.add, encR] using this
      · simpa [Addr.add, encR, hj] using this⟩⟩
end Go.Proofs.YthfkkpkfkobnpaaDoor.rp
