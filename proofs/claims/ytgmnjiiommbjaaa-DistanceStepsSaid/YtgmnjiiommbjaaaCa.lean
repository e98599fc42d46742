/- Plain lists: tokens of a token, of tokens put together; trimming twice; classes under a change of digits. -/
import Derived.Test.YtgmnjiiommbjaaaBw
import Derived.Test.YtgmnjiiommbjaaaBk
import Derived.Lib.TrimByte
set_option linter.unusedVariables false
set_option linter.unusedSimpArgs false
namespace Go.Proofs.Ytgmnjiiommbjaaa.tw
open Go.Proofs.Ytgmnjiiommbjaaa.tok Go.Proofs.Ytgmnjiiommbjaaa.fold Go.Proofs.Ytgmnjiiommbjaaa.pat

/-- what is between two places that are no token's -/
def fin (cur : List UInt8) : List (List UInt8) := if cur = [] then [] else [cur]
def tk : List UInt8 → List UInt8 → List (List UInt8)
  | cur, [] => fin cur
  | cur, b :: r => if inTok b = true then tk (cur ++ [b]) r else fin cur ++ tk [] r
theorem tk_nil (cur : List UInt8) : tk cur [] = fin cur := by rw [tk]
theorem tk_cons (cur : List UInt8) (b : UInt8) (r : List UInt8) : tk cur (b :: r) = if inTok b = true then tk (cur ++ [b]) r else fin cur ++ tk [] r := by rw [tk]

theorem tk_upTo (l : List UInt8) : ∀ (rest : List UInt8) (k : Nat), l.drop k = rest → k ≤ l.length → tokens l = (upTo l k).1 ++ tk ((l.drop (upTo l k).2).take (k - (upTo l k).2)) rest := by
  intro rest
  induction rest with
  | nil =>
    intro k hk hkl
    have hk2 : l.length ≤ k := by
      have := congrArg List.length hk
      simp at this
      omega
    obtain rfl : k = l.length := by omega
    have ht : isTok l l.length = false := by unfold isTok; rw [List.getElem?_eq_none (Nat.le_refl _)]
    unfold tokens
    rw [upTo_succ]
    unfold tok.step
    rw [ht, if_neg (by decide)]
    have hle := (upTo_le l l.length).1
    obtain ⟨ts, b0⟩ := upTo l l.length
    dsimp only at *
    rw [tk_nil]
    unfold fin
    by_cases hb : b0 < l.length
    · rw [if_pos hb, if_neg]
      intro e
      have := congrArg List.length e
      simp at this
      omega
    · rw [if_neg hb, if_pos, List.append_nil]
      have : l.length - b0 = 0 := by omega
      rw [this, List.take_zero]
  | cons b r ih =>
    intro k hk hkl
    have hlt : k < l.length := by
      have := congrArg List.length hk
      simp at this
      omega
    have hb : l[k]? = some b := by
      have := congrArg (fun x => x[0]?) hk
      simpa using this
    have hr : l.drop (k + 1) = r := by
      have := congrArg List.tail hk
      simpa using this
    have h1 := ih (k + 1) hr hlt
    rw [h1, upTo_succ]
    have hle := (upTo_le l k).1
    clear h1 ih
    generalize upTo l k = u at *
    obtain ⟨ts, b0⟩ := u
    have hti : isTok l k = inTok b := by unfold isTok; rw [hb]
    unfold tok.step
    rw [hti]
    dsimp only at *
    rw [tk_cons]
    cases hi : inTok b
    · simp only [Bool.false_eq_true, if_false]
      rw [Nat.sub_self, List.take_zero]
      unfold fin
      by_cases hb0 : b0 < k
      · rw [if_pos hb0, if_neg]
        · simp
        · intro e
          have := congrArg List.length e
          simp at this
          omega
      · rw [if_neg hb0, if_pos, List.nil_append]
        have : k - b0 = 0 := by omega
        rw [this, List.take_zero]
    · simp only [if_true]
      congr 2
      have e1 : k + 1 - b0 = (k - b0) + 1 := by omega
      rw [e1, List.take_add_one, List.getElem?_drop]
      have e2 : b0 + (k - b0) = k := by omega
      rw [e2, hb]
      rfl

theorem tokens_tk (l : List UInt8) : tokens l = tk [] l := by
  have h := tk_upTo l l 0 (by simp) (Nat.zero_le _)
  simpa [upTo] using h

theorem tk_mem (l : List UInt8) : ∀ (cur : List UInt8), (∀ b ∈ cur, inTok b = true) → ∀ t ∈ tk cur l, t ≠ [] ∧ ∀ b ∈ t, inTok b = true := by
  have hf : ∀ cur : List UInt8, (∀ b ∈ cur, inTok b = true) → ∀ t ∈ fin cur, t ≠ [] ∧ ∀ b ∈ t, inTok b = true := by
    intro cur hc t ht
    unfold fin at ht
    by_cases h : cur = []
    · rw [if_pos h] at ht; cases ht
    · rw [if_neg h] at ht
      rw [List.mem_singleton.1 ht]
      exact ⟨h, hc⟩
  induction l with
  | nil => exact fun cur hc t ht => hf cur hc t ht
  | cons b r ih =>
    intro cur hc t ht
    rw [tk_cons] at ht
    cases hi : inTok b
    · rw [hi, if_neg (by decide)] at ht
      rcases List.mem_append.1 ht with h | h
      · exact hf cur hc t h
      · exact ih [] (by simp) t h
    · rw [hi, if_pos rfl] at ht
      refine ih (cur ++ [b]) (fun c hc2 => ?_) t ht
      rcases List.mem_append.1 hc2 with h | h
      · exact hc c h
      · rw [List.mem_singleton.1 h]; exact hi

theorem tokens_mem (l : List UInt8) : ∀ t ∈ tokens l, t ≠ [] ∧ ∀ b ∈ t, inTok b = true := by
  rw [tokens_tk]
  exact tk_mem l [] (by simp)

theorem tk_all (t : List UInt8) (ht : ∀ b ∈ t, inTok b = true) : ∀ cur, tk cur t = fin (cur ++ t) := by
  induction t with
  | nil => intro cur; rw [List.append_nil, tk_nil]
  | cons b r ih =>
    intro cur
    rw [tk_cons, ht b (by simp), if_pos rfl, ih (fun c hc => ht c (by simp [hc])), List.append_assoc]
    rfl
theorem tk_sep (t : List UInt8) (ht : ∀ b ∈ t, inTok b = true) (s : UInt8) (hs : inTok s = false) (rest : List UInt8) : ∀ cur, tk cur (t ++ s :: rest) = fin (cur ++ t) ++ tk [] rest := by
  induction t with
  | nil => intro cur; rw [List.append_nil, List.nil_append, tk_cons, hs, if_neg (by decide)]
  | cons b r ih =>
    intro cur
    rw [List.cons_append, tk_cons, ht b (by simp), if_pos rfl, ih (fun c hc => ht c (by simp [hc])), List.append_assoc]
    rfl

theorem low_tok (b : UInt8) (h : inTok b = true) : low b = b := by
  unfold low
  rw [if_neg]
  unfold inTok at h
  have := of_decide_eq_true h
  omega
theorem low_toks (t : List UInt8) (h : ∀ b ∈ t, inTok b = true) : t.map low = t := by
  conv => rhs; rw [← List.map_id t]
  exact List.map_congr_left fun b hb => low_tok b (h b hb)
theorem low_low (b : UInt8) : low (low b) = low b := by
  by_cases h : 65 ≤ b.toNat ∧ b.toNat ≤ 90
  · have hn := low_num b
    rw [if_pos h] at hn
    unfold low at hn ⊢
    rw [if_pos h] at hn ⊢
    rw [if_neg (by omega)]
  · have : low b = b := by unfold low; rw [if_neg h]
    rw [this, this]
theorem low_lows (l : List UInt8) : (l.map low).map low = l.map low := by
  rw [List.map_map]
  exact List.map_congr_left fun b _ => low_low b

/-- a token's tokens -/
theorem tokens_one (t : List UInt8) (h1 : t ≠ []) (h : ∀ b ∈ t, inTok b = true) : tokens (t.map low) = [t] := by
  rw [low_toks t h, tokens_tk, tk_all t h, List.nil_append]
  unfold fin
  rw [if_neg h1]

/-- tokens that are put together -/
def cat (xs : List (List UInt8)) : List UInt8 := xs.flatMap fun t => t ++ [44, 32]
theorem cat_snoc (xs : List (List UInt8)) (t : List UInt8) : cat (xs ++ [t]) = cat xs ++ (t ++ [44, 32]) := by simp [cat]
theorem tokens_cat (xs : List (List UInt8)) (h : ∀ t ∈ xs, t ≠ [] ∧ ∀ b ∈ t, inTok b = true) : tokens ((cat xs).map low) = xs := by
  have hlow : (cat xs).map low = cat xs := by
    unfold cat
    rw [List.map_flatMap, List.flatMap_def, List.flatMap_def]
    congr 1
    refine List.map_congr_left fun t ht => ?_
    rw [List.map_append, low_toks t (h t ht).2]
    rfl
  rw [hlow, tokens_tk]
  clear hlow
  induction xs with
  | nil => rfl
  | cons t r ih =>
    obtain ⟨h1, h2⟩ := h t (by simp)
    have e : cat (t :: r) = t ++ 44 :: ([] ++ 32 :: cat r) := by simp [cat]
    rw [e, tk_sep t h2 44 (by decide), tk_sep [] (by simp) 32 (by decide), ih fun u hu => h u (by simp [hu])]
    simp [fin, h1]

theorem fin_size (cur : List UInt8) : (fin cur).flatten.length = cur.length := by
  unfold fin
  split
  · rename_i h; rw [h]; rfl
  · simp
theorem tk_size (l : List UInt8) : ∀ cur, (tk cur l).flatten.length ≤ cur.length + l.length := by
  induction l with
  | nil => intro cur; rw [tk_nil, fin_size]; simp
  | cons b r ih =>
    intro cur
    rw [tk_cons]
    split
    · have := ih (cur ++ [b]); simp at this ⊢; omega
    · have := ih []; simp only [List.flatten_append, List.length_append, fin_size, List.length_cons, List.length_nil] at this ⊢; omega
theorem cat_length (xs : List (List UInt8)) (h : ∀ t ∈ xs, t ≠ []) : (cat xs).length ≤ 3 * xs.flatten.length := by
  induction xs with
  | nil => simp [cat]
  | cons t r ih =>
    have := ih fun u hu => h u (by simp [hu])
    have h1 := List.length_pos_iff.2 (h t (by simp))
    have e : cat (t :: r) = t ++ ([44, 32] ++ cat r) := by simp [cat]
    rw [e]
    simp at this ⊢
    omega

-- trimming
theorem left_left (l : List UInt8) (c : UInt8) : Lib.trimLeftB (Lib.trimLeftB l c) c = Lib.trimLeftB l c := by
  unfold Lib.trimLeftB
  induction l with
  | nil => rfl
  | cons a r ih =>
    by_cases h : (a == c) = true
    · rw [List.dropWhile_cons, if_pos h]; exact ih
    · rw [List.dropWhile_cons, if_neg h, List.dropWhile_cons, if_neg h]
theorem right_nil (c : UInt8) : Lib.trimRightB [] c = [] := rfl
theorem right_right (l : List UInt8) (c : UInt8) : Lib.trimRightB (Lib.trimRightB l c) c = Lib.trimRightB l c := by
  have h := left_left l.reverse c
  unfold Lib.trimLeftB at h
  unfold Lib.trimRightB
  rw [List.reverse_reverse, h]
theorem right_cons (a : UInt8) (r : List UInt8) (c : UInt8) : Lib.trimRightB (a :: r) c = if Lib.trimRightB r c = [] ∧ (a == c) = true then [] else a :: Lib.trimRightB r c := by
  unfold Lib.trimRightB
  rw [List.reverse_cons, List.dropWhile_append]
  by_cases h : (List.dropWhile (fun x => x == c) r.reverse) = []
  · rw [h]
    by_cases ha : (a == c) = true
    · simp [ha]
    · simp [ha]
  · have he : (List.dropWhile (fun x => x == c) r.reverse).isEmpty = false := by simpa using h
    rw [he]
    simp [h]
theorem right_snoc (l : List UInt8) (c : UInt8) : Lib.trimRightB (l ++ [c]) c = Lib.trimRightB l c := by
  unfold Lib.trimRightB
  rw [List.reverse_append]
  simp
theorem left_right (l : List UInt8) (c : UInt8) : Lib.trimLeftB (Lib.trimRightB l c) c = Lib.trimRightB (Lib.trimLeftB l c) c := by
  induction l with
  | nil => rfl
  | cons a r ih =>
    by_cases ha : (a == c) = true
    · have hl : Lib.trimLeftB (a :: r) c = Lib.trimLeftB r c := by unfold Lib.trimLeftB; rw [List.dropWhile_cons, if_pos ha]
      rw [right_cons, hl, ← ih]
      by_cases h : Lib.trimRightB r c = []
      · rw [if_pos ⟨h, ha⟩, h]
      · rw [if_neg (fun x => h x.1)]
        unfold Lib.trimLeftB
        rw [List.dropWhile_cons, if_pos ha]
    · have hl : ∀ x, Lib.trimLeftB (a :: x) c = a :: x := by intro x; unfold Lib.trimLeftB; rw [List.dropWhile_cons, if_neg ha]
      rw [right_cons, if_neg (fun x => ha x.2), hl, hl, right_cons, if_neg (fun x => ha x.2)]
theorem trim_trim (l : List UInt8) (c : UInt8) : Lib.trimB (Lib.trimB l c) c = Lib.trimB l c := by
  unfold Lib.trimB
  rw [left_right (Lib.trimLeftB (Lib.trimRightB l c) c), left_left, ← left_right, right_right]
theorem trim_around (l : List UInt8) : Lib.trimB (([32] ++ l) ++ [32, 32]) 32 = Lib.trimB l 32 := by
  unfold Lib.trimB
  have e : ([32] ++ l) ++ [32, 32] = ((32 :: l) ++ [32]) ++ [32] := by simp
  rw [e, right_snoc, right_snoc, left_right, left_right]
  congr 1
theorem left_length (l : List UInt8) (c : UInt8) : (Lib.trimLeftB l c).length ≤ l.length := by
  unfold Lib.trimLeftB
  exact (List.dropWhile_sublist _).length_le
theorem right_length (l : List UInt8) (c : UInt8) : (Lib.trimRightB l c).length ≤ l.length := by
  unfold Lib.trimRightB
  rw [List.length_reverse]
  have := (List.dropWhile_sublist (fun x => x == c) (l := l.reverse)).length_le
  rwa [List.length_reverse] at this
theorem trim_length (l : List UInt8) (c : UInt8) : (Lib.trimB l c).length ≤ l.length :=
  Nat.le_trans (left_length _ _) (right_length _ _)

-- digits
def isDig (n : Nat) : Prop := 48 ≤ n ∧ n ≤ 57
def like (a b : Nat) : Prop := a = b ∨ (isDig a ∧ isDig b)

def dec (a0 a1 a2 a3 : Nat) (s1 s2 s3 : Bool) : Nat × Nat :=
  let c1 := s1 && a1 / 64 == 2
  let c2 := s2 && a2 / 64 == 2
  let c3 := s3 && a3 / 64 == 2
  if a0 < 0x80 then (a0, 1)
  else if a0 / 32 == 6 && c1 then
    let c := (a0 % 32) * 64 + a1 % 64
    if c ≥ 0x80 then (c, 2) else (Utf8.runeError, 1)
  else if a0 / 16 == 14 && c1 && c2 then
    let c := (a0 % 16) * 4096 + (a1 % 64) * 64 + a2 % 64
    if c ≥ 0x800 && Utf8.valid c then (c, 3) else (Utf8.runeError, 1)
  else if a0 / 8 == 30 && c1 && c2 && c3 then
    let c := (a0 % 8) * 262144 + (a1 % 64) * 4096 + (a2 % 64) * 64 + a3 % 64
    if c ≥ 0x10000 && Utf8.valid c then (c, 4) else (Utf8.runeError, 1)
  else (Utf8.runeError, 1)

theorem decode_dec (s : ByteArray) (i : Nat) : Utf8.decode s i = dec (s.get! (i + 0)).toNat (s.get! (i + 1)).toNat (s.get! (i + 2)).toNat (s.get! (i + 3)).toNat (decide (i + 1 < s.size)) (decide (i + 2 < s.size)) (decide (i + 3 < s.size)) := rfl

theorem cont_like {a b : Nat} (h : like a b) (s : Bool) : (a = b) ∨ ((s && a / 64 == 2) = false ∧ (s && b / 64 == 2) = false) := by
  rcases h with h | ⟨⟨h1, h2⟩, h3, h4⟩
  · exact .inl h
  · have e1 : a / 64 = 0 := by omega
    have e2 : b / 64 = 0 := by omega
    right
    rw [e1, e2]
    simp

theorem cls_dig {a : Nat} (h : isDig a) : cls (a : Int) = 57 := by
  obtain ⟨h1, h2⟩ := h
  unfold cls
  rw [if_pos (by omega)]

theorem dec_like {a0 a1 a2 a3 b0 b1 b2 b3 : Nat} (s1 s2 s3 : Bool) (h0 : like a0 b0) (h1 : like a1 b1) (h2 : like a2 b2) (h3 : like a3 b3) :
    (dec a0 a1 a2 a3 s1 s2 s3).2 = (dec b0 b1 b2 b3 s1 s2 s3).2 ∧ cls ((dec a0 a1 a2 a3 s1 s2 s3).1 : Int) = cls ((dec b0 b1 b2 b3 s1 s2 s3).1 : Int) := by
  rcases h0 with rfl | ⟨d1, d2⟩
  · have e : dec a0 a1 a2 a3 s1 s2 s3 = dec a0 b1 b2 b3 s1 s2 s3 := by
      unfold dec
      rcases cont_like h1 s1 with rfl | ⟨x1, y1⟩
      · rcases cont_like h2 s2 with rfl | ⟨x2, y2⟩
        · rcases cont_like h3 s3 with rfl | ⟨x3, y3⟩
          · rfl
          · simp only [x3, y3, Bool.and_false, Bool.false_and, Bool.false_eq_true, if_false]
        · simp only [x2, y2, Bool.and_false, Bool.false_and, Bool.false_eq_true, if_false]
      · simp only [x1, y1, Bool.and_false, Bool.false_and, Bool.false_eq_true, if_false]
    rw [e]
    exact ⟨rfl, rfl⟩
  · have e1 : dec a0 a1 a2 a3 s1 s2 s3 = (a0, 1) := by unfold dec; rw [if_pos (by have := d1.2; omega)]
    have e2 : dec b0 b1 b2 b3 s1 s2 s3 = (b0, 1) := by unfold dec; rw [if_pos (by have := d2.2; omega)]
    rw [e1, e2]
    exact ⟨rfl, by rw [cls_dig d1, cls_dig d2]⟩

/-- two texts that differ in digits only -/
structure Like (s t : ByteArray) : Prop where
  sz : s.size = t.size
  at' : ∀ k, like (s.get! k).toNat (t.get! k).toNat

theorem pts_like {s t : ByteArray} (h : Like s t) (f : Nat) : ∀ pos, (ptsFrom s f pos).map cls = (ptsFrom t f pos).map cls := by
  induction f with
  | zero => intro pos; rfl
  | succ f ih =>
    intro pos
    by_cases hp : pos < s.size
    · have hq : pos < t.size := by rw [← h.sz]; exact hp
      have hd := dec_like (decide (pos + 1 < s.size)) (decide (pos + 2 < s.size)) (decide (pos + 3 < s.size)) (h.at' (pos + 0)) (h.at' (pos + 1)) (h.at' (pos + 2)) (h.at' (pos + 3))
      rw [← decode_dec] at hd
      rw [h.sz, ← decode_dec] at hd
      rw [ptsFrom_succ s f pos hp, ptsFrom_succ t f pos hq, List.map_cons, List.map_cons, hd.2, hd.1, ih]
    · have hq : ¬ pos < t.size := by rw [← h.sz]; exact hp
      rw [ptsFrom_end s _ pos hp, ptsFrom_end t _ pos hq]

def gstepC (st : St) (c : Int) : St :=
  if 0 < st.n ∧ c ≠ st.last then ⟨st.out ++ [(st.last, st.n)], c, 1⟩ else ⟨st.out, c, st.n + 1⟩
theorem groupsOf_cls (s : ByteArray) : groupsOf s = gend (((ptsFrom s s.size 0).map cls).foldl gstepC ⟨[], 0, 0⟩) := by
  unfold groupsOf
  rw [List.foldl_map]
  rfl
/-- patterns do not see which digits there are -/
theorem pattern_like {s t : ByteArray} (h : Like s t) : pattern s = pattern t := by
  unfold pattern
  rw [groupsOf_cls, groupsOf_cls, h.sz, pts_like h]

/-- another digit -/
def shift (b : UInt8) : UInt8 := if 48 ≤ b.toNat ∧ b.toNat ≤ 57 then 48 + (b - 48 + 7) % 10 else b
theorem shift_num (b : UInt8) (h : 48 ≤ b.toNat ∧ b.toNat ≤ 57) : (shift b).toNat = 48 + (b.toNat - 48 + 7) % 10 := by
  have hx : (b - 48 : UInt8).toNat = b.toNat - 48 := by
    rw [UInt8.toNat_sub_of_le _ _ (by rw [UInt8.le_iff_toNat_le]; exact h.1)]
    rfl
  unfold shift
  rw [if_pos h, UInt8.toNat_add, UInt8.toNat_mod, UInt8.toNat_add, hx]
  have e1 : (48 : UInt8).toNat = 48 := rfl
  have e2 : (7 : UInt8).toNat = 7 := rfl
  have e3 : (10 : UInt8).toNat = 10 := rfl
  rw [e1, e2, e3]
  omega
theorem shift_like (b : UInt8) : like b.toNat (shift b).toNat := by
  by_cases h : 48 ≤ b.toNat ∧ b.toNat ≤ 57
  · refine .inr ⟨h, ?_⟩
    rw [shift_num b h]
    unfold isDig
    omega
  · refine .inl ?_
    unfold shift
    rw [if_neg h]
theorem get_list (l : List UInt8) (k : Nat) : (⟨l.toArray⟩ : ByteArray).get! k = l[k]! := by
  show l.toArray[k]! = l[k]!
  simp
theorem shift_Like (l : List UInt8) : Like ⟨l.toArray⟩ ⟨(l.map shift).toArray⟩ := by
  refine ⟨by simp [ByteArray.size], fun k => ?_⟩
  rw [get_list, get_list]
  by_cases hk : k < l.length
  · rw [getElem!_pos l k hk, getElem!_pos (l.map shift) k (by simpa using hk), List.getElem_map]
    exact shift_like _
  · rw [getElem!_neg l k hk, getElem!_neg (l.map shift) k (by simpa using hk)]
    exact .inl rfl
theorem pattern_shift (l : List UInt8) : pattern ⟨(l.map shift).toArray⟩ = pattern ⟨l.toArray⟩ := (pattern_like (shift_Like l)).symm
end Go.Proofs.Ytgmnjiiommbjaaa.tw
