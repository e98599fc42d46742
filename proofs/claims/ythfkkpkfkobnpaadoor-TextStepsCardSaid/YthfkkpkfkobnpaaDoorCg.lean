/- Lines of the reference. -/
import Derived.Test.YthfkkpkfkobnpaaDoorBj
import Derived.Deep.AppendLies
set_option linter.unusedSimpArgs false
set_option linter.unusedVariables false
namespace Go.Proofs.YthfkkpkfkobnpaaDoor.rf
open Go.RowKit Go.Proofs.YthfkkpkfkobnpaaDoor.tx Go.Proofs.YthfkkpkfkobnpaaDoor.tok

theorem chop_ne (y : List UInt8) (b : UInt8) (h : b ≠ 13) : chop (y ++ [b]) = y ++ [b] := by
  unfold chop Lib.trimSuffix
  rw [if_neg]
  intro hs
  unfold Lib.hasSuffix at hs
  obtain ⟨t, ht⟩ := List.isSuffixOf_iff_suffix.1 hs
  have := (List.append_inj' ht rfl).2
  injection this with h1
  exact h h1.symm

theorem piece (L : List UInt8) (f m : Nat) (hf : f ≤ m) (b : UInt8) (hb : L[m]? = some b) : (L.drop f).take (m + 1 - f) = (L.drop f).take (m - f) ++ [b] := by
  have e1 : m + 1 - f = (m - f) + 1 := by omega
  rw [e1, List.take_add_one, List.getElem?_drop]
  have e2 : f + (m - f) = m := by omega
  rw [e2, hb]
  rfl

theorem nl_none (l : List UInt8) (h : ∀ b ∈ l, b ≠ 10) : nl l = -1 := by
  induction l with
  | nil => rfl
  | cons b l ih =>
    have hb : (b == 10) = false := by simpa using h b (by simp)
    have ih' := ih (fun c hc => h c (by simp [hc]))
    unfold nl at *
    rw [Lib.indexByte, hb, ih']
    simp

/-- no end of a line from f to k -/
def Free (L : List UInt8) (f k : Nat) : Prop := ∀ j, f ≤ j → j < k → L[j]? ≠ some 10

theorem free_take {L : List UInt8} {f k : Nat} (h : Free L f k) : ∀ b ∈ (L.drop f).take (k - f), b ≠ 10 := by
  rintro b hb rfl
  obtain ⟨i, hi, hx⟩ := List.getElem_of_mem hb
  rw [List.length_take, List.length_drop] at hi
  rw [List.getElem_take, List.getElem_drop] at hx
  refine h (f + i) (by omega) (by omega) ?_
  rw [List.getElem?_eq_getElem (by omega), hx]

theorem lines_hit {L : List UInt8} {f k : Nat} (hf : f ≤ k) (hk : L[k]? = some 10) (h : Free L f k) : linesFrom L.length (L.drop f) = chop ((L.drop f).take (k - f)) :: linesFrom L.length (L.drop (k + 1)) := by
  have hkl : k < L.length := (List.getElem?_eq_some_iff.1 hk).1
  have hsplit : L.drop f = (L.drop f).take (k - f) ++ 10 :: L.drop (k + 1) := by
    conv => lhs; rw [← List.take_append_drop (k - f) (L.drop f)]
    congr 1
    rw [List.drop_drop]
    have e : f + (k - f) = k := by omega
    rw [e, List.drop_eq_getElem_cons hkl]
    congr 1
    rw [List.getElem?_eq_getElem hkl] at hk
    exact Option.some.inj hk
  have hlen : ((L.drop f).take (k - f)).length = k - f := by rw [List.length_take, List.length_drop]; omega
  have hnl : nl (L.drop f) = ((k - f : Nat) : Int) := by
    have := nl_at ((L.drop f).take (k - f)) (L.drop (k + 1)) (free_take h)
    rw [← hsplit, hlen] at this
    exact this
  have hne : L.drop f ≠ [] := by
    intro e
    have := congrArg List.length e
    rw [List.length_drop] at this
    simp at this
    omega
  obtain ⟨n, hn⟩ : ∃ n, L.length = n + 1 := ⟨L.length - 1, by omega⟩
  rw [hn, linesFrom_hit n _ _ hne hnl, List.drop_drop]
  have e : f + (k - f + 1) = k + 1 := by omega
  rw [e]
  congr 1
  exact linesFrom_enough _ _ _ (by rw [List.length_drop]; omega) (by rw [List.length_drop]; omega)

theorem lines_miss {L : List UInt8} {f : Nat} (hf : f < L.length) (h : Free L f L.length) : linesFrom L.length (L.drop f) = [L.drop f] := by
  have hne : L.drop f ≠ [] := by
    intro e
    have := congrArg List.length e
    rw [List.length_drop] at this
    simp at this
    omega
  refine linesFrom_miss _ _ hne (nl_none _ fun b hb => ?_) (by rw [List.length_drop]; omega)
  have := free_take h b
  rw [List.take_of_length_le (by rw [List.length_drop]; exact Nat.le_refl _)] at this
  exact this hb

theorem lines_length (n : Nat) : ∀ l : List UInt8, (linesFrom n l).length ≤ n := by
  induction n with
  | zero => intro l; exact Nat.le_refl _
  | succ n ih =>
    intro l
    by_cases hl : l = []
    · rw [hl, linesFrom_nil]; simp
    · rcases nl_cases l with hk | ⟨k, hk, hkl⟩
      · simp only [linesFrom, if_neg hl, if_pos hk]; simp
      · rw [linesFrom_hit n l k hl hk]
        have := ih (l.drop (k + 1))
        simp
        omega

set_option maxRecDepth 100000 in
set_option maxHeartbeats 2000000 in
theorem refLines_any (L : List UInt8) (hz : L.length ≤ 1000000) (w : World) : Calls Tryd.prog 26 #[.string ⟨L.toArray⟩] w fun e w' => ∃ v, e = .returned v ∧ w'.ownsRow w.heap.size 9 1 v (lines L).length ((lines L).map encStr) ∧ Below w.heap.size w w' := by
  obtain ⟨i0, hi, hz0, hz1, hz2⟩ := info_parts tok.info_str
  obtain ⟨S, hS⟩ : ∃ S : ByteArray, S = ⟨L.toArray⟩ := ⟨_, rfl⟩
  have hsz : S.size = L.length := by rw [hS]; simp [ByteArray.size]
  have hsx : ∀ b i, Value.string (S.extract b i) = encStr ((L.drop b).take (i - b)) := by rw [hS]; exact extract_enc L
  have hget : ∀ (i : Nat) (h : i < S.size), L[i]? = some S[i] := by
    subst hS
    intro i h
    have h2 : i < L.length := by simpa [ByteArray.size] using h
    rw [List.getElem?_eq_getElem h2]
    rfl
  rw [← hS]
  have hlen : (lines L).length ≤ L.length := lines_length _ _
  have hlen1 : S.size ≤ 1000000 := by omega
  have HS := Lib.hid (And.intro hsx (And.intro hget (And.intro hsz hlen)))
  clear hS hsx hget hlen
  go_enter Tryd.func26, Tryd.ntmps26
  rw [← hsz] at hz
  clear hsz
  go_wp2
  go_loopw [3, 4, 5] (fun v b i wr => ∃ (k f : Nat) (out : List (List UInt8)), k ≤ S.size ∧ i = .int .i64 (k : Int) ∧ b = .int .i64 (f : Int) ∧ f ≤ k ∧ Free L f k ∧ out ++ linesFrom L.length (L.drop f) = lines L ∧ wr.ownsRow w.heap.size 9 1 v out.length (out.map encStr) ∧ Below w.heap.size w wr)
    (fun _ _ i _ => S.size - (intOf i).toNat)
  case atStart => exact ⟨0, 0, [], Nat.zero_le _, rfl, rfl, Nat.le_refl _, fun j h1 h2 => by omega, rfl, World.ownsRow_nil _ _ _ _, Below.refl _ _⟩
  case round =>
    obtain ⟨k, f, out, hk, rfl, rfl, hfk, hfree, hout, hown, hb⟩ := hrel
    have hol : out.length ≤ 1000000 := by
      have := congrArg List.length hout
      rw [List.length_append] at this
      have := HS.out.2.2.2
      have := HS.out.2.2.1
      omega
    have hbs := hb.size
    by_cases hlt : k < S.size
    · have e3 : IntKind.i64.wrap ((k : Int) + 1) = (k : Int) + 1 := IntWalk.i64_in _ (by omega)
      have hg := HS.out.2.1 k hlt
      obtain ⟨x, hx⟩ : ∃ x, x = S[k] := ⟨_, rfl⟩
      rw [← hx] at hg
      by_cases hx10 : x = 10
      · have hx2 : ((S[k]'hlt).toNat : Int) = 10 := by rw [← hx, hx10]; rfl
        rw [hx10] at hg
        have hhit := lines_hit hfk hg hfree
        rw [hhit] at hout
        have hfree2 : Free L (k + 1) (k + 1) := fun j h1 h2 => by omega
        clear hx hg hfree hhit
        have i1 : (0 : Int) ≤ (f : Int) := by omega
        have i2 : (f : Int) ≤ (k : Int) := by omega
        have i3 : (k : Int) ≤ (S.size : Int) := by omega
        obtain ⟨X, hX⟩ : ∃ X, X = chop ((L.drop f).take (k - f)) := ⟨_, rfl⟩
        rw [← hX] at hout
        by_cases hfk2 : f < k
        · obtain ⟨m, rfl⟩ : ∃ m, k = m + 1 := ⟨k - 1, by omega⟩
          have hm : m < S.size := by omega
          have hgm := HS.out.2.1 m hm
          obtain ⟨y, hy⟩ : ∃ y, y = S[m] := ⟨_, rfl⟩
          rw [← hy] at hgm
          have hp := piece L f m (by omega) y hgm
          rw [hp] at hX
          have c1 : (f : Int) < ((m + 1 : Nat) : Int) := by omega
          have c2 : ((m + 1 : Nat) : Int) - 1 = (m : Int) := by omega
          have c3 : (m : Int) + 1 - 1 = (m : Int) := by omega
          have c4 : IntKind.i64.wrap (m : Int) = (m : Int) := IntWalk.i64_in _ (by omega)
          have c5 : (f : Int) ≤ (m : Int) := by omega
          have c6 : (m : Int) ≤ (S.size : Int) := by omega
          have c7 : (f : Int) ≤ (m : Int) + 1 := by omega
          have c8 : (m : Int) + 1 ≤ (S.size : Int) := by omega
          by_cases hy13 : y = 13
          · have hy2 : ((S[m]'hm).toNat : Int) = 13 := by rw [← hy, hy13]; rfl
            rw [hy13, chop_cr] at hX
            have hse : Value.string (S.extract f m) = encStr X := by rw [hX]; exact HS.out.1 f m
            have HB := Lib.hid (And.intro hout (And.intro hb hfree2))
            clear hout hb hfree2 hX hp hgm hy hy13 hx10
            go_wp2_with (at_builtin; refine wpList_append_lies _ (by rfl) _ _ 28 (by rfl) w.heap.size 9 i0 _ 1 16 Tryd.underlying28 hi hz0 hz1 hz2 rfl (by omega) _ out.length (out.map encStr) (by rfl) (hown.alloc _) ⟨wr.heap.size, 0, none⟩ 1 1 [encStr X] (by rfl) (by rfl) (World.news_of_block (cs := #[encStr X]) (t := 9) (fr := (0, 0)) (heap_alloc_new wr _)) (by simp [Value.oneCell', encStr]) (by omega) (by unfold maxLen; omega) (by omega) (by simp; omega) (wr.heap.size + 1) (by simp) ?_; intro g2 cap2 w7 hown7 hgrow hat hlt7)
            refine ⟨⟨m + 1 + 1, m + 1 + 1, out ++ [X], by omega, by simp, by simp, Nat.le_refl _, HB.out.2.2, by rw [List.append_assoc]; exact HB.out.1, ?_, ?_⟩, by simp [intOf] <;> omega⟩
            · rw [List.length_append, List.map_append, List.map_cons, List.map_nil]
              exact hown7
            · exact (HB.out.2.1.alloc hbs _).grown hgrow (by simp; omega) (fun j e => (hown.lt j e).1)
          · have hy2 : (((S[m]'hm).toNat : Int) == 13) = false := by
              rw [← hy, beq_eq_false_iff_ne]
              intro e
              exact hy13 (UInt8.toNat_inj.1 (by exact_mod_cast e))
            rw [chop_ne _ _ hy13, ← hp] at hX
            have hse : Value.string (S.extract f (m + 1)) = encStr X := by rw [hX]; exact HS.out.1 f (m + 1)
            have HB := Lib.hid (And.intro hout (And.intro hb hfree2))
            clear hout hb hfree2 hX hp hgm hy hy13 hx10
            go_wp2_with (at_builtin; refine wpList_append_lies _ (by rfl) _ _ 28 (by rfl) w.heap.size 9 i0 _ 1 16 Tryd.underlying28 hi hz0 hz1 hz2 rfl (by omega) _ out.length (out.map encStr) (by rfl) (hown.alloc _) ⟨wr.heap.size, 0, none⟩ 1 1 [encStr X] (by rfl) (by rfl) (World.news_of_block (cs := #[encStr X]) (t := 9) (fr := (0, 0)) (heap_alloc_new wr _)) (by simp [Value.oneCell', encStr]) (by omega) (by unfold maxLen; omega) (by omega) (by simp; omega) (wr.heap.size + 1) (by simp) ?_; intro g2 cap2 w7 hown7 hgrow hat hlt7)
            refine ⟨⟨m + 1 + 1, m + 1 + 1, out ++ [X], by omega, by simp, by simp, Nat.le_refl _, HB.out.2.2, by rw [List.append_assoc]; exact HB.out.1, ?_, ?_⟩, by simp [intOf] <;> omega⟩
            · rw [List.length_append, List.map_append, List.map_cons, List.map_nil]
              exact hown7
            · exact (HB.out.2.1.alloc hbs _).grown hgrow (by simp; omega) (fun j e => (hown.lt j e).1)
        · obtain rfl : f = k := by omega
          rw [Nat.sub_self, List.take_zero] at hX
          obtain rfl : X = [] := hX
          have HB := Lib.hid (And.intro hout (And.intro hb hfree2))
          have c1 : ¬ (f : Int) < (f : Int) := by omega
          clear hout hb hfree2 hx10 hfk2
          go_wp2_with (at_builtin; refine wpList_append_lies _ (by rfl) _ _ 28 (by rfl) w.heap.size 9 i0 _ 1 16 Tryd.underlying28 hi hz0 hz1 hz2 rfl (by omega) _ out.length (out.map encStr) (by rfl) (hown.alloc _) ⟨wr.heap.size, 0, none⟩ 1 1 [encStr []] (by rfl) (by rfl) (World.news_of_block (cs := #[encStr []]) (t := 9) (fr := (0, 0)) (heap_alloc_new wr _)) (by simp [Value.oneCell', encStr]) (by omega) (by unfold maxLen; omega) (by omega) (by simp; omega) (wr.heap.size + 1) (by simp) ?_; intro g2 cap2 w7 hown7 hgrow hat hlt7)
          refine ⟨⟨f + 1, f + 1, out ++ [[]], by omega, by simp, by simp, Nat.le_refl _, HB.out.2.2, by rw [List.append_assoc]; exact HB.out.1, ?_, ?_⟩, by simp [intOf] <;> omega⟩
          · rw [List.length_append, List.map_append, List.map_cons, List.map_nil]
            exact hown7
          · exact (HB.out.2.1.alloc hbs _).grown hgrow (by simp; omega) (fun j e => (hown.lt j e).1)
      · have hx2 : (((S[k]'hlt).toNat : Int) != 10) = true := by
          rw [← hx, bne_iff_ne]
          intro e
          exact hx10 (UInt8.toNat_inj.1 (by exact_mod_cast e))
        have hfree2 : Free L f (k + 1) := by
          intro j h1 h2 h3
          by_cases e : j = k
          · subst e
            rw [hg] at h3
            exact hx10 (Option.some.inj h3)
          · exact hfree j h1 (by omega) h3
        have HB := Lib.hid (And.intro hout (And.intro hb (And.intro hfree2 hown)))
        clear hout hb hfree2 hown hfree hg hx10 hx
        go_wp2_with fail
        exact ⟨⟨k + 1, f, out, by omega, by simp, rfl, by omega, HB.out.2.2.1, HB.out.1, HB.out.2.2.2, HB.out.2.1⟩, by simp [intOf] <;> omega⟩
    · obtain rfl : k = S.size := by omega
      by_cases hfs : f < S.size
      · have c1 : (f : Int) < (S.size : Int) := by omega
        have i1 : (0 : Int) ≤ (f : Int) := by omega
        have i2 : (f : Int) ≤ (S.size : Int) := by omega
        have hL := HS.out.2.2.1
        rw [hL] at hfree
        rw [lines_miss (by omega) hfree] at hout
        obtain ⟨X, hX⟩ : ∃ X, X = L.drop f := ⟨_, rfl⟩
        have hse : Value.string (S.extract f S.size) = encStr X := by
          rw [hX, HS.out.1 f S.size, List.take_of_length_le (by rw [List.length_drop]; omega)]
        rw [← hX] at hout
        have HB := Lib.hid (And.intro hout hb)
        clear hout hb hfree hX hL
        go_wp2_with (at_builtin; refine wpList_append_lies _ (by rfl) _ _ 28 (by rfl) w.heap.size 9 i0 _ 1 16 Tryd.underlying28 hi hz0 hz1 hz2 rfl (by omega) _ out.length (out.map encStr) (by rfl) (hown.alloc _) ⟨wr.heap.size, 0, none⟩ 1 1 [encStr X] (by rfl) (by rfl) (World.news_of_block (cs := #[encStr X]) (t := 9) (fr := (0, 0)) (heap_alloc_new wr _)) (by simp [Value.oneCell', encStr]) (by omega) (by unfold maxLen; omega) (by omega) (by simp; omega) (wr.heap.size + 1) (by simp) ?_; intro g2 cap2 w7 hown7 hgrow hat hlt7)
        go_ret
        refine ⟨_, rfl, ?_, (HB.out.2.alloc hbs _).grown hgrow (by simp; omega) (fun j e => (hown.lt j e).1)⟩
        rw [← HB.out.1, List.length_append, List.map_append, List.map_cons, List.map_nil]
        exact hown7
      · obtain rfl : f = S.size := by omega
        have c1 : ¬ (S.size : Int) < (S.size : Int) := by omega
        have hd : L.drop S.size = [] := List.drop_eq_nil_of_le (by have := HS.out.2.2.1; omega)
        rw [hd, linesFrom_nil, List.append_nil] at hout
        have HB := Lib.hid (And.intro hout (And.intro hb hown))
        clear hout hb hown hfree hd
        go_wp2_with fail
        go_ret
        exact ⟨_, rfl, by rw [← HB.out.1]; exact HB.out.2.2, HB.out.2.1⟩
end Go.Proofs.YthfkkpkfkobnpaaDoor.rf
