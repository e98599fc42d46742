/- Tokens of the reference. -/
import Derived.Test.YtgmnjiiommbjaaaBk
import Derived.Test.YtgmnjiiommbjaaaCe
set_option linter.unusedSimpArgs false
set_option linter.unusedVariables false
namespace Go.Proofs.Ytgmnjiiommbjaaa.rf
open Go.RowKit Go.Proofs.Ytgmnjiiommbjaaa.fold Go.Proofs.Ytgmnjiiommbjaaa.tok

theorem upTo_space (l : List UInt8) (k : Nat) (hk : k ≤ l.length + 1) : upTo (l ++ [32]) k = upTo l k := by
  induction k with
  | zero => rfl
  | succ k ih =>
    rw [upTo_succ, upTo_succ, ih (by omega)]
    have hle := (upTo_le l k).1
    generalize upTo l k = u at *
    obtain ⟨ts, b⟩ := u
    have hti : isTok (l ++ [32]) k = isTok l k := by
      unfold isTok
      by_cases h : k < l.length
      · rw [List.getElem?_append_left h]
      · obtain rfl : k = l.length := by omega
        rw [List.getElem?_append_right (Nat.le_refl _), Nat.sub_self, List.getElem?_eq_none (Nat.le_refl l.length)]
        rfl
    have hex : ((l ++ [32]).drop b).take (k - b) = (l.drop b).take (k - b) := by
      dsimp only at hle
      rw [List.drop_append_of_le_length (by omega), List.take_append_of_le_length (by rw [List.length_drop]; omega)]
    unfold tok.step
    dsimp only
    rw [hti, hex]

theorem regions (x : Int) (h0 : 0 ≤ x) : (x < 48 ∨ (58 ≤ x ∧ x < 97) ∨ (123 ≤ x ∧ x < 128)) ∨ ((48 ≤ x ∧ x ≤ 57) ∨ (97 ≤ x ∧ x ≤ 122) ∨ 128 ≤ x) := by omega

set_option maxRecDepth 100000 in
set_option maxHeartbeats 1000000 in
theorem refTokens_any (s : ByteArray) (w : World) (hs : s.size ≤ 1000000) :
    Calls Try.prog 39 #[.string s] w fun e w' => ∃ v, e = .returned v ∧ w'.ownsRow w.heap.size 9 1 v (tokens (s.data.toList.map low)).length ((tokens (s.data.toList.map low)).map encStr) ∧ Below w.heap.size w w' := by
  obtain ⟨i0, hi, hz0, hz1, hz2⟩ := info_parts tok.info_str
  go_enter Try.func39, Try.ntmps39
  go_wp2_with fail
  refine (refFold_any s w hs).mono ?_
  rintro _ w1 ⟨rfl, hb1⟩
  have hlen0 : (s.data.toList.map low).length ≤ 1000000 := by rw [List.length_map, Array.length_toList]; exact hs
  obtain ⟨l0, hl⟩ : ∃ l, l = s.data.toList.map low := ⟨_, rfl⟩
  rw [← hl] at hlen0 ⊢
  have HL := Lib.hid hl
  clear hl
  obtain ⟨l, hl'⟩ : ∃ l, l = l0 ++ [32] := ⟨_, rfl⟩
  have hll : l.length = l0.length + 1 := by rw [hl']; simp
  have htok : (upTo l l.length).1 = tokens l0 := by
    rw [hll, hl', upTo_space l0 _ (Nat.le_refl _)]
    rfl
  go_wp2_with fail
  have hSS : (⟨l0.toArray⟩ : ByteArray) ++ ⟨#[32]⟩ = ⟨l.toArray⟩ := by
    apply ByteArray.ext
    rw [ByteArray.data_append, hl']
    simp
  rw [hSS]
  clear hSS hl'
  obtain ⟨S, hS⟩ : ∃ S : ByteArray, S = ⟨l.toArray⟩ := ⟨_, rfl⟩
  have hsz : S.size = l.length := by rw [hS]; simp [ByteArray.size]
  have hsx : ∀ b i, Value.string (S.extract b i) = encStr ((l.drop b).take (i - b)) := by rw [hS]; exact extract_enc l
  have hget : ∀ (i : Nat) (h : i < S.size), l[i]? = some S[i] := by
    subst hS
    intro i h
    have h2 : i < l.length := by simpa [ByteArray.size] using h
    rw [List.getElem?_eq_getElem h2]
    rfl
  rw [← hS]
  have hlen1 : S.size ≤ 1000001 := by omega
  have HS := Lib.hid (And.intro hsx (And.intro hget (And.intro hsz htok)))
  clear hS hsx hget hsz htok hll hlen0
  go_loopw [3, 4, 5] (fun v b i wr => ∃ k : Nat, k ≤ S.size ∧ i = .int .i64 (k : Int) ∧ b = .int .i64 ((upTo l k).2 : Int) ∧ wr.ownsRow w.heap.size 9 1 v (upTo l k).1.length ((upTo l k).1.map encStr) ∧ Below w.heap.size w wr)
    (fun _ _ i _ => S.size - (intOf i).toNat)
  case atStart => exact ⟨0, Nat.zero_le _, rfl, rfl, World.ownsRow_nil _ _ _ _, hb1⟩
  case round =>
    obtain ⟨k, hk, rfl, rfl, hown, hb⟩ := hrel
    obtain ⟨hle1, hle2⟩ := upTo_le l k
    by_cases hlt : k < S.size
    · have hst := upTo_succ l k
      have e3 : IntKind.i64.wrap ((k : Int) + 1) = (k : Int) + 1 := IntWalk.i64_in _ (by omega)
      obtain ⟨ts, b0, hu⟩ : ∃ ts b0, upTo l k = (ts, b0) := ⟨_, _, rfl⟩
      rw [hu] at hst hle1 hle2 hown
      simp only [hu]
      dsimp only at hle1 hle2 hown
      clear hu
      unfold tok.step at hst
      dsimp only at hst
      have hg := HS.out.2.1 k hlt
      obtain ⟨x, hx⟩ : ∃ x, x = S[k] := ⟨_, rfl⟩
      rw [← hx] at hg
      obtain ⟨y, hy⟩ : ∃ y : Int, y = (x.toNat : Int) := ⟨_, rfl⟩
      have hx2 : ((S[k]'hlt).toNat : Int) = y := by rw [hy, hx]
      have hti : isTok l k = inTok x := by unfold isTok; rw [hg]
      rw [hti] at hst
      have hin : inTok x = decide (48 ≤ y ∧ y ≤ 57 ∨ 97 ≤ y ∧ y ≤ 122 ∨ 128 ≤ y) := by
        unfold inTok
        congr 1
        simp only [eq_iff_iff]
        omega
      rw [hin] at hst
      have hy0 : 0 ≤ y := by omega
      have hy256 : y < 256 := by have := x.toNat_lt; omega
      clear hx hg hti hy hin
      rcases regions y hy0 with hr | hr
      · rw [if_neg (by simp; omega)] at hst
        by_cases hbk : b0 < k
        · have hbk' : (b0 : Int) < (k : Int) := by omega
          have i1 : (0 : Int) ≤ (b0 : Int) := by omega
          have i2 : (b0 : Int) ≤ (k : Int) := by omega
          have i3 : (k : Int) ≤ (S.size : Int) := by omega
          rw [if_pos hbk] at hst
          have hse := HS.out.1 b0 k
          have HB := Lib.hid (And.intro hst hb)
          have hbs := hb.size
          clear hst hb
          rcases hr with h1 | ⟨h1, h2⟩ | ⟨h1, h2⟩
          all_goals
            have f1 : ¬ (48 ≤ y ∧ y ≤ 57) := by omega
            have f2 : ¬ (97 ≤ y ∧ y ≤ 122) := by omega
            have f3 : ¬ (128 : Int) ≤ y := by omega
            go_wp2_with (at_builtin; refine wpList_append_lies _ (by rfl) _ _ 25 (by rfl) w.heap.size 9 i0 _ 1 16 Try.underlying25 hi hz0 hz1 hz2 rfl (by omega) _ ts.length (ts.map encStr) (by rfl) (hown.alloc _) ⟨wr.heap.size, 0, none⟩ 1 1 [encStr ((l.drop b0).take (k - b0))] (by rfl) (by rfl) (World.news_of_block (cs := #[encStr ((l.drop b0).take (k - b0))]) (t := 9) (fr := (0, 0)) (heap_alloc_new wr _)) (by simp [Value.oneCell', encStr]) (by omega) (by unfold maxLen; omega) (by omega) (by simp; omega) (wr.heap.size + 1) (by simp) ?_; intro g2 cap2 w7 hown7 hgrow hat hlt7)
            refine ⟨⟨k + 1, by omega, by simp, by rw [HB.out.1] <;> simp, ?_, ?_⟩, by simp [intOf] <;> omega⟩
            · rw [HB.out.1, List.length_append, List.map_append, List.map_cons, List.map_nil]
              exact hown7
            · exact (HB.out.2.alloc HB.out.2.size _).grown hgrow (by simp; omega) (fun j e => (hown.lt j e).1)
        · have hbk' : ¬ (b0 : Int) < (k : Int) := by omega
          rw [if_neg hbk] at hst
          have HB := Lib.hid (And.intro hst (And.intro hb hown))
          clear hst hb hown
          rcases hr with h1 | ⟨h1, h2⟩ | ⟨h1, h2⟩
          all_goals
            have f1 : ¬ (48 ≤ y ∧ y ≤ 57) := by omega
            have f2 : ¬ (97 ≤ y ∧ y ≤ 122) := by omega
            have f3 : ¬ (128 : Int) ≤ y := by omega
            go_wp2_with fail
            exact ⟨⟨k + 1, by omega, by simp, by rw [HB.out.1] <;> simp, by rw [HB.out.1]; exact HB.out.2.2, HB.out.2.1⟩, by simp [intOf] <;> omega⟩
      · rw [if_pos (by simp; omega)] at hst
        have HB := Lib.hid (And.intro hst (And.intro hb hown))
        clear hst hb hown
        rcases hr with ⟨h1, h2⟩ | ⟨h1, h2⟩ | h1
        all_goals
          go_wp2_with fail
          exact ⟨⟨k + 1, by omega, by simp, by rw [HB.out.1] <;> simp, by rw [HB.out.1]; exact HB.out.2.2, HB.out.2.1⟩, by simp [intOf] <;> omega⟩
    · obtain rfl : k = S.size := by omega
      have hfin : (upTo l S.size).1 = tokens l0 := by rw [HS.out.2.2.1]; exact HS.out.2.2.2
      rw [hfin] at hown
      have HB := Lib.hid (And.intro hown hb)
      clear hown hb hfin hle1 hle2
      go_wp2_with fail
      go_ret
      have hown := HB.out.1
      rw [HL.out] at hown
      exact ⟨_, rfl, hown, HB.out.2⟩
end Go.Proofs.Ytgmnjiiommbjaaa.rf
