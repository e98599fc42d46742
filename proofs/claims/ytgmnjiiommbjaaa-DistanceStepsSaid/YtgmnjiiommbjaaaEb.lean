/- The reference's Set gives a row of its own; the mill's Query gives texts whose capacity is known. -/
import Derived.Test.YtgmnjiiommbjaaaBy
import Derived.Test.YtgmnjiiommbjaaaDe
import Derived.Deep.RegionHeld3
set_option linter.unusedVariables false
set_option linter.unusedSimpArgs false
namespace Go.Proofs.Ytgmnjiiommbjaaa.tx
open Go.RowKit Go.Proofs.Ytgmnjiiommbjaaa.txt Go.Proofs.Ytgmnjiiommbjaaa.mill

set_option maxRecDepth 100000 in
set_option maxHeartbeats 2000000 in
theorem refSet_own (v : Value) (xs : List (List UInt8)) (w : World) (h : Strs w w.heap.size v xs) (hl : xs.length ≤ 1000000) :
    Calls Try.prog 38 #[v] w fun e w' => ∃ v', e = .returned v' ∧ w'.ownsRow w.heap.size 9 1 v' (setOf xs).length ((setOf xs).map encStr) ∧ Below w.heap.size w w' := by
  obtain ⟨i0, hi, hz0, hz1, hz2⟩ := info_parts tok.info_str
  obtain ⟨a, cap, rfl, hp⟩ := h.parts
  go_enter Try.func38, Try.ntmps38
  go_wp2
  go_loopw [3, 9] (fun v3 i wr => ∃ (k : Nat) (out : List (List UInt8)), i = .int .i64 (k : Int) ∧ k ≤ xs.length ∧ Put w xs k v3 out wr) (fun _ i _ => xs.length - (intOf i).toNat)
  case atStart => exact ⟨0, [], rfl, Nat.zero_le _, World.ownsRow_nil _ _ _ _, List.Pairwise.nil, by simp, by simp, Below.refl _ _⟩
  case round =>
    obtain ⟨i, out, rfl, hil, hP⟩ := hrel
    by_cases hin : i < xs.length
    · obtain ⟨b, off, rfl, hlt, hc⟩ := hp (by omega)
      obtain ⟨x, hx⟩ : ∃ x, xs[i]? = some x := ⟨_, List.getElem?_eq_getElem hin⟩
      have cx := (hP.below.cell (p := ⟨b, off + i, none⟩) hlt).trans (hc _ _ hx)
      obtain ⟨a3, cap3, rfl, hpo⟩ := put_parts hP.own
      have hol := hP.len
      have HX := Lib.hid (And.intro hx (And.intro hP hpo))
      clear hx hP hpo hc hp
      go_wp2_with fail
      go_loopw [6] (fun kk wr' => ∃ k : Nat, kk = .int .i64 (k : Int) ∧ k ≤ out.length ∧ (∀ j, j < k → out[j]! < x) ∧ wr' = wr) (fun kk _ => out.length - (intOf kk).toNat)
      case atStart => exact ⟨0, rfl, Nat.zero_le _, fun j hj => by omega, rfl⟩
      case round =>
        obtain ⟨k, rfl, hk, hlo, rfl⟩ := hrel
        by_cases hkl : k < out.length
        · obtain ⟨y, hy⟩ : ∃ y, out[k]? = some y := ⟨_, List.getElem?_eq_getElem hkl⟩
          have hyk : out[k]! = y := by rw [getElem!_def, hy]
          rcases HX.out.2.2 with ⟨_, h0, _⟩ | ⟨g, rfl, hlc, hcm, hco⟩
          · rw [h0] at hkl; exact absurd hkl (by simp)
          have cy := hco _ _ hy
          clear hco
          by_cases hyx : y < x
          · have hg : Op.bytesLess y x = true := by rw [bytesLess_eq]; simp [hyx]
            have HY := Lib.hid (And.intro hy hyk)
            clear hy hyk
            go_wp2
            go_roundw
            case rel => exact ⟨k + 1, by exact congrArg _ (by omega), by omega, ⟨fun j hj => by
              by_cases e : j = k
              · subst e; rw [HY.out.2]; exact hyx
              · exact hlo j (by omega), trivial⟩⟩
            case measure => simp [intOf] <;> omega
          · have hg : Op.bytesLess y x = false := by rw [bytesLess_eq]; simp [hyx]
            have HY := Lib.hid (And.intro hy hyk)
            clear hy hyk
            by_cases he : y = x
            · subst he
              have hg2 : (y == y) = true := by simp
              go_wp2
              exact ⟨⟨i + 1, out, by exact congrArg _ (by omega), by omega, put_same HX.out.2.1 HX.out.1 HY.out.1⟩, by simp [intOf] <;> omega⟩
            · have hg2 : (y == x) = false := by simp [he]
              go_wp2
              have HZ := Lib.hid (show (k < out.length → ¬ out[k]! < x) ∧ out[k]? ≠ some x from ⟨fun _ => by rw [HY.out.2]; exact hyx, by rw [HY.out.1]; exact fun e => he (Option.some.inj e)⟩)
              have q1 : k ≤ cap3 := by omega
              have q2 : ¬ cap3 = k := by omega
              have q3 : (0 : Int) ≤ (k : Int) := by omega
              have q4 : (k : Int) ≤ (cap3 : Int) := by omega
              have q5 : (k : Int) ≤ (out.length : Int) := by omega
              obtain ⟨hgb, hgl⟩ := owns_lt HX.out.2.1.own
              have HO := Lib.hid HX.out.2.1.own
              have hne : g ≠ wr.heap.size := by omega
              have hws := HX.out.2.1.below.size
              have A0 := Lib.hid (show ((wr.alloc (.cells #[.string ⟨x.toArray⟩] 9)).drew).ownsRow w.heap.size 9 1 (.slice (some ⟨g, 0, none⟩) k cap3) k ((out.map encStr).take k) from owns_take (HO.out.alloc _) hk)
              go_region_held3 (fun _ => True) (exact trivial) (first
                | (refine step_append_x (by rfl) (.tmp 43) (.tmp 46) _ (by rfl) wr.heap.size 9 i0 _ 1 16 Try.underlying25 hi hz0 hz1 hz2 rfl (by omega) _ 1 [encStr x] (by rfl) (fresh_own wr x)
                    (some ⟨g, k, none⟩) (out.length - k) _ ((out.map encStr).drop k) (by rfl) (by simp) (fun e => by cases e) (news_drop (HO.out.alloc _) k) (enc_one out k) (by omega) (by unfold maxLen; omega) (by omega) (by simp) ?_; intro g2 cap2 w2 hown2 hgrow2 hlt2 hor2)
                | (have A1 := owns_kept (H := wr.heap.size) A0.out hgrow2 hne; have A2 : w.heap.size ≤ w2.heap.size := Nat.le_trans hws (Nat.le_trans (size_ad wr _) hgrow2.size); refine step_append_x (by rfl) (.tmp 41) (.tmp 47) _ (by rfl) w.heap.size 9 i0 _ 1 16 Try.underlying25 hi hz0 hz1 hz2 rfl (by omega) _ k ((out.map encStr).take k) (by rfl) A1
                    (some ⟨g2, 0, none⟩) (1 + (out.length - k)) _ ([encStr x] ++ (out.map encStr).drop k) (by rfl) (by simp <;> omega) (fun e => by cases e) (fun ad e j u hu => by cases e; exact hown2.cells rfl j u hu) (enc_one' x out k) (by omega) (by unfold maxLen; omega) (by omega) A2 ?_; intro g3 cap4 w3 hown3 hgrow3 hlt3 hor3))
              have hbf : Below w.heap.size w w3 := chain_below HX.out.2.1.below hgrow2 hws A2 hgrow3 (fun j e => by cases e; exact hgb)
              have HB := Lib.hid hbf
              have HN := Lib.hid hown3
              clear hbf hown3 hgrow3 hgrow2 hown2 A1 hor2 hor3
              go_wp2
              exact ⟨⟨i + 1, _, by exact congrArg _ (by omega), by omega, put_new HX.out.2.1 HX.out.1 hk hlo HZ.out.1 HZ.out.2 HN.out HB.out⟩, by simp [intOf] <;> omega⟩
        · have hke : k = out.length := by omega
          have HZ := Lib.hid (show (k < out.length → ¬ out[k]! < x) ∧ out[k]? ≠ some x from ⟨fun h' => absurd h' hkl, by rw [List.getElem?_eq_none (by omega)]; exact fun e => by cases e⟩)
          have r1 : ¬ (k : Int) < (out.length : Int) := by omega
          have r2 : ((k : Int) == (out.length : Int)) = true := by simp; omega
          rcases HX.out.2.2 with ⟨rfl, rfl, rfl⟩ | ⟨g, rfl, hlc, hcm, _⟩
          · obtain rfl : k = 0 := by simpa using hke
            clear hke
            rw [show ((0 : Nat) : Int) = 0 from rfl]
            simp only [List.length_nil] at *
            go_wp2
            have hws := HX.out.2.1.below.size
            go_region_held3 (fun _ => True) (exact trivial) (first
              | (refine step_append_x (by rfl) (.tmp 43) (.tmp 46) _ (by rfl) wr.heap.size 9 i0 _ 1 16 Try.underlying25 hi hz0 hz1 hz2 rfl (by omega) _ 1 [encStr x] (by rfl) (fresh_own wr x)
                  none 0 _ [] (by rfl) (by simp) (fun _ => rfl) (fun ad e => by cases e) (fun u hu => by cases hu) (by omega) (by unfold maxLen; omega) (by omega) (by simp) ?_; intro g2 cap2 w2 hown2 hgrow2 hlt2 hor2)
              | (have A2 : w.heap.size ≤ w2.heap.size := Nat.le_trans hws (Nat.le_trans (size_ad wr _) hgrow2.size); refine step_append_x (by rfl) (.tmp 41) (.tmp 47) _ (by rfl) w.heap.size 9 i0 _ 1 16 Try.underlying25 hi hz0 hz1 hz2 rfl (by omega) (.slice none 0 0) 0 [] (by rfl) (World.ownsRow_nil _ _ _ _)
                  (some ⟨g2, 0, none⟩) 1 _ [encStr x] (by rfl) (by simp) (fun e => by cases e) (fun ad e j u hu => by cases e; exact hown2.cells rfl j u hu) (fun u hu => by rw [List.mem_singleton.1 hu]; rfl) (by omega) (by unfold maxLen; omega) (by omega) A2 ?_; intro g3 cap4 w3 hown3 hgrow3 hlt3 hor3))
            have hbf : Below w.heap.size w w3 := chain_below HX.out.2.1.below hgrow2 hws A2 hgrow3 (fun j e => by cases e)
            have HB := Lib.hid hbf
            have HN := Lib.hid hown3
            clear hbf hown3 hgrow3 hgrow2 hown2 hor2 hor3
            go_wp2
            exact ⟨⟨i + 1, [x], by exact congrArg _ (by omega), by omega, put_new (k := 0) HX.out.2.1 HX.out.1 hk hlo HZ.out.1 HZ.out.2 HN.out HB.out⟩, by simp [intOf] <;> omega⟩
          · clear hke
            by_cases hcc : cap3 = k
            · have hcc' := hcc.symm
              subst hcc'
              go_wp2
              have hlk : (out.map encStr).length ≤ k := by rw [List.length_map]; exact hlc
              have q1 : k ≤ k := by omega
              have q3 : (0 : Int) ≤ (k : Int) := by omega
              have q4 : (k : Int) ≤ (k : Int) := by omega
              have q5 : (k : Int) ≤ (out.length : Int) := by omega
              obtain ⟨hgb, hgl⟩ := owns_lt HX.out.2.1.own
              have HO := Lib.hid HX.out.2.1.own
              have hne : g ≠ wr.heap.size := by omega
              have hws := HX.out.2.1.below.size
              have A0 := Lib.hid (show ((wr.alloc (.cells #[.string ⟨x.toArray⟩] 9)).drew).ownsRow w.heap.size 9 1 (.slice (some ⟨g, 0, none⟩) k k) k ((out.map encStr).take k) from owns_take (HO.out.alloc _) hk)
              go_region_held3 (fun _ => True) (exact trivial) (first
                | (refine step_append_x (by rfl) (.tmp 43) (.tmp 46) _ (by rfl) wr.heap.size 9 i0 _ 1 16 Try.underlying25 hi hz0 hz1 hz2 rfl (by omega) _ 1 [encStr x] (by rfl) (fresh_own wr x)
                    (some ⟨g, 0, none⟩) 0 _ [] (by rfl) (by simp) (fun e => rfl) (fun ad e j u hu => by cases hu) (fun u hu => by cases hu) (by omega) (by unfold maxLen; omega) (by omega) (by simp) ?_; intro g2 cap2 w2 hown2 hgrow2 hlt2 hor2)
                | (have A1 := owns_kept (H := wr.heap.size) A0.out hgrow2 hne; have A2 : w.heap.size ≤ w2.heap.size := Nat.le_trans hws (Nat.le_trans (size_ad wr _) hgrow2.size); refine step_append_x (by rfl) (.tmp 41) (.tmp 47) _ (by rfl) w.heap.size 9 i0 _ 1 16 Try.underlying25 hi hz0 hz1 hz2 rfl (by omega) _ k ((out.map encStr).take k) (by rfl) A1
                    (some ⟨g2, 0, none⟩) 1 _ [encStr x] (by rfl) (by simp) (fun e => by cases e) (fun ad e j u hu => by cases e; exact hown2.cells rfl j u hu) (fun u hu => by rw [List.mem_singleton.1 hu]; rfl) (by omega) (by unfold maxLen; omega) (by omega) A2 ?_; intro g3 cap4 w3 hown3 hgrow3 hlt3 hor3))
              have hbf : Below w.heap.size w w3 := chain_below HX.out.2.1.below hgrow2 hws A2 hgrow3 (fun j e => by cases e; exact hgb)
              have HB := Lib.hid hbf
              have HN := Lib.hid (owns_last hlk hown3)
              clear hbf hown3 hgrow3 hgrow2 hown2 A1 hor2 hor3
              go_wp2
              exact ⟨⟨i + 1, _, by exact congrArg _ (by omega), by omega, put_new HX.out.2.1 HX.out.1 hk hlo HZ.out.1 HZ.out.2 HN.out HB.out⟩, by simp [intOf] <;> omega⟩
            · skip
              go_wp2
              have q1 : k ≤ cap3 := by omega
              have q2 : ¬ cap3 = k := hcc
              have q3 : (0 : Int) ≤ (k : Int) := by omega
              have q4 : (k : Int) ≤ (cap3 : Int) := by omega
              have q5 : (k : Int) ≤ (out.length : Int) := by omega
              obtain ⟨hgb, hgl⟩ := owns_lt HX.out.2.1.own
              have HO := Lib.hid HX.out.2.1.own
              have hne : g ≠ wr.heap.size := by omega
              have hws := HX.out.2.1.below.size
              have A0 := Lib.hid (show ((wr.alloc (.cells #[.string ⟨x.toArray⟩] 9)).drew).ownsRow w.heap.size 9 1 (.slice (some ⟨g, 0, none⟩) k cap3) k ((out.map encStr).take k) from owns_take (HO.out.alloc _) hk)
              go_region_held3 (fun _ => True) (exact trivial) (first
                | (refine step_append_x (by rfl) (.tmp 43) (.tmp 46) _ (by rfl) wr.heap.size 9 i0 _ 1 16 Try.underlying25 hi hz0 hz1 hz2 rfl (by omega) _ 1 [encStr x] (by rfl) (fresh_own wr x)
                    (some ⟨g, k, none⟩) (out.length - k) _ ((out.map encStr).drop k) (by rfl) (by simp) (fun e => by cases e) (news_drop (HO.out.alloc _) k) (enc_one out k) (by omega) (by unfold maxLen; omega) (by omega) (by simp) ?_; intro g2 cap2 w2 hown2 hgrow2 hlt2 hor2)
                | (have A1 := owns_kept (H := wr.heap.size) A0.out hgrow2 hne; have A2 : w.heap.size ≤ w2.heap.size := Nat.le_trans hws (Nat.le_trans (size_ad wr _) hgrow2.size); refine step_append_x (by rfl) (.tmp 41) (.tmp 47) _ (by rfl) w.heap.size 9 i0 _ 1 16 Try.underlying25 hi hz0 hz1 hz2 rfl (by omega) _ k ((out.map encStr).take k) (by rfl) A1
                    (some ⟨g2, 0, none⟩) (1 + (out.length - k)) _ ([encStr x] ++ (out.map encStr).drop k) (by rfl) (by simp <;> omega) (fun e => by cases e) (fun ad e j u hu => by cases e; exact hown2.cells rfl j u hu) (enc_one' x out k) (by omega) (by unfold maxLen; omega) (by omega) A2 ?_; intro g3 cap4 w3 hown3 hgrow3 hlt3 hor3))
              have hbf : Below w.heap.size w w3 := chain_below HX.out.2.1.below hgrow2 hws A2 hgrow3 (fun j e => by cases e; exact hgb)
              have HB := Lib.hid hbf
              have HN := Lib.hid hown3
              clear hbf hown3 hgrow3 hgrow2 hown2 A1 hor2 hor3
              go_wp2
              exact ⟨⟨i + 1, _, by exact congrArg _ (by omega), by omega, put_new HX.out.2.1 HX.out.1 hk hlo HZ.out.1 HZ.out.2 HN.out HB.out⟩, by simp [intOf] <;> omega⟩
    · obtain rfl : i = xs.length := by omega
      have hset : setOf xs = out := setOf_eq hP.asc (fun y => by rw [hP.mem, List.take_length])
      have HP := Lib.hid hP
      clear hP
      go_wp2
      go_ret
      refine ⟨u3, rfl, ?_, HP.out.below⟩
      rw [hset]
      exact HP.out.own

theorem texts_own {w : World} {B : Nat} {v : Value} {xs : List (List UInt8)} (h : w.ownsRow B 9 1 v xs.length (xs.map encStr)) : dist.Texts w w.heap.size v xs := by
  have S := strs_of_owns h
  rcases h.2 with ⟨rfl, h0⟩ | ⟨g, cap, cur, rfl, hB, hg, hnc, hcm, _⟩
  · have e := List.eq_nil_of_length_eq_zero h0
    subst e
    exact .inl ⟨rfl, none, 0, rfl⟩
  · exact dist.texts_of S hnc hcm

set_option maxRecDepth 100000 in
set_option maxHeartbeats 1000000 in
theorem query_texts (w : World) (g : Nat) (l : List Nat) (k most : Nat) (D : DiceAt w g l k) (hm : most ≤ 100) :
    Calls Try.prog 25 #[.pointer (some ⟨g, 0, none⟩), .int .i64 (most : Int)] w fun e w' => ∃ v xs k', e = .returned v ∧ dist.Texts w' w'.heap.size v xs ∧ xs.length ≤ most ∧ DiceAt w' g l k' ∧ Kept g w w' ∧ NotAt g v := by
  have hgl := D.lt
  go_enter Try.func25, Try.ntmps25
  go_wp2_with fail
  refine (texts_any w g l k most D hm).mono ?_
  rintro _ w1 ⟨v1, xs, k1, rfl, hS, hl, D1, K1, _⟩
  have hg1 := D1.lt
  go_wp2_with fail
  refine (refSet_own v1 xs w1 hS (by omega)).mono ?_
  rintro _ w2 ⟨v2, rfl, hO, b2⟩
  have D2 := D1.after b2
  have K2 := K1.trans (Kept.of_below b2 (by omega))
  have T2 := texts_own hO
  have N2 := notAt_of hO hg1
  go_wp2
  go_ret
  exact ⟨_, setOf xs, k1, rfl, T2, Nat.le_trans (setOf_length xs) hl, D2, K2, N2⟩
end Go.Proofs.Ytgmnjiiommbjaaa.tx
