/- Fold and Trim of the reference. -/
import Derived.Test.YtgmnjiiommbjaaaBf
import Derived.Test.YtgmnjiiommbjaaaCa
import Derived.Lib.TrimByte
set_option linter.unusedSimpArgs false
set_option linter.unusedVariables false
namespace Go.Proofs.Ytgmnjiiommbjaaa.rf
open Go.RowKit Go.Proofs.Ytgmnjiiommbjaaa.fold

set_option maxRecDepth 100000 in
set_option maxHeartbeats 1000000 in
theorem refFold_any (s : ByteArray) (w : World) (hs : s.size ≤ 1000000) :
    Calls Try.prog 51 #[.string s] w fun e w' => e = .returned (.string ⟨(s.data.toList.map low).toArray⟩) ∧ Below w.heap.size w w' := by
  have hcv := fun W => run_bytes_of_string (P := Try.prog) W 9 22 5 s (by kernel_rfl) (by kernel_rfl) (by kernel_rfl)
  go_enter Try.func51, Try.ntmps51
  go_wp2_with fail
  clear hcv
  obtain ⟨l, hl⟩ : ∃ l, l = s.data.toList := ⟨_, rfl⟩
  have hlen : s.size = l.length := by rw [hl, Array.length_toList]; rfl
  generalize grownCap w s.size 0 5 = cap0 at *
  have hc4 := fun j x h => bytes_at w s cap0 5 ((bytesRow s cap0).size, (bytesRow s cap0).size + 1) j x h
  have hf4 := fun j h => bytes_free w s cap0 5 j h
  have hb4 : Below w.heap.size w (w.alloc (.cells (bytesRow s cap0) 5 ((bytesRow s cap0).size, (bytesRow s cap0).size + 1))).drew := ((Below.refl _ _).alloc (Nat.le_refl _) _).drew
  have hz4 : w.heap.size < (w.alloc (.cells (bytesRow s cap0) 5 ((bytesRow s cap0).size, (bytesRow s cap0).size + 1))).drew.heap.size := by simp
  rw [← hl] at hc4
  obtain ⟨w4, hw4⟩ : ∃ w4, w4 = (w.alloc (.cells (bytesRow s cap0) 5 ((bytesRow s cap0).size, (bytesRow s cap0).size + 1))).drew := ⟨_, rfl⟩
  rw [← hw4] at hc4 hf4 hb4 hz4 ⊢
  obtain ⟨B, hB⟩ : ∃ B, B = w.heap.size := ⟨_, rfl⟩
  rw [← hB] at hc4 hf4 hb4 hz4 ⊢
  rw [hlen] at hf4 hs ⊢
  have H4 := Lib.hid (And.intro hc4 (And.intro hf4 (And.intro hb4 hz4)))
  have HL := Lib.hid (And.intro hl (And.intro hlen hB))
  clear hw4 hc4 hf4 hb4 hz4 hl hlen hB
  go_loopw [9] (fun i wr => ∃ k : Nat, k ≤ l.length ∧ i = .int .i64 (k : Int) ∧ (∀ j x, l[j]? = some x → wr.cell? ⟨B, j, none⟩ = some (.int .u8 (((if j < k then low x else x).toNat : Nat) : Int)) ∧ wr.frozen? ⟨B, j, none⟩ = false) ∧ Below B w wr)
    (fun i _ => l.length - (intOf i).toNat)
  case atStart => exact ⟨0, Nat.zero_le _, rfl, fun j x h => ⟨by simpa using H4.out.1 j x h, H4.out.2.1 j (List.getElem?_eq_some_iff.1 h).1⟩, H4.out.2.2.1⟩
  case round =>
    obtain ⟨k, hk, rfl, hc, hb⟩ := hrel
    clear H4
    by_cases hlt : k < l.length
    · obtain ⟨x, hx⟩ : ∃ x, l[k]? = some x := ⟨_, List.getElem?_eq_getElem hlt⟩
      obtain ⟨c1, f1⟩ := hc k x hx
      rw [if_neg (by omega)] at c1
      have hn := low_num x
      have hx256 : (x.toNat : Int) < 256 := by have := x.toNat_lt; omega
      have e3 : IntKind.i64.wrap ((k : Int) + 1) = (k : Int) + 1 := IntWalk.i64_in _ (by omega)
      have HC := Lib.hid (And.intro hc hb)
      clear hc hb
      by_cases h1 : 65 ≤ x.toNat ∧ x.toNat ≤ 90
      · rw [if_pos h1] at hn
        have g1 : (65 : Int) ≤ (x.toNat : Int) := by omega
        have g2 : (x.toNat : Int) ≤ 90 := by omega
        go_wp2_with fail
        obtain ⟨hc, hb⟩ := HC.out
        refine ⟨⟨k + 1, by omega, by simp, fun j y hj => ?_, hb.setCell (p := ⟨B, k, none⟩) (Nat.le_refl _) _⟩, by simp [intOf]; omega⟩
        refine ⟨?_, by rw [World.frozen?_setCell]; exact (hc j y hj).2⟩
        by_cases e : j = k
        · subst e
          obtain rfl : x = y := by rw [hx] at hj; exact Option.some.inj hj
          rw [if_pos (by omega), World.cell?_setCell_same _ _ _ c1, hn]
        · rw [World.cell?_setCell_other _ _ _ _ (by intro h; injection h with _ h; omega), (hc j y hj).1]
          have : (j < k + 1) = (j < k) := by simp; omega
          simp only [this]
      · rw [if_neg h1] at hn
        go_wp2_with fail
        all_goals (
          obtain ⟨hc, hb⟩ := HC.out
          refine ⟨⟨k + 1, by omega, by simp, fun j y hj => ?_, hb⟩, by simp [intOf]; omega⟩
          refine ⟨?_, (hc j y hj).2⟩
          rw [(hc j y hj).1]
          by_cases e : j = k
          · subst e
            obtain rfl : x = y := by rw [hx] at hj; exact Option.some.inj hj
            rw [if_neg (by omega), if_pos (by omega), hn]
          · have : (j < k + 1) = (j < k) := by simp; omega
            simp only [this])
    · obtain rfl : k = l.length := by omega
      have hcv := run_convert_bytes_back (P := Try.prog) wr 22 9 5 ⟨B, 0, none⟩ cap0 (l.map low) (by kernel_rfl) (by kernel_rfl) (by kernel_rfl) (fun j hj => by
        rw [show ((⟨B, 0, none⟩ : Addr).add j) = ⟨B, j, none⟩ by unfold Addr.add; split <;> simp_all]
        have hj' : j < l.length := by simpa using hj
        rw [(hc j _ (List.getElem?_eq_getElem hj')).1, if_pos hj', List.getElem_map])
      rw [List.length_map] at hcv
      clear hc
      go_wp2_with fail
      go_ret
      obtain ⟨h1, h2, h3⟩ := HL.out
      rw [h1] at *
      exact ⟨rfl, by rw [← h3]; exact hb⟩

theorem str_head (b : UInt8) (r : List UInt8) (S : ByteArray) (hS : S = ⟨(b :: r).toArray⟩) : S.size = r.length + 1 ∧ (∀ h : 0 < S.size, S[0]'h = b) ∧ S.extract 1 (r.length + 1) = ⟨r.toArray⟩ := by
  subst hS
  refine ⟨by simp [ByteArray.size], fun h => rfl, ?_⟩
  rw [Lib.extract_mk]
  simp
theorem str_last (b : UInt8) (r : List UInt8) (S : ByteArray) (hS : S = ⟨(r ++ [b]).toArray⟩) : S.size = r.length + 1 ∧ (∀ h : r.length < S.size, S[r.length]'h = b) ∧ S.extract 0 r.length = ⟨r.toArray⟩ := by
  subst hS
  refine ⟨by simp [ByteArray.size], fun h => ?_, ?_⟩
  · show (r ++ [b]).toArray[r.length]'_ = b
    simp
  · rw [Lib.extract_mk]
    simp

end Go.Proofs.Ytgmnjiiommbjaaa.rf
