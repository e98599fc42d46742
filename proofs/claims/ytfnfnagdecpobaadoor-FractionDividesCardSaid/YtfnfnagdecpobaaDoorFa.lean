/- fraction: trim, words64, short, isOne, sign, cmpWords. -/
import Derived.Test.YtfnfnagdecpobaaDoorMem
namespace Go.Proofs.YtfnfnagdecpobaaDoor.fa
open Go.RowKit Go.Proofs.YtfnfnagdecpobaaDoor.fm Go.Proofs.YtfnfnagdecpobaaDoor.mem

theorem trim_len {l : List Nat} (h : ok l) {k : Nat} (hk : k ≤ l.length) (hv : val (l.take k) = val l) (hz : k = 0 ∨ l.getD (k - 1) 0 ≠ 0) : (digs (val l)).length = k := by
  rw [← hv, take_digs h hk hz, List.length_take]; omega

theorem digs_take {l : List Nat} (h : ok l) : digs (val l) = l.take (digs (val l)).length := by
  -- the beginning without leading zeros
  have key : ∀ k, k ≤ l.length → val (l.take k) = val l → ∃ m, m ≤ l.length ∧ val (l.take m) = val l ∧ (m = 0 ∨ l.getD (m - 1) 0 ≠ 0) := by
    intro k
    induction k with
    | zero => intro h1 h2; exact ⟨0, h1, h2, .inl rfl⟩
    | succ k ih =>
      intro h1 h2
      by_cases hz : l.getD k 0 = 0
      · refine ih (by omega) ?_
        rw [val_take_next, hz] at h2
        simpa using h2
      · exact ⟨k + 1, h1, h2, .inr hz⟩
  obtain ⟨m, h1, h2, h3⟩ := key l.length (Nat.le_refl _) (by rw [List.take_length])
  rw [trim_len h h1 h2 h3, ← h2, take_digs h h1 h3]

set_option maxRecDepth 100000 in
set_option maxHeartbeats 400000 in
theorem trim_any (w : World) (B : Nat) (A : Option Addr) (c : Nat) (l : List Nat) (h : Rd w B A c l) (hs : l.length ≤ 100000000) :
    Calls Tryd.prog 88 #[.slice A l.length c] w fun e w' => e = .returned (.slice A (digs (val l)).length c) ∧ w = w' := by
  have hfit := h.fit
  go_enter Tryd.func88, Tryd.ntmps88
  go_wp2
  go_loop [0] (fun v => ∃ k : Nat, k ≤ l.length ∧ v = .slice A k c ∧ val (l.take k) = val l) (fun v => match v with | .slice _ k _ => k | _ => 0)
  case atStart => exact ⟨l.length, Nat.le_refl _, rfl, by rw [List.take_length]⟩
  case round =>
    obtain ⟨k, hk, rfl, hv⟩ := hrel
    have Hv := Lib.hid hv
    clear hv
    by_cases h0 : k = 0
    · subst h0
      go_wp2
      go_ret
      have e := trim_len h.ok hk Hv.out (.inl rfl)
      exact ⟨by rw [e]; rfl, rfl⟩
    · obtain ⟨j, rfl⟩ : ∃ j, k = j + 1 := ⟨k - 1, by omega⟩
      obtain ⟨b, off, rfl, hb, hc⟩ := h.cells (by omega)
      have hcj := hc j (by omega)
      have Hc := Lib.hid hc
      clear hc
      by_cases hz : l.getD j 0 = 0
      · rw [hz] at hcj
        go_wp2
        go_round
        case rel =>
          refine ⟨j, by omega, rfl, ?_⟩
          have := Hv.out
          rw [val_take_next, hz] at this
          simpa using this
        case measure => simp
      · have hx : (((l.getD j 0 : Nat) : Int) == 0) = false := beq_eq_false_iff_ne.2 (by omega)
        have e := trim_len h.ok hk Hv.out (.inr hz)
        have He := Lib.hid e
        clear e hz
        generalize l.getD j 0 = x at *
        go_wp2
        go_ret
        exact ⟨by rw [He.out]; rfl, rfl⟩

/-- trim of what is owned: the number without leading zeros, in the same row -/
theorem trim_own (w : World) (base g n cap : Nat) (l : List Nat) (m : Nat) (h : w.ownsRow base 66 1 (.slice (some ⟨g, 0, none⟩) n cap) n (ws l)) (ho : ok l) (hs : n ≤ 100000000) (hv : val l = m) :
    Calls Tryd.prog 88 #[.slice (some ⟨g, 0, none⟩) n cap] w fun e w' =>
      e = .returned (.slice (some ⟨g, 0, none⟩) (digs m).length cap) ∧ w.ownsRow base 66 1 (.slice (some ⟨g, 0, none⟩) (digs m).length cap) (digs m).length (ws (digs m)) ∧ w = w' := by
  have hl := own_len h
  subst hl
  subst hv
  obtain ⟨A, c, hv, R⟩ := own_rd h ho
  injection hv with e1 e2 e3
  subst e1 e3
  have hd := digs_take ho
  have ht := own_trim h (digs (val l)).length (val_eq_digs_len ho)
  rw [← hd] at ht
  exact (trim_any w _ _ _ l R hs).mono fun e w' ⟨he, hw⟩ => ⟨he, ht, hw⟩

end Go.Proofs.YtfnfnagdecpobaaDoor.fa
