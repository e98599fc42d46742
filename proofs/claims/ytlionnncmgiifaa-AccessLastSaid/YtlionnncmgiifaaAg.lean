/- access: Valid is true of permissions that are valid. -/
import Derived.Test.YtlionnncmgiifaaAf
set_option linter.unusedVariables false
set_option linter.unusedSimpArgs false
namespace Go.Proofs.Ytlionnncmgiifaa.acc
open Go.RowKit

/-- a valid permission -/
structure Okay (p : Perm) : Prop where
  u0 : 1 ≤ p.u.size
  u1 : p.u.size ≤ 40
  t0 : 0 ≤ p.t
  t1 : p.t ≤ 1073741824
  c0 : -1 ≤ p.c
  c1 : p.c < 64

set_option maxRecDepth 100000 in
set_option maxHeartbeats 400000 in
theorem valid_one (p : Perm) (h : Okay p) (w : World) :
    Calls Try.prog 19 #[p.val] w fun e w' => e = .returned (.bool true) ∧ Below w.heap.size w w' := by
  obtain ⟨u, a, t, c⟩ := p
  obtain ⟨h1, h2, h3, h4, h5, h6⟩ := h
  simp only at h1 h2 h3 h4 h5 h6
  have g1 : (1 : Int) ≤ (u.size : Int) := by omega
  have g2 : (u.size : Int) ≤ 40 := by omega
  simp only [Perm.val]
  go_enter Try.func19, Try.ntmps19
  go_wp2
  go_ret
  exact ⟨rfl, (Below.refl _ w).alloc (Nat.le_refl _) _⟩

set_option maxRecDepth 100000 in
set_option maxHeartbeats 400000 in
theorem valid_not (p : Perm) (h : Okay p) (w : World) :
    Calls Try.prog 18 #[p.val] w fun e w' => e = .returned (.bool false) ∧ Below w.heap.size w w' := by
  have hp := valid_one p h
  simp only [Perm.val] at hp ⊢
  go_enter Try.func18, Try.ntmps18
  go_wp2_with fail
  refine (hp _).mono ?_
  rintro _ w1 ⟨rfl, hb⟩
  go_wp2_with fail
  go_ret
  exact ⟨rfl, ((Below.refl _ w).alloc (Nat.le_refl _) _).trans (hb.mono (by simp))⟩

set_option maxRecDepth 100000 in
set_option maxHeartbeats 400000 in
theorem index_none (v : Value) (ps : List Perm) (w : World) (hI : Perms w.heap.size w v ps) (hok : ∀ p ∈ ps, Okay p) :
    Calls Try.prog 25 #[v, .func (.func 18) #[] #[]] w fun e w' => e = .returned (.int .i64 (-1)) ∧ Below w.heap.size w w' := by
  go_enter Try.func25, Try.ntmps25
  obtain ⟨hs, ⟨rfl, rfl⟩ | ⟨b, off, cap, rfl, hb, hc⟩⟩ := hI
  · go_wp2
    go_loopw [8] (fun i wr => i = .int .i64 0 ∧ wr = w) (fun _ _ => 0)
    case atStart => exact ⟨rfl, rfl⟩
    case round =>
      obtain ⟨rfl, rfl⟩ := hrel
      go_wp2
      go_ret
      exact ⟨rfl, Below.refl _ _⟩
  · have hc' := Lib.hid hc
    clear hc
    go_wp2
    go_loopw [8] (fun i wr => ∃ k : Nat, k ≤ ps.length ∧ i = .int .i64 (k : Int) ∧ Below w.heap.size w wr)
      (fun i _ => ps.length - (intOf i).toNat)
    case atStart => exact ⟨0, Nat.zero_le _, rfl, Below.refl _ _⟩
    case round =>
      obtain ⟨k, hk, rfl, hbl⟩ := hrel
      by_cases hlt : k < ps.length
      · obtain ⟨p, hp⟩ : ∃ p, ps[k]? = some p := ⟨_, List.getElem?_eq_getElem hlt⟩
        have hx := (hc'.out k p hp).block' (fun o => hbl.cell (p := ⟨b, o, none⟩) hb)
        obtain ⟨x0, x1, x2, x3⟩ := hx
        have e2 : off + 4 * k = off + k * 4 := by omega
        rw [e2] at x0 x1 x2 x3
        have hn := valid_not p (hok p (List.mem_of_getElem? hp))
        simp only [Perm.val] at hn
        go_wp2_with fail
        refine (hn _).mono ?_
        rintro _ w1 ⟨rfl, hb1⟩
        go_wp2_with fail
        have e3 : IntKind.i64.wrap ((k : Int) + 1) = (k : Int) + 1 := IntWalk.i64_in _ (by omega)
        go_wp2_with fail
        go_roundw
        case rel => exact ⟨k + 1, by omega, by simp, hbl.trans (hb1.mono hbl.size)⟩
        case measure => simp [intOf] <;> omega
      · obtain rfl : k = ps.length := by omega
        go_wp2
        go_ret
        exact ⟨rfl, hbl⟩

set_option maxRecDepth 100000 in
set_option maxHeartbeats 400000 in
theorem valid_true (v : Value) (ps : List Perm) (w : World) (hI : Perms w.heap.size w v ps) (hl : ps.length ≤ 64) (hok : ∀ p ∈ ps, Okay p) :
    Calls Try.prog 10 #[v] w fun e w' => e = .returned (.bool true) ∧ Below w.heap.size w w' := by
  have hidx := index_none v ps w hI hok
  obtain ⟨a, cap, rfl⟩ : ∃ a cap, v = .slice a ps.length cap := by
    obtain ⟨_, ⟨rfl, rfl⟩ | ⟨b, off, cap, rfl, _⟩⟩ := hI
    · exact ⟨_, _, rfl⟩
    · exact ⟨_, _, rfl⟩
  have hl' : (ps.length : Int) ≤ 64 := by omega
  have hcf : Calls Try.prog 17 #[.slice a ps.length cap, .func (.func 18) #[] #[]] w fun e w' => e = .returned (.bool false) ∧ Below w.heap.size w w' := by
    go_enter Try.func17, Try.ntmps17
    go_wp2_with fail
    refine hidx.mono ?_
    rintro _ w1 ⟨rfl, hb⟩
    go_wp2_with fail
    go_ret
    exact ⟨rfl, hb⟩
  go_enter Try.func10, Try.ntmps10
  go_wp2_with fail
  refine hcf.mono ?_
  rintro _ w1 ⟨rfl, hb⟩
  go_wp2_with fail
  go_ret
  exact ⟨rfl, hb⟩
end Go.Proofs.Ytlionnncmgiifaa.acc
