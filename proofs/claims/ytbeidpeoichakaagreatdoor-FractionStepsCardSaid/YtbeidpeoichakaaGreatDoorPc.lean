/- The reference: Same, SameFraction, of what is equal. -/
import Derived.Test.YtbeidpeoichakaaGreatDoorPb
set_option linter.unusedSimpArgs false
namespace Go.Proofs.YtbeidpeoichakaaGreatDoor.pc
open Go.RowKit Go.Proofs.YtbeidpeoichakaaGreatDoor.fm Go.Proofs.YtbeidpeoichakaaGreatDoor.mem Go.Proofs.YtbeidpeoichakaaGreatDoor.fa Go.Proofs.YtbeidpeoichakaaGreatDoor.fb Go.Proofs.YtbeidpeoichakaaGreatDoor.fu Go.Proofs.YtbeidpeoichakaaGreatDoor.fv Go.Proofs.YtbeidpeoichakaaGreatDoor.fw Go.Proofs.YtbeidpeoichakaaGreatDoor.fy Go.Proofs.YtbeidpeoichakaaGreatDoor.gb Go.Proofs.YtbeidpeoichakaaGreatDoor.gg Go.Proofs.YtbeidpeoichakaaGreatDoor.ja Go.Proofs.YtbeidpeoichakaaGreatDoor.jb Go.Proofs.YtbeidpeoichakaaGreatDoor.pa

theorem cmp_self (m : Nat) : fb.cmp m m = 0 := by unfold fb.cmp; simp

set_option maxRecDepth 100000 in
set_option maxHeartbeats 1000000 in
theorem rsame_any (w : World) (a b : Value) (x : Int) (ha : IsBig w a x) (hb : IsBig w b x) (hl : (digs x.natAbs).length ≤ 100000000) :
    Calls Tryz.prog 47 #[a, b] w fun e w' => e = .returned (.bool true) ∧ Below w.heap.size w w' := by
  obtain ⟨A, c, rfl, R⟩ := ha
  obtain ⟨A', c', rfl, R'⟩ := hb
  go_enter Tryz.func47, Tryz.ntmps47
  generalize decide (x < 0) = n at *
  have hb2 : Below w.heap.size w ((w.alloc (.cells #[.bool n, .slice A (digs x.natAbs).length c] 28)).alloc (.cells #[.bool n, .slice A' (digs x.natAbs).length c'] 28)) := ((Below.refl _ _).alloc (Nat.le_refl _) _).alloc (by simp) _
  obtain ⟨W, hW⟩ : ∃ W, W = ((w.alloc (.cells #[.bool n, .slice A (digs x.natAbs).length c] 28)).alloc (.cells #[.bool n, .slice A' (digs x.natAbs).length c'] 28)) := ⟨_, rfl⟩
  rw [← hW] at hb2
  go_wp2_with fail
  rw [← hW]
  clear hW
  refine (rcmp_any W _ A A' c c' x.natAbs x.natAbs ((R.below hb2).more hb2.size) ((R'.below hb2).more hb2.size) hl hl).mono ?_
  rintro _ _ ⟨rfl, k, rfl⟩
  rw [cmp_self]
  have H := Lib.hid hb2
  clear hb2
  go_wp2_with fail
  go_ret
  exact ⟨rfl, H.out.trans ⟨rfl, rfl, rfl, Nat.le_refl _, fun _ _ => rfl⟩⟩

set_option maxRecDepth 100000 in
set_option maxHeartbeats 1000000 in
theorem rsameFraction_any (w : World) (a b : Value) (x : Int) (d : Nat) (ha : IsFrac w a x d) (hb : IsFrac w b x d) (hl : (digs x.natAbs).length ≤ 100000000) (hl' : (digs d).length ≤ 100000000) :
    Calls Tryz.prog 13 #[a, b] w fun e w' => e = .returned (.bool true) ∧ Below w.heap.size w w' := by
  obtain ⟨A, c, B, k, rfl, R, S⟩ := ha
  obtain ⟨A', c', B', k', rfl, R', S'⟩ := hb
  go_enter Tryz.func13, Tryz.ntmps13
  have hc : Below w.heap.size w ((w.alloc (.cells #[.bool (decide (x < 0)), .slice A (digs x.natAbs).length c, .bool false, .slice B (digs d).length k] 30)).alloc (.cells #[.bool (decide (x < 0)), .slice A' (digs x.natAbs).length c', .bool false, .slice B' (digs d).length k'] 30)) := ((Below.refl _ _).alloc (Nat.le_refl _) _).alloc (by simp) _
  obtain ⟨W, hW⟩ : ∃ W, W = ((w.alloc (.cells #[.bool (decide (x < 0)), .slice A (digs x.natAbs).length c, .bool false, .slice B (digs d).length k] 30)).alloc (.cells #[.bool (decide (x < 0)), .slice A' (digs x.natAbs).length c', .bool false, .slice B' (digs d).length k'] 30)) := ⟨_, rfl⟩
  have hsz : W.heap.size = w.heap.size + 1 + 1 := by rw [hW]; simp
  have a2 : W.cell? ⟨w.heap.size, 2, none⟩ = some (.bool false) := by rw [hW]; simp [go_sem]
  have a3 : W.cell? ⟨w.heap.size, 3, none⟩ = some (.slice B (digs d).length k) := by rw [hW]; simp [go_sem]
  have b2 : W.cell? ⟨w.heap.size + 1, 2, none⟩ = some (.bool false) := by rw [hW]; simp [go_sem]
  have b3 : W.cell? ⟨w.heap.size + 1, 3, none⟩ = some (.slice B' (digs d).length k') := by rw [hW]; simp [go_sem]
  rw [← hW] at hc
  have H := Lib.hid (And.intro hc (And.intro hsz (And.intro a2 (And.intro a3 (And.intro b2 b3)))))
  clear hc hsz a2 a3 b2 b3
  go_wp2_with fail
  rw [← hW]
  clear hW
  refine (rsame_any W _ _ x ⟨A, c, rfl, (R.below H.out.1).more H.out.1.size⟩ ⟨A', c', rfl, (R'.below H.out.1).more H.out.1.size⟩ hl).mono ?_
  rintro _ W1 ⟨rfl, hb1⟩
  have h0 : w.heap.size < W.heap.size := by have := H.out.2.1; omega
  have h1 : w.heap.size + 1 < W.heap.size := by have := H.out.2.1; omega
  have a2 := (hb1.cell (p := ⟨w.heap.size, 2, none⟩) h0).trans H.out.2.2.1
  have a3 := (hb1.cell (p := ⟨w.heap.size, 3, none⟩) h0).trans H.out.2.2.2.1
  have b2 := (hb1.cell (p := ⟨w.heap.size + 1, 2, none⟩) h1).trans H.out.2.2.2.2.1
  have b3 := (hb1.cell (p := ⟨w.heap.size + 1, 3, none⟩) h1).trans H.out.2.2.2.2.2
  have hc := H.out.1.trans (hb1.mono H.out.1.size)
  have H1 := Lib.hid hc
  clear hb1 hc h0 h1
  go_wp2_with fail
  refine (rsame_any W1 _ _ (d : Int) (isBig_den ((S.below H1.out).more H1.out.size)) (isBig_den ((S'.below H1.out).more H1.out.size)) (by rw [Int.natAbs_natCast]; exact hl')).mono ?_
  rintro _ W2 ⟨rfl, hb2⟩
  have H2 := Lib.hid (H1.out.trans (hb2.mono H1.out.size))
  clear hb2
  go_wp2_with fail
  go_ret
  exact ⟨rfl, H2.out⟩

end Go.Proofs.YtbeidpeoichakaaGreatDoor.pc
