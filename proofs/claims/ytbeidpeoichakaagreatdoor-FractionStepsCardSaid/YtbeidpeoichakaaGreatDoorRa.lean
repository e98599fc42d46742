/- fraction: what the functions of big integers answer where an argument is none. -/
import Derived.Test.YtbeidpeoichakaaGreatDoorFy
import Derived.Test.YtbeidpeoichakaaGreatDoorHa
set_option linter.unusedSimpArgs false
namespace Go.Proofs.YtbeidpeoichakaaGreatDoor.ra
open Go.RowKit Go.Proofs.YtbeidpeoichakaaGreatDoor.fm Go.Proofs.YtbeidpeoichakaaGreatDoor.mem Go.Proofs.YtbeidpeoichakaaGreatDoor.fa Go.Proofs.YtbeidpeoichakaaGreatDoor.fb Go.Proofs.YtbeidpeoichakaaGreatDoor.fu Go.Proofs.YtbeidpeoichakaaGreatDoor.fv Go.Proofs.YtbeidpeoichakaaGreatDoor.fw Go.Proofs.YtbeidpeoichakaaGreatDoor.fx Go.Proofs.YtbeidpeoichakaaGreatDoor.fy Go.Proofs.YtbeidpeoichakaaGreatDoor.fz

theorem validTwo (W : World) (g cap : Nat) (n n' : Bool) (l l' : List Nat) (A A' : Option Addr) (c c' : Nat) (ty : TypeId) (fr : Nat × Nat) (v : Bool) (hv : (good n l && good n' l') = v)
    (hg : W.heap[g]? = some (.cells #[.bool n, .slice A l.length c, .bool n', .slice A' l'.length c'] ty fr)) (R : Rd W W.heap.size A c l) (R' : Rd W W.heap.size A' c' l') :
    Calls Tryz.prog 57 #[.slice (some ⟨g, 0, none⟩) 2 cap] W fun e w' => e = .returned (.bool v) ∧ Below W.heap.size W w' := by
  have hlt : g < W.heap.size := (Array.getElem?_eq_some_iff.1 hg).1
  have h := validBigs_any W g cap [(n, l), (n', l')] hlt (by simp) (fun k hk => by
    obtain rfl | rfl : k = 0 ∨ k = 1 := by simp at hk; omega
    · exact ⟨A, c, by rw [cell_of_row W g (0 * 2) _ ty fr hg]; rfl, by rw [cell_of_row W g (0 * 2 + 1) _ ty fr hg]; rfl, R⟩
    · exact ⟨A', c', by rw [cell_of_row W g (1 * 2) _ ty fr hg]; rfl, by rw [cell_of_row W g (1 * 2 + 1) _ ty fr hg]; rfl, R'⟩)
  refine h.mono fun e w' he => ⟨?_, he.2⟩
  rw [he.1, ← hv]
  simp

theorem validOne (W : World) (g cap : Nat) (n : Bool) (l : List Nat) (A : Option Addr) (c : Nat) (ty : TypeId) (fr : Nat × Nat) (v : Bool) (hv : good n l = v)
    (hg : W.heap[g]? = some (.cells #[.bool n, .slice A l.length c] ty fr)) (R : Rd W W.heap.size A c l) :
    Calls Tryz.prog 57 #[.slice (some ⟨g, 0, none⟩) 1 cap] W fun e w' => e = .returned (.bool v) ∧ Below W.heap.size W w' := by
  have hlt : g < W.heap.size := (Array.getElem?_eq_some_iff.1 hg).1
  have h := validBigs_any W g cap [(n, l)] hlt (by simp) (fun k hk => by
    obtain rfl : k = 0 := by simp at hk; omega
    exact ⟨A, c, by rw [cell_of_row W g (0 * 2) _ ty fr hg]; rfl, by rw [cell_of_row W g (0 * 2 + 1) _ ty fr hg]; rfl, R⟩)
  refine h.mono fun e w' he => ⟨?_, he.2⟩
  rw [he.1, ← hv]
  simp

set_option maxRecDepth 100000 in
set_option maxHeartbeats 1000000 in
theorem textBig_bad (w : World) (n : Bool) (l : List Nat) (A : Option Addr) (c : Nat) (R : Rd w w.heap.size A c l) (hg : good n l = false) :
    Calls Tryz.prog 33 #[.agg #[.bool n, .slice A l.length c]] w fun e w' => e = .returned (.string ⟨#[]⟩) ∧ Below w.heap.size w w' := by
  go_enter Tryz.func33, Tryz.ntmps33
  have hb2 : Below w.heap.size w (w.alloc (.cells #[.bool n, .slice A l.length c] 28)) := (Below.refl _ _).alloc (Nat.le_refl _) _
  obtain ⟨W, hW⟩ : ∃ W, W = (w.alloc (.cells #[.bool n, .slice A l.length c] 28)) := ⟨_, rfl⟩
  have hsz : W.heap.size = w.heap.size + 1 := by rw [hW]; simp
  have k0 : W.cell? ⟨w.heap.size, 0, none⟩ = some (.bool n) := by rw [hW]; simp [go_sem]
  have k1 : W.cell? ⟨w.heap.size, 1, none⟩ = some (.slice A l.length c) := by rw [hW]; simp [go_sem]
  rw [← hW] at hb2
  have HB := Lib.hid (And.intro hb2 hsz)
  have HG := Lib.hid hg
  clear hb2 hsz hg
  go_wp2_with fail
  rw [← hW]
  clear hW
  have hbA := HB.out.1.alloc HB.out.1.size (.cells #[.bool n, .slice A l.length c] 28)
  refine (validOne (W.alloc _) (w.heap.size + 1) 1 n l A c 28 (0, 0) false HG.out (by rw [← HB.out.2]; exact heap_alloc_new W _) ((R.below hbA).more hbA.size)).mono ?_
  rintro _ W1 ⟨rfl, hb1⟩
  have H3 := Lib.hid (hbA.trans (hb1.mono hbA.size))
  clear hb1 HB hbA R k0 k1
  go_wp2
  go_ret
  exact ⟨rfl, H3.out⟩

set_option maxRecDepth 100000 in
set_option maxHeartbeats 4000000 in
theorem divBig_bad (w : World) (n n' : Bool) (l l' : List Nat) (A A' : Option Addr) (c c' : Nat) (R : Rd w w.heap.size A c l) (R' : Rd w w.heap.size A' c' l') (hg : (good n l && good n' l') = false) :
    Calls Tryz.prog 30 #[.agg #[.bool n, .slice A l.length c], .agg #[.bool n', .slice A' l'.length c']] w fun e w' => e = .returned (.tuple #[.agg #[.bool false, .slice none 0 0], .agg #[.bool false, .slice none 0 0], .int .i64 1]) ∧ Below w.heap.size w w' := by
  go_enter Tryz.func30, Tryz.ntmps30
  have hB := boxes4_made w n n' (.slice A l.length c) (.slice A' l'.length c')
  obtain ⟨W, hW⟩ : ∃ W, W = ((((w.alloc (.cells #[.bool n, .slice A l.length c] 28)).alloc (.cells #[.bool n', .slice A' l'.length c'] 28)).alloc (.cells #[.bool false, .slice none 0 0] 28)).alloc (.cells #[.bool false, .slice none 0 0] 28)) := ⟨_, rfl⟩
  have hsz : W.heap.size = w.heap.size + 1 + 1 + 1 + 1 := by rw [hW]; simp
  rw [← hW] at hB
  have HB := Lib.hid (And.intro hB hsz)
  have HG := Lib.hid hg
  clear hB hsz hg
  go_wp2_with fail
  rw [← hW]
  clear hW
  refine (validTwo (W.alloc _) (w.heap.size + 1 + 1 + 1 + 1) 2 n n' l l' A A' c c' 28 (0, 0) false HG.out (by rw [← HB.out.2]; exact heap_alloc_new W _) ?_ ?_).mono ?_
  · exact ((HB.out.1.B.rd R).below ((Below.refl _ _).alloc (Nat.le_refl _) _)).more (by simp)
  · exact ((HB.out.1.B.rd R').below ((Below.refl _ _).alloc (Nat.le_refl _) _)).more (by simp)
  rintro _ W1 ⟨rfl, hb1⟩
  have hB1 := HB.out.1.after (((Below.refl _ _).alloc (Nat.le_refl _) _).trans (hb1.mono (by simp)))
  have r0 := hB1.B.r0
  have r1 := hB1.B.r1
  have q0 := hB1.q0
  have q1 := hB1.q1
  have f0 := hB1.fq 0
  have f1 := hB1.fq 1
  have f2 := hB1.B.fr (w.heap.size + 1 + 1) 0 (by omega) (by omega)
  have f3 := hB1.B.fr (w.heap.size + 1 + 1) 1 (by omega) (by omega)
  have F := hB1.filled (z := 0) (z' := 0) (A := none) (A' := none) (c := 0) (c' := 0) (by rw [show digs (0 : Int).natAbs = [] from digs_zero]; exact Rd.nil _ _ _ _) (by rw [show digs (0 : Int).natAbs = [] from digs_zero]; exact Rd.nil _ _ _ _)
  simp only [show digs (0 : Int).natAbs = [] from digs_zero, List.length_nil, show decide ((0 : Int) < 0) = false from rfl] at F
  have HF := Lib.hid F
  clear F hB1 hb1 R R'
  go_wp2_with fail
  go_region_held3 (fun w' => w'.cell? ⟨w.heap.size + 1 + 1, 0, none⟩ = some (.bool false) ∧ w'.cell? ⟨w.heap.size + 1 + 1, 1, none⟩ = some (.slice none 0 0) ∧ w'.cell? ⟨w.heap.size + 1 + 1 + 1, 0, none⟩ = some (.bool false) ∧ w'.cell? ⟨w.heap.size + 1 + 1 + 1, 1, none⟩ = some (.slice none 0 0))
    (first | with_reducible exact ⟨r0, r1, q0, q1⟩ | (refine ⟨?_, ?_, ?_, ?_⟩ <;> simp [go_sem, r0, r1, q0, q1])) (fail)
  have HE := Lib.hid (filled_drew (HF.out _ (.inl rfl)))
  clear HB HF r0 r1 q0 q1 f0 f1 f2 f3
  go_wp2
  (try simp only [Exit.inBlock, Exit.then])
  refine bodyPost_ret (results_big3 rfl _ _ (w.heap.size + 1 + 1) (w.heap.size + 1 + 1 + 1) rfl rfl HE.out.2.1 HE.out.2.2.1 HE.out.2.2.2.1 HE.out.2.2.2.2) rfl ?_
  exact ⟨rfl, HE.out.1.2.2⟩

end Go.Proofs.YtbeidpeoichakaaGreatDoor.ra
