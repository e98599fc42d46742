/- Fractions of which one is none: the program (made by gen-Uc.py). -/
import Derived.Test.YtbeidpeoichakaaGreatDoorUa
import Derived.Deep.RegionHeld3
set_option linter.unusedSimpArgs false
set_option linter.unusedVariables false
namespace Go.Proofs.YtbeidpeoichakaaGreatDoor.uc
open Go.RowKit Go.Proofs.YtbeidpeoichakaaGreatDoor.fm Go.Proofs.YtbeidpeoichakaaGreatDoor.mem Go.Proofs.YtbeidpeoichakaaGreatDoor.fa Go.Proofs.YtbeidpeoichakaaGreatDoor.fb Go.Proofs.YtbeidpeoichakaaGreatDoor.fs Go.Proofs.YtbeidpeoichakaaGreatDoor.ft Go.Proofs.YtbeidpeoichakaaGreatDoor.fu Go.Proofs.YtbeidpeoichakaaGreatDoor.fv Go.Proofs.YtbeidpeoichakaaGreatDoor.fw Go.Proofs.YtbeidpeoichakaaGreatDoor.fy Go.Proofs.YtbeidpeoichakaaGreatDoor.ga Go.Proofs.YtbeidpeoichakaaGreatDoor.gb Go.Proofs.YtbeidpeoichakaaGreatDoor.gc Go.Proofs.YtbeidpeoichakaaGreatDoor.gd Go.Proofs.YtbeidpeoichakaaGreatDoor.fj Go.Proofs.YtbeidpeoichakaaGreatDoor.gg Go.Proofs.YtbeidpeoichakaaGreatDoor.ja Go.Proofs.YtbeidpeoichakaaGreatDoor.jb Go.Proofs.YtbeidpeoichakaaGreatDoor.jg Go.Proofs.YtbeidpeoichakaaGreatDoor.jh Go.Proofs.YtbeidpeoichakaaGreatDoor.pa Go.Proofs.YtbeidpeoichakaaGreatDoor.pb Go.Proofs.YtbeidpeoichakaaGreatDoor.pc Go.Proofs.YtbeidpeoichakaaGreatDoor.nb Go.Proofs.YtbeidpeoichakaaGreatDoor.hc Go.Proofs.YtbeidpeoichakaaGreatDoor.hd Go.Proofs.YtbeidpeoichakaaGreatDoor.ra Go.Proofs.YtbeidpeoichakaaGreatDoor.re Go.Proofs.YtbeidpeoichakaaGreatDoor.rb Go.Proofs.YtbeidpeoichakaaGreatDoor.rg Go.Proofs.YtbeidpeoichakaaGreatDoor.sa Go.Proofs.YtbeidpeoichakaaGreatDoor.sb Go.Proofs.YtbeidpeoichakaaGreatDoor.sc Go.Proofs.YtbeidpeoichakaaGreatDoor.ta Go.Proofs.YtbeidpeoichakaaGreatDoor.tb Go.Proofs.YtbeidpeoichakaaGreatDoor.ua Go.Proofs.YtbeidpeoichakaaGreatDoor.ub

theorem fbox_two (w : World) (o1 o2 : Obj) : FBox w (((w.alloc o1).alloc o2).alloc (.cells #[.bool false, .slice none 0 0, .bool false, .slice none 0 0] 30)) (w.heap.size + 1 + 1) := by
  obtain ⟨V, hV⟩ : ∃ V, V = (w.alloc o1).alloc o2 := ⟨_, rfl⟩
  have hsz : V.heap.size = w.heap.size + 1 + 1 := by rw [hV]; simp
  have hb : Below w.heap.size w V := by rw [hV]; exact ((Below.refl _ _).alloc (Nat.le_refl _) _).alloc (by simp) _
  rw [← hV, ← hsz]
  refine ⟨hb.trans (((Below.refl _ _).alloc (Nat.le_refl _) _).mono hb.size), hb.size, by simp, ?_, ?_, ?_, ?_, ?_⟩
  all_goals first | (intro k; simp [go_sem]) | simp [go_sem]
theorem ents_two {W : World} {g : Nat} {n1 n2 m1 m2 : Bool} {l1 l2 s1 s2 : List Nat} {A B A' B' : Option Addr} {c k c' k' : Nat} {ty : TypeId} {fr : Nat × Nat}
    (hg : W.heap[g]? = some (.cells #[.bool n1, .slice A l1.length c, .bool n2, .slice B l2.length k, .bool m1, .slice A' s1.length c', .bool m2, .slice B' s2.length k'] ty fr)) (RA : Rd W W.heap.size A c l1) (RB : Rd W W.heap.size B k l2) (RA' : Rd W W.heap.size A' c' s1) (RB' : Rd W W.heap.size B' k' s2) :
    ∀ j f, [(⟨n1, l1, n2, l2⟩ : Any), ⟨m1, s1, m2, s2⟩][j]? = some f → Ent W g j f := by
  intro j f hj
  rcases j with _ | _ | j
  · obtain rfl := Option.some.inj hj
    exact ⟨A, c, B, k, by rw [cell_of_row _ _ (0 * 4) _ _ _ hg]; rfl, by rw [cell_of_row _ _ (0 * 4 + 1) _ _ _ hg]; rfl, by rw [cell_of_row _ _ (0 * 4 + 2) _ _ _ hg]; rfl, by rw [cell_of_row _ _ (0 * 4 + 3) _ _ _ hg]; rfl, RA, RB⟩
  · obtain rfl := Option.some.inj hj
    exact ⟨A', c', B', k', by rw [cell_of_row _ _ (1 * 4) _ _ _ hg]; rfl, by rw [cell_of_row _ _ (1 * 4 + 1) _ _ _ hg]; rfl, by rw [cell_of_row _ _ (1 * 4 + 2) _ _ _ hg]; rfl, by rw [cell_of_row _ _ (1 * 4 + 3) _ _ _ hg]; rfl, RA', RB'⟩
  · simp at hj
theorem ents_one {W : World} {g : Nat} {n1 n2 : Bool} {l1 l2 : List Nat} {A B : Option Addr} {c k : Nat} {ty : TypeId} {fr : Nat × Nat}
    (hg : W.heap[g]? = some (.cells #[.bool n1, .slice A l1.length c, .bool n2, .slice B l2.length k] ty fr)) (RA : Rd W W.heap.size A c l1) (RB : Rd W W.heap.size B k l2) :
    ∀ j f, [(⟨n1, l1, n2, l2⟩ : Any)][j]? = some f → Ent W g j f := by
  intro j f hj
  rcases j with _ | j
  · obtain rfl := Option.some.inj hj
    exact ⟨A, c, B, k, by rw [cell_of_row _ _ (0 * 4) _ _ _ hg]; rfl, by rw [cell_of_row _ _ (0 * 4 + 1) _ _ _ hg]; rfl, by rw [cell_of_row _ _ (0 * 4 + 2) _ _ _ hg]; rfl, by rw [cell_of_row _ _ (0 * 4 + 3) _ _ _ hg]; rfl, RA, RB⟩
  · simp at hj
/-- no fraction, and the error that says so -/
def NoF (w : World) (e : Ending) (w' : World) : Prop := e = .returned (.tuple #[.agg #[.bool false, .slice none 0 0, .bool false, .slice none 0 0], .int .i64 1]) ∧ Below w.heap.size w w'

set_option maxRecDepth 100000 in
set_option maxHeartbeats 4000000 in
theorem padd_bad (w : World) (a b : Value) (f f' : Any) (ha : IsF w a f) (hb : IsF w b f') (hs : f.l1.length ≤ 1000 ∧ f.l2.length ≤ 1000 ∧ f'.l1.length ≤ 1000 ∧ f'.l2.length ≤ 1000) (hT : Tabs w) (hp : (f.fine && f'.fine) = false) :
    Calls Tryz.prog 11 #[a, b] w (NoF w) := by
  obtain ⟨A, c, B, k, rfl, RA, RB⟩ := ha
  obtain ⟨A', c', B', k', rfl, RA', RB'⟩ := hb
  obtain ⟨n1, l1, n2, l2⟩ := f
  obtain ⟨m1, s1, m2, s2⟩ := f'
  unfold Any.cells
  dsimp only at RA RB RA' RB' hs ⊢
  go_enter Tryz.func11, Tryz.ntmps11
  obtain ⟨W, hW⟩ : ∃ W, W = (((w.alloc (.cells #[.bool n1, .slice A l1.length c, .bool n2, .slice B l2.length k] 30)).alloc (.cells #[.bool m1, .slice A' s1.length c', .bool m2, .slice B' s2.length k'] 30)).alloc (.cells #[.bool false, .slice none 0 0, .bool false, .slice none 0 0] 30)) := ⟨_, rfl⟩
  have hsz : W.heap.size = w.heap.size + 1 + 1 + 1 := by rw [hW]; simp
  have hbw : Below w.heap.size w W := by rw [hW]; exact (((Below.refl _ _).alloc (Nat.le_refl _) _).alloc (by simp) _).alloc (by simp; omega) _
  have HF := Lib.hid (show FBox w W (w.heap.size + 1 + 1) by rw [hW]; exact fbox_two w _ _)
  have HS := Lib.hid (And.intro hsz hbw)
  have HP := Lib.hid (show [(⟨n1, l1, n2, l2⟩ : Any), ⟨m1, s1, m2, s2⟩].all Any.fine = false by simpa using hp)
  have HR := Lib.hid (And.intro RA (And.intro RB (And.intro RA' (And.intro RB' hT))))
  clear hsz hbw hp RA RB RA' RB' hT
  go_wp2_with fail
  rw [← hW]
  clear hW
  have hbA : ∀ o, Below W.heap.size W (W.alloc o) := fun o => (Below.refl _ _).alloc (Nat.le_refl _) o
  have hbB : ∀ o, Below w.heap.size w (W.alloc o) := fun o => HS.out.2.trans ((hbA o).mono HS.out.2.size)
  refine (validAllF (W.alloc _) (w.heap.size + 1 + 1 + 1) 2 [(⟨n1, l1, n2, l2⟩ : Any), ⟨m1, s1, m2, s2⟩] (by simp [HS.out.1]) (by show 2 ≤ 100; omega) (ents_two (by rw [← HS.out.1]; exact heap_alloc_new W _) ((HR.out.1.below (hbB _)).more (hbB _).size) ((HR.out.2.1.below (hbB _)).more (hbB _).size) ((HR.out.2.2.1.below (hbB _)).more (hbB _).size) ((HR.out.2.2.2.1.below (hbB _)).more (hbB _).size)) (HR.out.2.2.2.2.below (hbB _))).mono ?_
  rintro _ W1 ⟨rfl, hb1⟩
  rw [HP.out]
  have hb2 := (hbA _).trans (hb1.mono (by simp))
  have F2 := HF.out.after hb2
  obtain ⟨e0, d0, d1, d2, d3⟩ := F2.filled (z := 0) (d := 0) (A := none) (c := 0) (A' := none) (c' := 0) (by rw [show digs (0 : Int).natAbs = [] from digs_zero]; exact Rd.nil _ _ _ _) (by rw [digs_zero]; exact Rd.nil _ _ _ _) _ rfl
  simp only [show digs (0 : Int).natAbs = [] from digs_zero, digs_zero, List.length_nil, show decide ((0 : Int) < 0) = false from rfl] at e0 d0 d1 d2 d3
  have r0 := F2.r0
  have r1 := F2.r1
  have r2 := F2.r2
  have r3 := F2.r3
  have f0 := F2.fr 0
  have f1 := F2.fr 1
  have f2 := F2.fr 2
  have f3 := F2.fr 3
  have HE := Lib.hid (And.intro e0.2 (And.intro d0 (And.intro d1 (And.intro d2 d3))))
  clear e0 d0 d1 d2 d3 F2 hb1 hb2 HF HS HP HR hbA hbB
  go_wp2
  (try simp only [Exit.inBlock, Exit.then])
  refine bodyPost_ret (results_frac rfl _ _ (w.heap.size + 1 + 1) rfl HE.out.2.1 HE.out.2.2.1 HE.out.2.2.2.1 HE.out.2.2.2.2) rfl ?_
  exact ⟨rfl, HE.out.1⟩

set_option maxRecDepth 100000 in
set_option maxHeartbeats 4000000 in
theorem pmul_bad (w : World) (a b : Value) (f f' : Any) (ha : IsF w a f) (hb : IsF w b f') (hs : f.l1.length ≤ 1000 ∧ f.l2.length ≤ 1000 ∧ f'.l1.length ≤ 1000 ∧ f'.l2.length ≤ 1000) (hT : Tabs w) (hp : (f.fine && f'.fine) = false) :
    Calls Tryz.prog 16 #[a, b] w (NoF w) := by
  obtain ⟨A, c, B, k, rfl, RA, RB⟩ := ha
  obtain ⟨A', c', B', k', rfl, RA', RB'⟩ := hb
  obtain ⟨n1, l1, n2, l2⟩ := f
  obtain ⟨m1, s1, m2, s2⟩ := f'
  unfold Any.cells
  dsimp only at RA RB RA' RB' hs ⊢
  go_enter Tryz.func16, Tryz.ntmps16
  obtain ⟨W, hW⟩ : ∃ W, W = (((w.alloc (.cells #[.bool n1, .slice A l1.length c, .bool n2, .slice B l2.length k] 30)).alloc (.cells #[.bool m1, .slice A' s1.length c', .bool m2, .slice B' s2.length k'] 30)).alloc (.cells #[.bool false, .slice none 0 0, .bool false, .slice none 0 0] 30)) := ⟨_, rfl⟩
  have hsz : W.heap.size = w.heap.size + 1 + 1 + 1 := by rw [hW]; simp
  have hbw : Below w.heap.size w W := by rw [hW]; exact (((Below.refl _ _).alloc (Nat.le_refl _) _).alloc (by simp) _).alloc (by simp; omega) _
  have HF := Lib.hid (show FBox w W (w.heap.size + 1 + 1) by rw [hW]; exact fbox_two w _ _)
  have HS := Lib.hid (And.intro hsz hbw)
  have HP := Lib.hid (show [(⟨n1, l1, n2, l2⟩ : Any), ⟨m1, s1, m2, s2⟩].all Any.fine = false by simpa using hp)
  have HR := Lib.hid (And.intro RA (And.intro RB (And.intro RA' (And.intro RB' hT))))
  clear hsz hbw hp RA RB RA' RB' hT
  go_wp2_with fail
  rw [← hW]
  clear hW
  have hbA : ∀ o, Below W.heap.size W (W.alloc o) := fun o => (Below.refl _ _).alloc (Nat.le_refl _) o
  have hbB : ∀ o, Below w.heap.size w (W.alloc o) := fun o => HS.out.2.trans ((hbA o).mono HS.out.2.size)
  refine (validAllF (W.alloc _) (w.heap.size + 1 + 1 + 1) 2 [(⟨n1, l1, n2, l2⟩ : Any), ⟨m1, s1, m2, s2⟩] (by simp [HS.out.1]) (by show 2 ≤ 100; omega) (ents_two (by rw [← HS.out.1]; exact heap_alloc_new W _) ((HR.out.1.below (hbB _)).more (hbB _).size) ((HR.out.2.1.below (hbB _)).more (hbB _).size) ((HR.out.2.2.1.below (hbB _)).more (hbB _).size) ((HR.out.2.2.2.1.below (hbB _)).more (hbB _).size)) (HR.out.2.2.2.2.below (hbB _))).mono ?_
  rintro _ W1 ⟨rfl, hb1⟩
  rw [HP.out]
  have hb2 := (hbA _).trans (hb1.mono (by simp))
  have F2 := HF.out.after hb2
  obtain ⟨e0, d0, d1, d2, d3⟩ := F2.filled (z := 0) (d := 0) (A := none) (c := 0) (A' := none) (c' := 0) (by rw [show digs (0 : Int).natAbs = [] from digs_zero]; exact Rd.nil _ _ _ _) (by rw [digs_zero]; exact Rd.nil _ _ _ _) _ rfl
  simp only [show digs (0 : Int).natAbs = [] from digs_zero, digs_zero, List.length_nil, show decide ((0 : Int) < 0) = false from rfl] at e0 d0 d1 d2 d3
  have r0 := F2.r0
  have r1 := F2.r1
  have r2 := F2.r2
  have r3 := F2.r3
  have f0 := F2.fr 0
  have f1 := F2.fr 1
  have f2 := F2.fr 2
  have f3 := F2.fr 3
  have HE := Lib.hid (And.intro e0.2 (And.intro d0 (And.intro d1 (And.intro d2 d3))))
  clear e0 d0 d1 d2 d3 F2 hb1 hb2 HF HS HP HR hbA hbB
  go_wp2
  (try simp only [Exit.inBlock, Exit.then])
  refine bodyPost_ret (results_frac rfl _ _ (w.heap.size + 1 + 1) rfl HE.out.2.1 HE.out.2.2.1 HE.out.2.2.2.1 HE.out.2.2.2.2) rfl ?_
  exact ⟨rfl, HE.out.1⟩

set_option maxRecDepth 100000 in
set_option maxHeartbeats 4000000 in
theorem pdiv_bad (w : World) (a b : Value) (f f' : Any) (ha : IsF w a f) (hb : IsF w b f') (hs : f.l1.length ≤ 1000 ∧ f.l2.length ≤ 1000 ∧ f'.l1.length ≤ 1000 ∧ f'.l2.length ≤ 1000) (hT : Tabs w) (hp : (f.fine && f'.fine) = false) :
    Calls Tryz.prog 18 #[a, b] w (NoF w) := by
  obtain ⟨A, c, B, k, rfl, RA, RB⟩ := ha
  obtain ⟨A', c', B', k', rfl, RA', RB'⟩ := hb
  obtain ⟨n1, l1, n2, l2⟩ := f
  obtain ⟨m1, s1, m2, s2⟩ := f'
  unfold Any.cells
  dsimp only at RA RB RA' RB' hs ⊢
  go_enter Tryz.func18, Tryz.ntmps18
  obtain ⟨W, hW⟩ : ∃ W, W = (((w.alloc (.cells #[.bool n1, .slice A l1.length c, .bool n2, .slice B l2.length k] 30)).alloc (.cells #[.bool m1, .slice A' s1.length c', .bool m2, .slice B' s2.length k'] 30)).alloc (.cells #[.bool false, .slice none 0 0, .bool false, .slice none 0 0] 30)) := ⟨_, rfl⟩
  have hsz : W.heap.size = w.heap.size + 1 + 1 + 1 := by rw [hW]; simp
  have hbw : Below w.heap.size w W := by rw [hW]; exact (((Below.refl _ _).alloc (Nat.le_refl _) _).alloc (by simp) _).alloc (by simp; omega) _
  have HF := Lib.hid (show FBox w W (w.heap.size + 1 + 1) by rw [hW]; exact fbox_two w _ _)
  have HS := Lib.hid (And.intro hsz hbw)
  have HP := Lib.hid (show [(⟨n1, l1, n2, l2⟩ : Any), ⟨m1, s1, m2, s2⟩].all Any.fine = false by simpa using hp)
  have HR := Lib.hid (And.intro RA (And.intro RB (And.intro RA' (And.intro RB' hT))))
  clear hsz hbw hp RA RB RA' RB' hT
  go_wp2_with fail
  rw [← hW]
  clear hW
  have hbA : ∀ o, Below W.heap.size W (W.alloc o) := fun o => (Below.refl _ _).alloc (Nat.le_refl _) o
  have hbB : ∀ o, Below w.heap.size w (W.alloc o) := fun o => HS.out.2.trans ((hbA o).mono HS.out.2.size)
  refine (validAllF (W.alloc _) (w.heap.size + 1 + 1 + 1) 2 [(⟨n1, l1, n2, l2⟩ : Any), ⟨m1, s1, m2, s2⟩] (by simp [HS.out.1]) (by show 2 ≤ 100; omega) (ents_two (by rw [← HS.out.1]; exact heap_alloc_new W _) ((HR.out.1.below (hbB _)).more (hbB _).size) ((HR.out.2.1.below (hbB _)).more (hbB _).size) ((HR.out.2.2.1.below (hbB _)).more (hbB _).size) ((HR.out.2.2.2.1.below (hbB _)).more (hbB _).size)) (HR.out.2.2.2.2.below (hbB _))).mono ?_
  rintro _ W1 ⟨rfl, hb1⟩
  rw [HP.out]
  have hb2 := (hbA _).trans (hb1.mono (by simp))
  have F2 := HF.out.after hb2
  obtain ⟨e0, d0, d1, d2, d3⟩ := F2.filled (z := 0) (d := 0) (A := none) (c := 0) (A' := none) (c' := 0) (by rw [show digs (0 : Int).natAbs = [] from digs_zero]; exact Rd.nil _ _ _ _) (by rw [digs_zero]; exact Rd.nil _ _ _ _) _ rfl
  simp only [show digs (0 : Int).natAbs = [] from digs_zero, digs_zero, List.length_nil, show decide ((0 : Int) < 0) = false from rfl] at e0 d0 d1 d2 d3
  have r0 := F2.r0
  have r1 := F2.r1
  have r2 := F2.r2
  have r3 := F2.r3
  have f0 := F2.fr 0
  have f1 := F2.fr 1
  have f2 := F2.fr 2
  have f3 := F2.fr 3
  have HE := Lib.hid (And.intro e0.2 (And.intro d0 (And.intro d1 (And.intro d2 d3))))
  clear e0 d0 d1 d2 d3 F2 hb1 hb2 HF HS HP HR hbA hbB
  go_wp2
  (try simp only [Exit.inBlock, Exit.then])
  refine bodyPost_ret (results_frac rfl _ _ (w.heap.size + 1 + 1) rfl HE.out.2.1 HE.out.2.2.1 HE.out.2.2.2.1 HE.out.2.2.2.2) rfl ?_
  exact ⟨rfl, HE.out.1⟩

set_option maxRecDepth 100000 in
set_option maxHeartbeats 4000000 in
theorem pcmp_bad (w : World) (a b : Value) (f f' : Any) (ha : IsF w a f) (hb : IsF w b f') (hs : f.l1.length ≤ 1000 ∧ f.l2.length ≤ 1000 ∧ f'.l1.length ≤ 1000 ∧ f'.l2.length ≤ 1000) (hT : Tabs w) (hp : (f.fine && f'.fine) = false) :
    Calls Tryz.prog 20 #[a, b] w fun e w' => e = .returned (.int .i64 0) ∧ Below w.heap.size w w' := by
  obtain ⟨A, c, B, k, rfl, RA, RB⟩ := ha
  obtain ⟨A', c', B', k', rfl, RA', RB'⟩ := hb
  obtain ⟨n1, l1, n2, l2⟩ := f
  obtain ⟨m1, s1, m2, s2⟩ := f'
  unfold Any.cells
  dsimp only at RA RB RA' RB' hs ⊢
  go_enter Tryz.func20, Tryz.ntmps20
  obtain ⟨W, hW⟩ : ∃ W, W = ((w.alloc (.cells #[.bool n1, .slice A l1.length c, .bool n2, .slice B l2.length k] 30)).alloc (.cells #[.bool m1, .slice A' s1.length c', .bool m2, .slice B' s2.length k'] 30)) := ⟨_, rfl⟩
  have hsz : W.heap.size = w.heap.size + 1 + 1 := by rw [hW]; simp
  have hbw : Below w.heap.size w W := by rw [hW]; exact ((Below.refl _ _).alloc (Nat.le_refl _) _).alloc (by simp) _
  have HS := Lib.hid (And.intro hsz hbw)
  have HP := Lib.hid (show [(⟨n1, l1, n2, l2⟩ : Any), ⟨m1, s1, m2, s2⟩].all Any.fine = false by simpa using hp)
  have HR := Lib.hid (And.intro RA (And.intro RB (And.intro RA' (And.intro RB' hT))))
  clear hsz hbw hp RA RB RA' RB' hT
  go_wp2_with fail
  rw [← hW]
  clear hW
  have hbA : ∀ o, Below W.heap.size W (W.alloc o) := fun o => (Below.refl _ _).alloc (Nat.le_refl _) o
  have hbB : ∀ o, Below w.heap.size w (W.alloc o) := fun o => HS.out.2.trans ((hbA o).mono HS.out.2.size)
  refine (validAllF (W.alloc _) (w.heap.size + 1 + 1) 2 [(⟨n1, l1, n2, l2⟩ : Any), ⟨m1, s1, m2, s2⟩] (by simp [HS.out.1]) (by show 2 ≤ 100; omega) (ents_two (by rw [← HS.out.1]; exact heap_alloc_new W _) ((HR.out.1.below (hbB _)).more (hbB _).size) ((HR.out.2.1.below (hbB _)).more (hbB _).size) ((HR.out.2.2.1.below (hbB _)).more (hbB _).size) ((HR.out.2.2.2.1.below (hbB _)).more (hbB _).size)) (HR.out.2.2.2.2.below (hbB _))).mono ?_
  rintro _ W1 ⟨rfl, hb1⟩
  rw [HP.out]
  have hb2 := (hbA _).trans (hb1.mono (by simp))
  have HB := Lib.hid (HS.out.2.trans (hb2.mono HS.out.2.size))
  clear hb1 hb2 HS HP HR hbA hbB
  go_wp2_with fail
  go_ret
  exact ⟨rfl, HB.out⟩

set_option maxRecDepth 100000 in
set_option maxHeartbeats 4000000 in
theorem ptext_bad (w : World) (a : Value) (f : Any) (ha : IsF w a f) (hs : f.l1.length ≤ 1000 ∧ f.l2.length ≤ 1000) (hT : Tabs w) (hp : f.fine = false) :
    Calls Tryz.prog 24 #[a] w fun e w' => e = .returned (.string ⟨#[]⟩) ∧ Below w.heap.size w w' := by
  obtain ⟨A, c, B, k, rfl, RA, RB⟩ := ha
  obtain ⟨n1, l1, n2, l2⟩ := f
  unfold Any.cells
  dsimp only at RA RB hs ⊢
  go_enter Tryz.func24, Tryz.ntmps24
  obtain ⟨W, hW⟩ : ∃ W, W = (w.alloc (.cells #[.bool n1, .slice A l1.length c, .bool n2, .slice B l2.length k] 30)) := ⟨_, rfl⟩
  have hsz : W.heap.size = w.heap.size + 1 := by rw [hW]; simp
  have hbw : Below w.heap.size w W := by rw [hW]; exact (Below.refl _ _).alloc (Nat.le_refl _) _
  have HS := Lib.hid (And.intro hsz hbw)
  have HP := Lib.hid hp
  clear hp
  have HR := Lib.hid (And.intro RA (And.intro RB hT))
  clear hsz hbw RA RB hT
  go_wp2_with fail
  rw [← hW]
  clear hW
  have hbA : ∀ o, Below W.heap.size W (W.alloc o) := fun o => (Below.refl _ _).alloc (Nat.le_refl _) o
  have hbB : ∀ o, Below w.heap.size w (W.alloc o) := fun o => HS.out.2.trans ((hbA o).mono HS.out.2.size)
  refine (validAllF (W.alloc _) (w.heap.size + 1) 1 [(⟨n1, l1, n2, l2⟩ : Any)] (by simp [HS.out.1]) (by show 1 ≤ 100; omega) (ents_one (by rw [← HS.out.1]; exact heap_alloc_new W _) ((HR.out.1.below (hbB _)).more (hbB _).size) ((HR.out.2.1.below (hbB _)).more (hbB _).size)) (HR.out.2.2.below (hbB _))).mono ?_
  rintro _ W1 ⟨rfl, hb1⟩
  rw [show [(⟨n1, l1, n2, l2⟩ : Any)].all Any.fine = Any.fine ⟨n1, l1, n2, l2⟩ by simp]
  have hb2 := (hbA _).trans (hb1.mono (by simp))
  have HB := Lib.hid (HS.out.2.trans (hb2.mono HS.out.2.size))
  rw [HP.out]
  clear hb1 hb2 HS HR hbA hbB
  go_wp2_with fail
  go_ret
  exact ⟨rfl, HB.out⟩

set_option maxRecDepth 100000 in
set_option maxHeartbeats 4000000 in
theorem pvalidF (w : World) (a : Value) (f : Any) (ha : IsF w a f) (hs : f.l1.length ≤ 1000 ∧ f.l2.length ≤ 1000) (hT : Tabs w) :
    Calls Tryz.prog 22 #[a] w fun e w' => e = .returned (.bool f.fine) ∧ Below w.heap.size w w' := by
  obtain ⟨A, c, B, k, rfl, RA, RB⟩ := ha
  obtain ⟨n1, l1, n2, l2⟩ := f
  unfold Any.cells
  dsimp only at RA RB hs ⊢
  go_enter Tryz.func22, Tryz.ntmps22
  obtain ⟨W, hW⟩ : ∃ W, W = (w.alloc (.cells #[.bool n1, .slice A l1.length c, .bool n2, .slice B l2.length k] 30)) := ⟨_, rfl⟩
  have hsz : W.heap.size = w.heap.size + 1 := by rw [hW]; simp
  have hbw : Below w.heap.size w W := by rw [hW]; exact (Below.refl _ _).alloc (Nat.le_refl _) _
  have HS := Lib.hid (And.intro hsz hbw)
  have HR := Lib.hid (And.intro RA (And.intro RB hT))
  clear hsz hbw RA RB hT
  go_wp2_with fail
  rw [← hW]
  clear hW
  have hbA : ∀ o, Below W.heap.size W (W.alloc o) := fun o => (Below.refl _ _).alloc (Nat.le_refl _) o
  have hbB : ∀ o, Below w.heap.size w (W.alloc o) := fun o => HS.out.2.trans ((hbA o).mono HS.out.2.size)
  refine (validAllF (W.alloc _) (w.heap.size + 1) 1 [(⟨n1, l1, n2, l2⟩ : Any)] (by simp [HS.out.1]) (by show 1 ≤ 100; omega) (ents_one (by rw [← HS.out.1]; exact heap_alloc_new W _) ((HR.out.1.below (hbB _)).more (hbB _).size) ((HR.out.2.1.below (hbB _)).more (hbB _).size)) (HR.out.2.2.below (hbB _))).mono ?_
  rintro _ W1 ⟨rfl, hb1⟩
  rw [show [(⟨n1, l1, n2, l2⟩ : Any)].all Any.fine = Any.fine ⟨n1, l1, n2, l2⟩ by simp]
  have hb2 := (hbA _).trans (hb1.mono (by simp))
  have HB := Lib.hid (HS.out.2.trans (hb2.mono HS.out.2.size))
  clear hb1 hb2 HS HR hbA hbB
  go_wp2_with fail
  go_ret
  exact ⟨rfl, HB.out⟩

end Go.Proofs.YtbeidpeoichakaaGreatDoor.uc

/- Fractions of which one is none: the reference (made by gen-Uc.py). -/
set_option linter.unusedSimpArgs false
set_option linter.unusedVariables false
namespace Go.Proofs.YtbeidpeoichakaaGreatDoor.ud
open Go.RowKit Go.Proofs.YtbeidpeoichakaaGreatDoor.fm Go.Proofs.YtbeidpeoichakaaGreatDoor.mem Go.Proofs.YtbeidpeoichakaaGreatDoor.fa Go.Proofs.YtbeidpeoichakaaGreatDoor.fb Go.Proofs.YtbeidpeoichakaaGreatDoor.fs Go.Proofs.YtbeidpeoichakaaGreatDoor.ft Go.Proofs.YtbeidpeoichakaaGreatDoor.fu Go.Proofs.YtbeidpeoichakaaGreatDoor.fv Go.Proofs.YtbeidpeoichakaaGreatDoor.fw Go.Proofs.YtbeidpeoichakaaGreatDoor.fy Go.Proofs.YtbeidpeoichakaaGreatDoor.ga Go.Proofs.YtbeidpeoichakaaGreatDoor.gb Go.Proofs.YtbeidpeoichakaaGreatDoor.gc Go.Proofs.YtbeidpeoichakaaGreatDoor.gd Go.Proofs.YtbeidpeoichakaaGreatDoor.fj Go.Proofs.YtbeidpeoichakaaGreatDoor.gg Go.Proofs.YtbeidpeoichakaaGreatDoor.ja Go.Proofs.YtbeidpeoichakaaGreatDoor.jb Go.Proofs.YtbeidpeoichakaaGreatDoor.jg Go.Proofs.YtbeidpeoichakaaGreatDoor.jh Go.Proofs.YtbeidpeoichakaaGreatDoor.pa Go.Proofs.YtbeidpeoichakaaGreatDoor.pb Go.Proofs.YtbeidpeoichakaaGreatDoor.pc Go.Proofs.YtbeidpeoichakaaGreatDoor.nb Go.Proofs.YtbeidpeoichakaaGreatDoor.hc Go.Proofs.YtbeidpeoichakaaGreatDoor.hd Go.Proofs.YtbeidpeoichakaaGreatDoor.ra Go.Proofs.YtbeidpeoichakaaGreatDoor.re Go.Proofs.YtbeidpeoichakaaGreatDoor.rb Go.Proofs.YtbeidpeoichakaaGreatDoor.rg Go.Proofs.YtbeidpeoichakaaGreatDoor.sa Go.Proofs.YtbeidpeoichakaaGreatDoor.sb Go.Proofs.YtbeidpeoichakaaGreatDoor.sc Go.Proofs.YtbeidpeoichakaaGreatDoor.ta Go.Proofs.YtbeidpeoichakaaGreatDoor.tb Go.Proofs.YtbeidpeoichakaaGreatDoor.ua Go.Proofs.YtbeidpeoichakaaGreatDoor.ub Go.Proofs.YtbeidpeoichakaaGreatDoor.uc

set_option maxRecDepth 100000 in
set_option maxHeartbeats 4000000 in
theorem radd_bad (w : World) (a b : Value) (f f' : Any) (ha : IsF w a f) (hb : IsF w b f') (hs : f.l1.length ≤ 1000 ∧ f.l2.length ≤ 1000 ∧ f'.l1.length ≤ 1000 ∧ f'.l2.length ≤ 1000) (hp : (f.fine && f'.fine) = false) :
    Calls Tryz.prog 12 #[a, b] w (NoF w) := by
  obtain ⟨A, c, B, k, rfl, RA, RB⟩ := ha
  obtain ⟨A', c', B', k', rfl, RA', RB'⟩ := hb
  obtain ⟨n1, l1, n2, l2⟩ := f
  obtain ⟨m1, s1, m2, s2⟩ := f'
  unfold Any.cells
  dsimp only at RA RB RA' RB' hs ⊢
  go_enter Tryz.func12, Tryz.ntmps12
  obtain ⟨W, hW⟩ : ∃ W, W = (((w.alloc (.cells #[.bool n1, .slice A l1.length c, .bool n2, .slice B l2.length k] 30)).alloc (.cells #[.bool m1, .slice A' s1.length c', .bool m2, .slice B' s2.length k'] 30)).alloc (.cells #[.bool false, .slice none 0 0, .bool false, .slice none 0 0] 30)) := ⟨_, rfl⟩
  have hbw : Below w.heap.size w W := by rw [hW]; exact (((Below.refl _ _).alloc (Nat.le_refl _) _).alloc (by simp) _).alloc (by simp; omega) _
  have HF := Lib.hid (show FBox w W (w.heap.size + 1 + 1) by rw [hW]; exact fbox_two w _ _)
  have hlt : w.heap.size + 1 < W.heap.size := by rw [hW]; simp
  have a0 : W.cell? ⟨w.heap.size, 0, none⟩ = some (.bool n1) := by rw [hW]; simp [go_sem]
  have a1 : W.cell? ⟨w.heap.size, 1, none⟩ = some (.slice A l1.length c) := by rw [hW]; simp [go_sem]
  have a2 : W.cell? ⟨w.heap.size, 2, none⟩ = some (.bool n2) := by rw [hW]; simp [go_sem]
  have a3 : W.cell? ⟨w.heap.size, 3, none⟩ = some (.slice B l2.length k) := by rw [hW]; simp [go_sem]
  have b0 : W.cell? ⟨w.heap.size + 1, 0, none⟩ = some (.bool m1) := by rw [hW]; simp [go_sem]
  have b1 : W.cell? ⟨w.heap.size + 1, 1, none⟩ = some (.slice A' s1.length c') := by rw [hW]; simp [go_sem]
  have b2 : W.cell? ⟨w.heap.size + 1, 2, none⟩ = some (.bool m2) := by rw [hW]; simp [go_sem]
  have b3 : W.cell? ⟨w.heap.size + 1, 3, none⟩ = some (.slice B' s2.length k') := by rw [hW]; simp [go_sem]
  have HS := Lib.hid (And.intro hlt (And.intro hbw (And.intro b0 (And.intro b1 (And.intro b2 b3)))))
  have HP := Lib.hid hp
  have HR := Lib.hid (And.intro RA (And.intro RB (And.intro RA' RB')))
  clear hbw hlt hp RA RB RA' RB' b0 b1 b2 b3
  go_upto_region 1 with fail
  rw [← hW]
  clear hW
  go_wp2_with fail
  refine (rvalidF W _ ⟨n1, l1, n2, l2⟩ ⟨A, c, B, k, rfl, (HR.out.1.below HS.out.2.1).more HS.out.2.1.size, (HR.out.2.1.below HS.out.2.1).more HS.out.2.1.size⟩ (by show l1.length ≤ _; omega) (by show l2.length ≤ _; omega)).mono ?_
  rintro _ W1 ⟨rfl, hb1⟩
  cases hf : Any.fine ⟨n1, l1, n2, l2⟩
  · have F2 := HF.out.after hb1
    obtain ⟨e0, d0, d1, d2, d3⟩ := F2.filled (z := 0) (d := 0) (A := none) (c := 0) (A' := none) (c' := 0) (by rw [show digs (0 : Int).natAbs = [] from digs_zero]; exact Rd.nil _ _ _ _) (by rw [digs_zero]; exact Rd.nil _ _ _ _) _ rfl
    simp only [show digs (0 : Int).natAbs = [] from digs_zero, digs_zero, List.length_nil, show decide ((0 : Int) < 0) = false from rfl] at e0 d0 d1 d2 d3
    have r0 := F2.r0
    have r1 := F2.r1
    have r2 := F2.r2
    have r3 := F2.r3
    have f0 := F2.fr 0
    have f1 := F2.fr 1
    have f2 := F2.fr 2
    have f3 := F2.fr 3
    have HE := Lib.hid (And.intro e0.2 (And.intro d0 (And.intro d1 (And.intro d2 d3))))
    clear e0 d0 d1 d2 d3 F2 hb1 HF HS HP HR hf a0 a1 a2 a3
    go_wp2
    (try simp only [Exit.inBlock, Exit.then])
    refine bodyPost_ret (results_frac rfl _ _ (w.heap.size + 1 + 1) rfl HE.out.2.1 HE.out.2.2.1 HE.out.2.2.2.1 HE.out.2.2.2.2) rfl ?_
    exact ⟨rfl, HE.out.1⟩
  · have hlt0 : w.heap.size + 1 < W.heap.size := HS.out.1
    have b0 := (hb1.cell (p := ⟨w.heap.size + 1, 0, none⟩) hlt0).trans HS.out.2.2.1
    have b1 := (hb1.cell (p := ⟨w.heap.size + 1, 1, none⟩) hlt0).trans HS.out.2.2.2.1
    have b2 := (hb1.cell (p := ⟨w.heap.size + 1, 2, none⟩) hlt0).trans HS.out.2.2.2.2.1
    have b3 := (hb1.cell (p := ⟨w.heap.size + 1, 3, none⟩) hlt0).trans HS.out.2.2.2.2.2
    have hb2 := HS.out.2.1.trans (hb1.mono HS.out.2.1.size)
    have H1 := Lib.hid (And.intro hb1 hb2)
    have hf2 : Any.fine ⟨m1, s1, m2, s2⟩ = false := by
      have := HP.out
      rw [hf] at this
      simpa using this
    have HF2 := Lib.hid hf2
    clear hb1 hb2 hf hf2 a0 a1 a2 a3
    go_wp2_with fail
    refine (rvalidF W1 _ ⟨m1, s1, m2, s2⟩ ⟨A', c', B', k', rfl, (HR.out.2.2.1.below H1.out.2).more H1.out.2.size, (HR.out.2.2.2.below H1.out.2).more H1.out.2.size⟩ (by show s1.length ≤ _; omega) (by show s2.length ≤ _; omega)).mono ?_
    rintro _ W2 ⟨rfl, hb3⟩
    rw [HF2.out]
    have F2 := (HF.out.after H1.out.1).after hb3
    obtain ⟨e0, d0, d1, d2, d3⟩ := F2.filled (z := 0) (d := 0) (A := none) (c := 0) (A' := none) (c' := 0) (by rw [show digs (0 : Int).natAbs = [] from digs_zero]; exact Rd.nil _ _ _ _) (by rw [digs_zero]; exact Rd.nil _ _ _ _) _ rfl
    simp only [show digs (0 : Int).natAbs = [] from digs_zero, digs_zero, List.length_nil, show decide ((0 : Int) < 0) = false from rfl] at e0 d0 d1 d2 d3
    have r0 := F2.r0
    have r1 := F2.r1
    have r2 := F2.r2
    have r3 := F2.r3
    have f0 := F2.fr 0
    have f1 := F2.fr 1
    have f2 := F2.fr 2
    have f3 := F2.fr 3
    have HE := Lib.hid (And.intro e0.2 (And.intro d0 (And.intro d1 (And.intro d2 d3))))
    clear e0 d0 d1 d2 d3 F2 hb3 HF HS HP HR H1 HF2 b0 b1 b2 b3 hlt0
    go_wp2
    (try simp only [Exit.inBlock, Exit.then])
    refine bodyPost_ret (results_frac rfl _ _ (w.heap.size + 1 + 1) rfl HE.out.2.1 HE.out.2.2.1 HE.out.2.2.2.1 HE.out.2.2.2.2) rfl ?_
    exact ⟨rfl, HE.out.1⟩

set_option maxRecDepth 100000 in
set_option maxHeartbeats 4000000 in
theorem rsub_bad (w : World) (a b : Value) (f f' : Any) (ha : IsF w a f) (hb : IsF w b f') (hs : f.l1.length ≤ 1000 ∧ f.l2.length ≤ 1000 ∧ f'.l1.length ≤ 1000 ∧ f'.l2.length ≤ 1000) (hp : (f.fine && f'.fine) = false) :
    Calls Tryz.prog 15 #[a, b] w (NoF w) := by
  obtain ⟨A, c, B, k, rfl, RA, RB⟩ := ha
  obtain ⟨A', c', B', k', rfl, RA', RB'⟩ := hb
  obtain ⟨n1, l1, n2, l2⟩ := f
  obtain ⟨m1, s1, m2, s2⟩ := f'
  unfold Any.cells
  dsimp only at RA RB RA' RB' hs ⊢
  go_enter Tryz.func15, Tryz.ntmps15
  obtain ⟨W, hW⟩ : ∃ W, W = (((w.alloc (.cells #[.bool n1, .slice A l1.length c, .bool n2, .slice B l2.length k] 30)).alloc (.cells #[.bool m1, .slice A' s1.length c', .bool m2, .slice B' s2.length k'] 30)).alloc (.cells #[.bool false, .slice none 0 0, .bool false, .slice none 0 0] 30)) := ⟨_, rfl⟩
  have hbw : Below w.heap.size w W := by rw [hW]; exact (((Below.refl _ _).alloc (Nat.le_refl _) _).alloc (by simp) _).alloc (by simp; omega) _
  have HF := Lib.hid (show FBox w W (w.heap.size + 1 + 1) by rw [hW]; exact fbox_two w _ _)
  have hlt : w.heap.size + 1 < W.heap.size := by rw [hW]; simp
  have a0 : W.cell? ⟨w.heap.size, 0, none⟩ = some (.bool n1) := by rw [hW]; simp [go_sem]
  have a1 : W.cell? ⟨w.heap.size, 1, none⟩ = some (.slice A l1.length c) := by rw [hW]; simp [go_sem]
  have a2 : W.cell? ⟨w.heap.size, 2, none⟩ = some (.bool n2) := by rw [hW]; simp [go_sem]
  have a3 : W.cell? ⟨w.heap.size, 3, none⟩ = some (.slice B l2.length k) := by rw [hW]; simp [go_sem]
  have b0 : W.cell? ⟨w.heap.size + 1, 0, none⟩ = some (.bool m1) := by rw [hW]; simp [go_sem]
  have b1 : W.cell? ⟨w.heap.size + 1, 1, none⟩ = some (.slice A' s1.length c') := by rw [hW]; simp [go_sem]
  have b2 : W.cell? ⟨w.heap.size + 1, 2, none⟩ = some (.bool m2) := by rw [hW]; simp [go_sem]
  have b3 : W.cell? ⟨w.heap.size + 1, 3, none⟩ = some (.slice B' s2.length k') := by rw [hW]; simp [go_sem]
  have HS := Lib.hid (And.intro hlt (And.intro hbw (And.intro b0 (And.intro b1 (And.intro b2 b3)))))
  have HP := Lib.hid hp
  have HR := Lib.hid (And.intro RA (And.intro RB (And.intro RA' RB')))
  clear hbw hlt hp RA RB RA' RB' b0 b1 b2 b3
  go_upto_region 1 with fail
  rw [← hW]
  clear hW
  go_wp2_with fail
  refine (rvalidF W _ ⟨n1, l1, n2, l2⟩ ⟨A, c, B, k, rfl, (HR.out.1.below HS.out.2.1).more HS.out.2.1.size, (HR.out.2.1.below HS.out.2.1).more HS.out.2.1.size⟩ (by show l1.length ≤ _; omega) (by show l2.length ≤ _; omega)).mono ?_
  rintro _ W1 ⟨rfl, hb1⟩
  cases hf : Any.fine ⟨n1, l1, n2, l2⟩
  · have F2 := HF.out.after hb1
    obtain ⟨e0, d0, d1, d2, d3⟩ := F2.filled (z := 0) (d := 0) (A := none) (c := 0) (A' := none) (c' := 0) (by rw [show digs (0 : Int).natAbs = [] from digs_zero]; exact Rd.nil _ _ _ _) (by rw [digs_zero]; exact Rd.nil _ _ _ _) _ rfl
    simp only [show digs (0 : Int).natAbs = [] from digs_zero, digs_zero, List.length_nil, show decide ((0 : Int) < 0) = false from rfl] at e0 d0 d1 d2 d3
    have r0 := F2.r0
    have r1 := F2.r1
    have r2 := F2.r2
    have r3 := F2.r3
    have f0 := F2.fr 0
    have f1 := F2.fr 1
    have f2 := F2.fr 2
    have f3 := F2.fr 3
    have HE := Lib.hid (And.intro e0.2 (And.intro d0 (And.intro d1 (And.intro d2 d3))))
    clear e0 d0 d1 d2 d3 F2 hb1 HF HS HP HR hf a0 a1 a2 a3
    go_wp2
    (try simp only [Exit.inBlock, Exit.then])
    refine bodyPost_ret (results_frac rfl _ _ (w.heap.size + 1 + 1) rfl HE.out.2.1 HE.out.2.2.1 HE.out.2.2.2.1 HE.out.2.2.2.2) rfl ?_
    exact ⟨rfl, HE.out.1⟩
  · have hlt0 : w.heap.size + 1 < W.heap.size := HS.out.1
    have b0 := (hb1.cell (p := ⟨w.heap.size + 1, 0, none⟩) hlt0).trans HS.out.2.2.1
    have b1 := (hb1.cell (p := ⟨w.heap.size + 1, 1, none⟩) hlt0).trans HS.out.2.2.2.1
    have b2 := (hb1.cell (p := ⟨w.heap.size + 1, 2, none⟩) hlt0).trans HS.out.2.2.2.2.1
    have b3 := (hb1.cell (p := ⟨w.heap.size + 1, 3, none⟩) hlt0).trans HS.out.2.2.2.2.2
    have hb2 := HS.out.2.1.trans (hb1.mono HS.out.2.1.size)
    have H1 := Lib.hid (And.intro hb1 hb2)
    have hf2 : Any.fine ⟨m1, s1, m2, s2⟩ = false := by
      have := HP.out
      rw [hf] at this
      simpa using this
    have HF2 := Lib.hid hf2
    clear hb1 hb2 hf hf2 a0 a1 a2 a3
    go_wp2_with fail
    refine (rvalidF W1 _ ⟨m1, s1, m2, s2⟩ ⟨A', c', B', k', rfl, (HR.out.2.2.1.below H1.out.2).more H1.out.2.size, (HR.out.2.2.2.below H1.out.2).more H1.out.2.size⟩ (by show s1.length ≤ _; omega) (by show s2.length ≤ _; omega)).mono ?_
    rintro _ W2 ⟨rfl, hb3⟩
    rw [HF2.out]
    have F2 := (HF.out.after H1.out.1).after hb3
    obtain ⟨e0, d0, d1, d2, d3⟩ := F2.filled (z := 0) (d := 0) (A := none) (c := 0) (A' := none) (c' := 0) (by rw [show digs (0 : Int).natAbs = [] from digs_zero]; exact Rd.nil _ _ _ _) (by rw [digs_zero]; exact Rd.nil _ _ _ _) _ rfl
    simp only [show digs (0 : Int).natAbs = [] from digs_zero, digs_zero, List.length_nil, show decide ((0 : Int) < 0) = false from rfl] at e0 d0 d1 d2 d3
    have r0 := F2.r0
    have r1 := F2.r1
    have r2 := F2.r2
    have r3 := F2.r3
    have f0 := F2.fr 0
    have f1 := F2.fr 1
    have f2 := F2.fr 2
    have f3 := F2.fr 3
    have HE := Lib.hid (And.intro e0.2 (And.intro d0 (And.intro d1 (And.intro d2 d3))))
    clear e0 d0 d1 d2 d3 F2 hb3 HF HS HP HR H1 HF2 b0 b1 b2 b3 hlt0
    go_wp2
    (try simp only [Exit.inBlock, Exit.then])
    refine bodyPost_ret (results_frac rfl _ _ (w.heap.size + 1 + 1) rfl HE.out.2.1 HE.out.2.2.1 HE.out.2.2.2.1 HE.out.2.2.2.2) rfl ?_
    exact ⟨rfl, HE.out.1⟩

set_option maxRecDepth 100000 in
set_option maxHeartbeats 4000000 in
theorem rmul_bad (w : World) (a b : Value) (f f' : Any) (ha : IsF w a f) (hb : IsF w b f') (hs : f.l1.length ≤ 1000 ∧ f.l2.length ≤ 1000 ∧ f'.l1.length ≤ 1000 ∧ f'.l2.length ≤ 1000) (hp : (f.fine && f'.fine) = false) :
    Calls Tryz.prog 17 #[a, b] w (NoF w) := by
  obtain ⟨A, c, B, k, rfl, RA, RB⟩ := ha
  obtain ⟨A', c', B', k', rfl, RA', RB'⟩ := hb
  obtain ⟨n1, l1, n2, l2⟩ := f
  obtain ⟨m1, s1, m2, s2⟩ := f'
  unfold Any.cells
  dsimp only at RA RB RA' RB' hs ⊢
  go_enter Tryz.func17, Tryz.ntmps17
  obtain ⟨W, hW⟩ : ∃ W, W = (((w.alloc (.cells #[.bool n1, .slice A l1.length c, .bool n2, .slice B l2.length k] 30)).alloc (.cells #[.bool m1, .slice A' s1.length c', .bool m2, .slice B' s2.length k'] 30)).alloc (.cells #[.bool false, .slice none 0 0, .bool false, .slice none 0 0] 30)) := ⟨_, rfl⟩
  have hbw : Below w.heap.size w W := by rw [hW]; exact (((Below.refl _ _).alloc (Nat.le_refl _) _).alloc (by simp) _).alloc (by simp; omega) _
  have HF := Lib.hid (show FBox w W (w.heap.size + 1 + 1) by rw [hW]; exact fbox_two w _ _)
  have hlt : w.heap.size + 1 < W.heap.size := by rw [hW]; simp
  have a0 : W.cell? ⟨w.heap.size, 0, none⟩ = some (.bool n1) := by rw [hW]; simp [go_sem]
  have a1 : W.cell? ⟨w.heap.size, 1, none⟩ = some (.slice A l1.length c) := by rw [hW]; simp [go_sem]
  have a2 : W.cell? ⟨w.heap.size, 2, none⟩ = some (.bool n2) := by rw [hW]; simp [go_sem]
  have a3 : W.cell? ⟨w.heap.size, 3, none⟩ = some (.slice B l2.length k) := by rw [hW]; simp [go_sem]
  have b0 : W.cell? ⟨w.heap.size + 1, 0, none⟩ = some (.bool m1) := by rw [hW]; simp [go_sem]
  have b1 : W.cell? ⟨w.heap.size + 1, 1, none⟩ = some (.slice A' s1.length c') := by rw [hW]; simp [go_sem]
  have b2 : W.cell? ⟨w.heap.size + 1, 2, none⟩ = some (.bool m2) := by rw [hW]; simp [go_sem]
  have b3 : W.cell? ⟨w.heap.size + 1, 3, none⟩ = some (.slice B' s2.length k') := by rw [hW]; simp [go_sem]
  have HS := Lib.hid (And.intro hlt (And.intro hbw (And.intro b0 (And.intro b1 (And.intro b2 b3)))))
  have HP := Lib.hid hp
  have HR := Lib.hid (And.intro RA (And.intro RB (And.intro RA' RB')))
  clear hbw hlt hp RA RB RA' RB' b0 b1 b2 b3
  go_upto_region 1 with fail
  rw [← hW]
  clear hW
  go_wp2_with fail
  refine (rvalidF W _ ⟨n1, l1, n2, l2⟩ ⟨A, c, B, k, rfl, (HR.out.1.below HS.out.2.1).more HS.out.2.1.size, (HR.out.2.1.below HS.out.2.1).more HS.out.2.1.size⟩ (by show l1.length ≤ _; omega) (by show l2.length ≤ _; omega)).mono ?_
  rintro _ W1 ⟨rfl, hb1⟩
  cases hf : Any.fine ⟨n1, l1, n2, l2⟩
  · have F2 := HF.out.after hb1
    obtain ⟨e0, d0, d1, d2, d3⟩ := F2.filled (z := 0) (d := 0) (A := none) (c := 0) (A' := none) (c' := 0) (by rw [show digs (0 : Int).natAbs = [] from digs_zero]; exact Rd.nil _ _ _ _) (by rw [digs_zero]; exact Rd.nil _ _ _ _) _ rfl
    simp only [show digs (0 : Int).natAbs = [] from digs_zero, digs_zero, List.length_nil, show decide ((0 : Int) < 0) = false from rfl] at e0 d0 d1 d2 d3
    have r0 := F2.r0
    have r1 := F2.r1
    have r2 := F2.r2
    have r3 := F2.r3
    have f0 := F2.fr 0
    have f1 := F2.fr 1
    have f2 := F2.fr 2
    have f3 := F2.fr 3
    have HE := Lib.hid (And.intro e0.2 (And.intro d0 (And.intro d1 (And.intro d2 d3))))
    clear e0 d0 d1 d2 d3 F2 hb1 HF HS HP HR hf a0 a1 a2 a3
    go_wp2
    (try simp only [Exit.inBlock, Exit.then])
    refine bodyPost_ret (results_frac rfl _ _ (w.heap.size + 1 + 1) rfl HE.out.2.1 HE.out.2.2.1 HE.out.2.2.2.1 HE.out.2.2.2.2) rfl ?_
    exact ⟨rfl, HE.out.1⟩
  · have hlt0 : w.heap.size + 1 < W.heap.size := HS.out.1
    have b0 := (hb1.cell (p := ⟨w.heap.size + 1, 0, none⟩) hlt0).trans HS.out.2.2.1
    have b1 := (hb1.cell (p := ⟨w.heap.size + 1, 1, none⟩) hlt0).trans HS.out.2.2.2.1
    have b2 := (hb1.cell (p := ⟨w.heap.size + 1, 2, none⟩) hlt0).trans HS.out.2.2.2.2.1
    have b3 := (hb1.cell (p := ⟨w.heap.size + 1, 3, none⟩) hlt0).trans HS.out.2.2.2.2.2
    have hb2 := HS.out.2.1.trans (hb1.mono HS.out.2.1.size)
    have H1 := Lib.hid (And.intro hb1 hb2)
    have hf2 : Any.fine ⟨m1, s1, m2, s2⟩ = false := by
      have := HP.out
      rw [hf] at this
      simpa using this
    have HF2 := Lib.hid hf2
    clear hb1 hb2 hf hf2 a0 a1 a2 a3
    go_wp2_with fail
    refine (rvalidF W1 _ ⟨m1, s1, m2, s2⟩ ⟨A', c', B', k', rfl, (HR.out.2.2.1.below H1.out.2).more H1.out.2.size, (HR.out.2.2.2.below H1.out.2).more H1.out.2.size⟩ (by show s1.length ≤ _; omega) (by show s2.length ≤ _; omega)).mono ?_
    rintro _ W2 ⟨rfl, hb3⟩
    rw [HF2.out]
    have F2 := (HF.out.after H1.out.1).after hb3
    obtain ⟨e0, d0, d1, d2, d3⟩ := F2.filled (z := 0) (d := 0) (A := none) (c := 0) (A' := none) (c' := 0) (by rw [show digs (0 : Int).natAbs = [] from digs_zero]; exact Rd.nil _ _ _ _) (by rw [digs_zero]; exact Rd.nil _ _ _ _) _ rfl
    simp only [show digs (0 : Int).natAbs = [] from digs_zero, digs_zero, List.length_nil, show decide ((0 : Int) < 0) = false from rfl] at e0 d0 d1 d2 d3
    have r0 := F2.r0
    have r1 := F2.r1
    have r2 := F2.r2
    have r3 := F2.r3
    have f0 := F2.fr 0
    have f1 := F2.fr 1
    have f2 := F2.fr 2
    have f3 := F2.fr 3
    have HE := Lib.hid (And.intro e0.2 (And.intro d0 (And.intro d1 (And.intro d2 d3))))
    clear e0 d0 d1 d2 d3 F2 hb3 HF HS HP HR H1 HF2 b0 b1 b2 b3 hlt0
    go_wp2
    (try simp only [Exit.inBlock, Exit.then])
    refine bodyPost_ret (results_frac rfl _ _ (w.heap.size + 1 + 1) rfl HE.out.2.1 HE.out.2.2.1 HE.out.2.2.2.1 HE.out.2.2.2.2) rfl ?_
    exact ⟨rfl, HE.out.1⟩

set_option maxRecDepth 100000 in
set_option maxHeartbeats 4000000 in
theorem rdiv_bad (w : World) (a b : Value) (f f' : Any) (ha : IsF w a f) (hb : IsF w b f') (hs : f.l1.length ≤ 1000 ∧ f.l2.length ≤ 1000 ∧ f'.l1.length ≤ 1000 ∧ f'.l2.length ≤ 1000) (hp : (f.fine && f'.fine) = false) :
    Calls Tryz.prog 19 #[a, b] w (NoF w) := by
  obtain ⟨A, c, B, k, rfl, RA, RB⟩ := ha
  obtain ⟨A', c', B', k', rfl, RA', RB'⟩ := hb
  obtain ⟨n1, l1, n2, l2⟩ := f
  obtain ⟨m1, s1, m2, s2⟩ := f'
  unfold Any.cells
  dsimp only at RA RB RA' RB' hs ⊢
  go_enter Tryz.func19, Tryz.ntmps19
  obtain ⟨W, hW⟩ : ∃ W, W = (((w.alloc (.cells #[.bool n1, .slice A l1.length c, .bool n2, .slice B l2.length k] 30)).alloc (.cells #[.bool m1, .slice A' s1.length c', .bool m2, .slice B' s2.length k'] 30)).alloc (.cells #[.bool false, .slice none 0 0, .bool false, .slice none 0 0] 30)) := ⟨_, rfl⟩
  have hbw : Below w.heap.size w W := by rw [hW]; exact (((Below.refl _ _).alloc (Nat.le_refl _) _).alloc (by simp) _).alloc (by simp; omega) _
  have HF := Lib.hid (show FBox w W (w.heap.size + 1 + 1) by rw [hW]; exact fbox_two w _ _)
  have hlt : w.heap.size + 1 < W.heap.size := by rw [hW]; simp
  have a0 : W.cell? ⟨w.heap.size, 0, none⟩ = some (.bool n1) := by rw [hW]; simp [go_sem]
  have a1 : W.cell? ⟨w.heap.size, 1, none⟩ = some (.slice A l1.length c) := by rw [hW]; simp [go_sem]
  have a2 : W.cell? ⟨w.heap.size, 2, none⟩ = some (.bool n2) := by rw [hW]; simp [go_sem]
  have a3 : W.cell? ⟨w.heap.size, 3, none⟩ = some (.slice B l2.length k) := by rw [hW]; simp [go_sem]
  have b0 : W.cell? ⟨w.heap.size + 1, 0, none⟩ = some (.bool m1) := by rw [hW]; simp [go_sem]
  have b1 : W.cell? ⟨w.heap.size + 1, 1, none⟩ = some (.slice A' s1.length c') := by rw [hW]; simp [go_sem]
  have b2 : W.cell? ⟨w.heap.size + 1, 2, none⟩ = some (.bool m2) := by rw [hW]; simp [go_sem]
  have b3 : W.cell? ⟨w.heap.size + 1, 3, none⟩ = some (.slice B' s2.length k') := by rw [hW]; simp [go_sem]
  have HS := Lib.hid (And.intro hlt (And.intro hbw (And.intro b0 (And.intro b1 (And.intro b2 b3)))))
  have HP := Lib.hid hp
  have HR := Lib.hid (And.intro RA (And.intro RB (And.intro RA' RB')))
  clear hbw hlt hp RA RB RA' RB' b0 b1 b2 b3
  go_upto_region 1 with fail
  rw [← hW]
  clear hW
  go_wp2_with fail
  refine (rvalidF W _ ⟨n1, l1, n2, l2⟩ ⟨A, c, B, k, rfl, (HR.out.1.below HS.out.2.1).more HS.out.2.1.size, (HR.out.2.1.below HS.out.2.1).more HS.out.2.1.size⟩ (by show l1.length ≤ _; omega) (by show l2.length ≤ _; omega)).mono ?_
  rintro _ W1 ⟨rfl, hb1⟩
  cases hf : Any.fine ⟨n1, l1, n2, l2⟩
  · have F2 := HF.out.after hb1
    obtain ⟨e0, d0, d1, d2, d3⟩ := F2.filled (z := 0) (d := 0) (A := none) (c := 0) (A' := none) (c' := 0) (by rw [show digs (0 : Int).natAbs = [] from digs_zero]; exact Rd.nil _ _ _ _) (by rw [digs_zero]; exact Rd.nil _ _ _ _) _ rfl
    simp only [show digs (0 : Int).natAbs = [] from digs_zero, digs_zero, List.length_nil, show decide ((0 : Int) < 0) = false from rfl] at e0 d0 d1 d2 d3
    have r0 := F2.r0
    have r1 := F2.r1
    have r2 := F2.r2
    have r3 := F2.r3
    have f0 := F2.fr 0
    have f1 := F2.fr 1
    have f2 := F2.fr 2
    have f3 := F2.fr 3
    have HE := Lib.hid (And.intro e0.2 (And.intro d0 (And.intro d1 (And.intro d2 d3))))
    clear e0 d0 d1 d2 d3 F2 hb1 HF HS HP HR hf a0 a1 a2 a3
    go_wp2
    (try simp only [Exit.inBlock, Exit.then])
    refine bodyPost_ret (results_frac rfl _ _ (w.heap.size + 1 + 1) rfl HE.out.2.1 HE.out.2.2.1 HE.out.2.2.2.1 HE.out.2.2.2.2) rfl ?_
    exact ⟨rfl, HE.out.1⟩
  · have hlt0 : w.heap.size + 1 < W.heap.size := HS.out.1
    have b0 := (hb1.cell (p := ⟨w.heap.size + 1, 0, none⟩) hlt0).trans HS.out.2.2.1
    have b1 := (hb1.cell (p := ⟨w.heap.size + 1, 1, none⟩) hlt0).trans HS.out.2.2.2.1
    have b2 := (hb1.cell (p := ⟨w.heap.size + 1, 2, none⟩) hlt0).trans HS.out.2.2.2.2.1
    have b3 := (hb1.cell (p := ⟨w.heap.size + 1, 3, none⟩) hlt0).trans HS.out.2.2.2.2.2
    have hb2 := HS.out.2.1.trans (hb1.mono HS.out.2.1.size)
    have H1 := Lib.hid (And.intro hb1 hb2)
    have hf2 : Any.fine ⟨m1, s1, m2, s2⟩ = false := by
      have := HP.out
      rw [hf] at this
      simpa using this
    have HF2 := Lib.hid hf2
    clear hb1 hb2 hf hf2 a0 a1 a2 a3
    go_wp2_with fail
    refine (rvalidF W1 _ ⟨m1, s1, m2, s2⟩ ⟨A', c', B', k', rfl, (HR.out.2.2.1.below H1.out.2).more H1.out.2.size, (HR.out.2.2.2.below H1.out.2).more H1.out.2.size⟩ (by show s1.length ≤ _; omega) (by show s2.length ≤ _; omega)).mono ?_
    rintro _ W2 ⟨rfl, hb3⟩
    rw [HF2.out]
    have F2 := (HF.out.after H1.out.1).after hb3
    obtain ⟨e0, d0, d1, d2, d3⟩ := F2.filled (z := 0) (d := 0) (A := none) (c := 0) (A' := none) (c' := 0) (by rw [show digs (0 : Int).natAbs = [] from digs_zero]; exact Rd.nil _ _ _ _) (by rw [digs_zero]; exact Rd.nil _ _ _ _) _ rfl
    simp only [show digs (0 : Int).natAbs = [] from digs_zero, digs_zero, List.length_nil, show decide ((0 : Int) < 0) = false from rfl] at e0 d0 d1 d2 d3
    have r0 := F2.r0
    have r1 := F2.r1
    have r2 := F2.r2
    have r3 := F2.r3
    have f0 := F2.fr 0
    have f1 := F2.fr 1
    have f2 := F2.fr 2
    have f3 := F2.fr 3
    have HE := Lib.hid (And.intro e0.2 (And.intro d0 (And.intro d1 (And.intro d2 d3))))
    clear e0 d0 d1 d2 d3 F2 hb3 HF HS HP HR H1 HF2 b0 b1 b2 b3 hlt0
    go_wp2
    (try simp only [Exit.inBlock, Exit.then])
    refine bodyPost_ret (results_frac rfl _ _ (w.heap.size + 1 + 1) rfl HE.out.2.1 HE.out.2.2.1 HE.out.2.2.2.1 HE.out.2.2.2.2) rfl ?_
    exact ⟨rfl, HE.out.1⟩

set_option maxRecDepth 100000 in
set_option maxHeartbeats 4000000 in
theorem rcmp_bad (w : World) (a b : Value) (f f' : Any) (ha : IsF w a f) (hb : IsF w b f') (hs : f.l1.length ≤ 1000 ∧ f.l2.length ≤ 1000 ∧ f'.l1.length ≤ 1000 ∧ f'.l2.length ≤ 1000) (hp : (f.fine && f'.fine) = false) :
    Calls Tryz.prog 21 #[a, b] w fun e w' => e = .returned (.int .i64 0) ∧ Below w.heap.size w w' := by
  obtain ⟨A, c, B, k, rfl, RA, RB⟩ := ha
  obtain ⟨A', c', B', k', rfl, RA', RB'⟩ := hb
  obtain ⟨n1, l1, n2, l2⟩ := f
  obtain ⟨m1, s1, m2, s2⟩ := f'
  unfold Any.cells
  dsimp only at RA RB RA' RB' hs ⊢
  go_enter Tryz.func21, Tryz.ntmps21
  obtain ⟨W, hW⟩ : ∃ W, W = ((w.alloc (.cells #[.bool n1, .slice A l1.length c, .bool n2, .slice B l2.length k] 30)).alloc (.cells #[.bool m1, .slice A' s1.length c', .bool m2, .slice B' s2.length k'] 30)) := ⟨_, rfl⟩
  have hbw : Below w.heap.size w W := by rw [hW]; exact ((Below.refl _ _).alloc (Nat.le_refl _) _).alloc (by simp) _
  have hlt : w.heap.size + 1 < W.heap.size := by rw [hW]; simp
  have a0 : W.cell? ⟨w.heap.size, 0, none⟩ = some (.bool n1) := by rw [hW]; simp [go_sem]
  have a1 : W.cell? ⟨w.heap.size, 1, none⟩ = some (.slice A l1.length c) := by rw [hW]; simp [go_sem]
  have a2 : W.cell? ⟨w.heap.size, 2, none⟩ = some (.bool n2) := by rw [hW]; simp [go_sem]
  have a3 : W.cell? ⟨w.heap.size, 3, none⟩ = some (.slice B l2.length k) := by rw [hW]; simp [go_sem]
  have b0 : W.cell? ⟨w.heap.size + 1, 0, none⟩ = some (.bool m1) := by rw [hW]; simp [go_sem]
  have b1 : W.cell? ⟨w.heap.size + 1, 1, none⟩ = some (.slice A' s1.length c') := by rw [hW]; simp [go_sem]
  have b2 : W.cell? ⟨w.heap.size + 1, 2, none⟩ = some (.bool m2) := by rw [hW]; simp [go_sem]
  have b3 : W.cell? ⟨w.heap.size + 1, 3, none⟩ = some (.slice B' s2.length k') := by rw [hW]; simp [go_sem]
  have HS := Lib.hid (And.intro hlt (And.intro hbw (And.intro b0 (And.intro b1 (And.intro b2 b3)))))
  have HP := Lib.hid hp
  have HR := Lib.hid (And.intro RA (And.intro RB (And.intro RA' RB')))
  clear hbw hlt hp RA RB RA' RB' b0 b1 b2 b3
  go_upto_region 1 with fail
  rw [← hW]
  clear hW
  go_wp2_with fail
  refine (rvalidF W _ ⟨n1, l1, n2, l2⟩ ⟨A, c, B, k, rfl, (HR.out.1.below HS.out.2.1).more HS.out.2.1.size, (HR.out.2.1.below HS.out.2.1).more HS.out.2.1.size⟩ (by show l1.length ≤ _; omega) (by show l2.length ≤ _; omega)).mono ?_
  rintro _ W1 ⟨rfl, hb1⟩
  cases hf : Any.fine ⟨n1, l1, n2, l2⟩
  · have HB := Lib.hid (HS.out.2.1.trans (hb1.mono HS.out.2.1.size))
    clear hb1 HS HP HR hf a0 a1 a2 a3
    go_wp2_with fail
    go_ret
    exact ⟨rfl, HB.out⟩
  · have hlt0 : w.heap.size + 1 < W.heap.size := HS.out.1
    have b0 := (hb1.cell (p := ⟨w.heap.size + 1, 0, none⟩) hlt0).trans HS.out.2.2.1
    have b1 := (hb1.cell (p := ⟨w.heap.size + 1, 1, none⟩) hlt0).trans HS.out.2.2.2.1
    have b2 := (hb1.cell (p := ⟨w.heap.size + 1, 2, none⟩) hlt0).trans HS.out.2.2.2.2.1
    have b3 := (hb1.cell (p := ⟨w.heap.size + 1, 3, none⟩) hlt0).trans HS.out.2.2.2.2.2
    have hb2 := HS.out.2.1.trans (hb1.mono HS.out.2.1.size)
    have H1 := Lib.hid (And.intro hb1 hb2)
    have hf2 : Any.fine ⟨m1, s1, m2, s2⟩ = false := by
      have := HP.out
      rw [hf] at this
      simpa using this
    have HF2 := Lib.hid hf2
    clear hb1 hb2 hf hf2 a0 a1 a2 a3
    go_wp2_with fail
    refine (rvalidF W1 _ ⟨m1, s1, m2, s2⟩ ⟨A', c', B', k', rfl, (HR.out.2.2.1.below H1.out.2).more H1.out.2.size, (HR.out.2.2.2.below H1.out.2).more H1.out.2.size⟩ (by show s1.length ≤ _; omega) (by show s2.length ≤ _; omega)).mono ?_
    rintro _ W2 ⟨rfl, hb3⟩
    rw [HF2.out]
    have HB := Lib.hid (H1.out.2.trans (hb3.mono H1.out.2.size))
    clear hb3 HS HP HR H1 HF2 b0 b1 b2 b3 hlt0
    go_wp2_with fail
    go_ret
    exact ⟨rfl, HB.out⟩

set_option maxRecDepth 100000 in
set_option maxHeartbeats 4000000 in
theorem rtext_bad (w : World) (a : Value) (f : Any) (ha : IsF w a f) (hs : f.l1.length ≤ 1000 ∧ f.l2.length ≤ 1000) (hp : f.fine = false) :
    Calls Tryz.prog 25 #[a] w fun e w' => e = .returned (.string ⟨#[]⟩) ∧ Below w.heap.size w w' := by
  obtain ⟨A, c, B, k, rfl, RA, RB⟩ := ha
  obtain ⟨n1, l1, n2, l2⟩ := f
  unfold Any.cells
  dsimp only at RA RB hs ⊢
  go_enter Tryz.func25, Tryz.ntmps25
  obtain ⟨W, hW⟩ : ∃ W, W = (w.alloc (.cells #[.bool n1, .slice A l1.length c, .bool n2, .slice B l2.length k] 30)) := ⟨_, rfl⟩
  have hbw : Below w.heap.size w W := by rw [hW]; exact (Below.refl _ _).alloc (Nat.le_refl _) _
  have a0 : W.cell? ⟨w.heap.size, 0, none⟩ = some (.bool n1) := by rw [hW]; simp [go_sem]
  have a1 : W.cell? ⟨w.heap.size, 1, none⟩ = some (.slice A l1.length c) := by rw [hW]; simp [go_sem]
  have a2 : W.cell? ⟨w.heap.size, 2, none⟩ = some (.bool n2) := by rw [hW]; simp [go_sem]
  have a3 : W.cell? ⟨w.heap.size, 3, none⟩ = some (.slice B l2.length k) := by rw [hW]; simp [go_sem]
  have HS := Lib.hid hbw
  have HP := Lib.hid hp
  have HR := Lib.hid (And.intro RA RB)
  clear hbw hp RA RB
  go_upto_region 1 with fail
  rw [← hW]
  clear hW
  go_wp2_with fail
  refine (rvalidF W _ ⟨n1, l1, n2, l2⟩ ⟨A, c, B, k, rfl, (HR.out.1.below HS.out).more HS.out.size, (HR.out.2.below HS.out).more HS.out.size⟩ (by show l1.length ≤ _; omega) (by show l2.length ≤ _; omega)).mono ?_
  rintro _ W1 ⟨rfl, hb1⟩
  rw [HP.out]
  have HB := Lib.hid (HS.out.trans (hb1.mono HS.out.size))
  clear hb1 HS HP HR a0 a1 a2 a3
  go_wp2_with fail
  go_ret
  exact ⟨rfl, HB.out⟩
end Go.Proofs.YtbeidpeoichakaaGreatDoor.ud

/- Fractions of which one is none: the program's Sub. -/
set_option linter.unusedSimpArgs false
set_option linter.unusedVariables false
namespace Go.Proofs.YtbeidpeoichakaaGreatDoor.ue
open Go.RowKit Go.Proofs.YtbeidpeoichakaaGreatDoor.fm Go.Proofs.YtbeidpeoichakaaGreatDoor.mem Go.Proofs.YtbeidpeoichakaaGreatDoor.fa Go.Proofs.YtbeidpeoichakaaGreatDoor.fb Go.Proofs.YtbeidpeoichakaaGreatDoor.fs Go.Proofs.YtbeidpeoichakaaGreatDoor.ft Go.Proofs.YtbeidpeoichakaaGreatDoor.fu Go.Proofs.YtbeidpeoichakaaGreatDoor.fv Go.Proofs.YtbeidpeoichakaaGreatDoor.fw Go.Proofs.YtbeidpeoichakaaGreatDoor.fy Go.Proofs.YtbeidpeoichakaaGreatDoor.ga Go.Proofs.YtbeidpeoichakaaGreatDoor.gb Go.Proofs.YtbeidpeoichakaaGreatDoor.gc Go.Proofs.YtbeidpeoichakaaGreatDoor.gd Go.Proofs.YtbeidpeoichakaaGreatDoor.fj Go.Proofs.YtbeidpeoichakaaGreatDoor.gg Go.Proofs.YtbeidpeoichakaaGreatDoor.ja Go.Proofs.YtbeidpeoichakaaGreatDoor.jb Go.Proofs.YtbeidpeoichakaaGreatDoor.jg Go.Proofs.YtbeidpeoichakaaGreatDoor.jh Go.Proofs.YtbeidpeoichakaaGreatDoor.pa Go.Proofs.YtbeidpeoichakaaGreatDoor.pb Go.Proofs.YtbeidpeoichakaaGreatDoor.pc Go.Proofs.YtbeidpeoichakaaGreatDoor.nb Go.Proofs.YtbeidpeoichakaaGreatDoor.hc Go.Proofs.YtbeidpeoichakaaGreatDoor.hd Go.Proofs.YtbeidpeoichakaaGreatDoor.ra Go.Proofs.YtbeidpeoichakaaGreatDoor.re Go.Proofs.YtbeidpeoichakaaGreatDoor.rb Go.Proofs.YtbeidpeoichakaaGreatDoor.rg Go.Proofs.YtbeidpeoichakaaGreatDoor.sa Go.Proofs.YtbeidpeoichakaaGreatDoor.sb Go.Proofs.YtbeidpeoichakaaGreatDoor.sc Go.Proofs.YtbeidpeoichakaaGreatDoor.ta Go.Proofs.YtbeidpeoichakaaGreatDoor.tb Go.Proofs.YtbeidpeoichakaaGreatDoor.ua Go.Proofs.YtbeidpeoichakaaGreatDoor.ub Go.Proofs.YtbeidpeoichakaaGreatDoor.uc

/-- two values and a result in boxes of their own -/
structure FRA (w W : World) (f f' : Any) (A : Option Addr) (c : Nat) (B : Option Addr) (k : Nat) (A' : Option Addr) (c' : Nat) (B' : Option Addr) (k' : Nat) : Prop where
  a : FA W w.heap.size f A c B k
  b : FA W (w.heap.size + 1) f' A' c' B' k'
  F : FBox w W (w.heap.size + 1 + 1)
section
variable {w W W' : World} {f f' : Any} {A B A' B' : Option Addr} {c k c' k' : Nat}
theorem FRA.after (S : FRA w W f f' A c B k A' c' B' k') (h : Below W.heap.size W W') : FRA w W' f f' A c B k A' c' B' k' := ⟨S.a.after h, S.b.after h, S.F.after h⟩
theorem FRA.held (S : FRA w W f f' A c B k A' c' B' k') : W.cell? ⟨w.heap.size, 0, none⟩ = some (.bool f.n1) ∧ W.cell? ⟨w.heap.size, 1, none⟩ = some (.slice A f.l1.length c) ∧ W.cell? ⟨w.heap.size, 2, none⟩ = some (.bool f.n2) ∧ W.cell? ⟨w.heap.size, 3, none⟩ = some (.slice B f.l2.length k) ∧
    W.cell? ⟨w.heap.size + 1, 0, none⟩ = some (.bool f'.n1) ∧ W.cell? ⟨w.heap.size + 1, 1, none⟩ = some (.slice A' f'.l1.length c') ∧ W.cell? ⟨w.heap.size + 1, 2, none⟩ = some (.bool f'.n2) ∧ W.cell? ⟨w.heap.size + 1, 3, none⟩ = some (.slice B' f'.l2.length k') :=
  ⟨S.a.c0, S.a.c1, S.a.c2, S.a.c3, S.b.c0, S.b.c1, S.b.c2, S.b.c3⟩
theorem FRA.put (S : FRA w W f f' A c B k A' c' B' k') (v0 v1 v2 v3 : Value) {W' : World} (hW : W' = fput W (w.heap.size + 1 + 1) v0 v1 v2 v3) :
    W'.cell? ⟨w.heap.size, 0, none⟩ = some (.bool f.n1) ∧ W'.cell? ⟨w.heap.size, 1, none⟩ = some (.slice A f.l1.length c) ∧ W'.cell? ⟨w.heap.size, 2, none⟩ = some (.bool f.n2) ∧ W'.cell? ⟨w.heap.size, 3, none⟩ = some (.slice B f.l2.length k) ∧
    W'.cell? ⟨w.heap.size + 1, 0, none⟩ = some (.bool f'.n1) ∧ W'.cell? ⟨w.heap.size + 1, 1, none⟩ = some (.slice A' f'.l1.length c') ∧ W'.cell? ⟨w.heap.size + 1, 2, none⟩ = some (.bool f'.n2) ∧ W'.cell? ⟨w.heap.size + 1, 3, none⟩ = some (.slice B' f'.l2.length k') := by
  have key : ∀ b i, b ≤ w.heap.size + 1 → W'.cell? ⟨b, i, none⟩ = W.cell? ⟨b, i, none⟩ := by
    intro b i hb
    rw [hW]
    unfold fput
    exact (World.cell?_setCell_other _ _ _ _ (by intro h; injection h with h; omega)).trans ((World.cell?_setCell_other _ _ _ _ (by intro h; injection h with h; omega)).trans ((World.cell?_setCell_other _ _ _ _ (by intro h; injection h with h; omega)).trans (World.cell?_setCell_other _ _ _ _ (by intro h; injection h with h; omega))))
  obtain ⟨h0, h1, h2, h3, h4, h5, h6, h7⟩ := S.held
  exact ⟨(key _ _ (by omega)).trans h0, (key _ _ (by omega)).trans h1, (key _ _ (by omega)).trans h2, (key _ _ (by omega)).trans h3, (key _ _ (by omega)).trans h4, (key _ _ (by omega)).trans h5, (key _ _ (by omega)).trans h6, (key _ _ (by omega)).trans h7⟩
theorem fra_new (R : Rd w w.heap.size A c f.l1) (S : Rd w w.heap.size B k f.l2) (R' : Rd w w.heap.size A' c' f'.l1) (S' : Rd w w.heap.size B' k' f'.l2) (t : TypeId) :
    FRA w (((w.alloc (.cells (f.cells A c B k) t)).alloc (.cells (f'.cells A' c' B' k') t)).alloc (.cells #[.bool false, .slice none 0 0, .bool false, .slice none 0 0] 30)) f f' A c B k A' c' B' k' := by
  have h1 := (Below.refl w.heap.size w).alloc (Nat.le_refl _) (.cells (f.cells A c B k) t)
  have hA := fa_new R S t
  obtain ⟨V, hV⟩ : ∃ V, V = w.alloc (.cells (f.cells A c B k) t) := ⟨_, rfl⟩
  have hs1 : V.heap.size = w.heap.size + 1 := by rw [hV]; simp
  have hF := fbox_two w (.cells (f.cells A c B k) t) (.cells (f'.cells A' c' B' k') t)
  rw [← hV] at h1 hA hF ⊢
  have h2 := (Below.refl V.heap.size V).alloc (Nat.le_refl _) (.cells (f'.cells A' c' B' k') t)
  have hB := fa_new (W := V) (f := f') ((R'.below h1).more h1.size) ((S'.below h1).more h1.size) t
  obtain ⟨U, hU⟩ : ∃ U, U = V.alloc (.cells (f'.cells A' c' B' k') t) := ⟨_, rfl⟩
  rw [← hU] at h2 hB hF ⊢
  rw [hs1] at hB
  have h3 := (Below.refl U.heap.size U).alloc (Nat.le_refl _) (.cells #[.bool false, .slice none 0 0, .bool false, .slice none 0 0] 30)
  exact ⟨(hA.after h2).after h3, hB.after h3, hF⟩
end

theorem FRA.heldC {w W : World} {n1 n2 m1 m2 : Bool} {l1 l2 s1 s2 : List Nat} {A B A' B' : Option Addr} {c k c' k' : Nat} (S : FRA w W ⟨n1, l1, n2, l2⟩ ⟨m1, s1, m2, s2⟩ A c B k A' c' B' k') : W.cell? ⟨w.heap.size, 0, none⟩ = some (.bool n1) ∧ W.cell? ⟨w.heap.size, 1, none⟩ = some (.slice A l1.length c) ∧ W.cell? ⟨w.heap.size, 2, none⟩ = some (.bool n2) ∧ W.cell? ⟨w.heap.size, 3, none⟩ = some (.slice B l2.length k) ∧ W.cell? ⟨w.heap.size + 1, 0, none⟩ = some (.bool m1) ∧ W.cell? ⟨w.heap.size + 1, 1, none⟩ = some (.slice A' s1.length c') ∧ W.cell? ⟨w.heap.size + 1, 2, none⟩ = some (.bool m2) ∧ W.cell? ⟨w.heap.size + 1, 3, none⟩ = some (.slice B' s2.length k') := S.held
theorem FRA.putC {w W : World} {n1 n2 m1 m2 : Bool} {l1 l2 s1 s2 : List Nat} {A B A' B' : Option Addr} {c k c' k' : Nat} (S : FRA w W ⟨n1, l1, n2, l2⟩ ⟨m1, s1, m2, s2⟩ A c B k A' c' B' k') (v0 v1 v2 v3 : Value) : ((((W.setCell ⟨w.heap.size + 1 + 1, 0, none⟩ v0).setCell ⟨w.heap.size + 1 + 1, 1, none⟩ v1).setCell ⟨w.heap.size + 1 + 1, 2, none⟩ v2).setCell ⟨w.heap.size + 1 + 1, 3, none⟩ v3).cell? ⟨w.heap.size, 0, none⟩ = some (.bool n1) ∧ ((((W.setCell ⟨w.heap.size + 1 + 1, 0, none⟩ v0).setCell ⟨w.heap.size + 1 + 1, 1, none⟩ v1).setCell ⟨w.heap.size + 1 + 1, 2, none⟩ v2).setCell ⟨w.heap.size + 1 + 1, 3, none⟩ v3).cell? ⟨w.heap.size, 1, none⟩ = some (.slice A l1.length c) ∧ ((((W.setCell ⟨w.heap.size + 1 + 1, 0, none⟩ v0).setCell ⟨w.heap.size + 1 + 1, 1, none⟩ v1).setCell ⟨w.heap.size + 1 + 1, 2, none⟩ v2).setCell ⟨w.heap.size + 1 + 1, 3, none⟩ v3).cell? ⟨w.heap.size, 2, none⟩ = some (.bool n2) ∧ ((((W.setCell ⟨w.heap.size + 1 + 1, 0, none⟩ v0).setCell ⟨w.heap.size + 1 + 1, 1, none⟩ v1).setCell ⟨w.heap.size + 1 + 1, 2, none⟩ v2).setCell ⟨w.heap.size + 1 + 1, 3, none⟩ v3).cell? ⟨w.heap.size, 3, none⟩ = some (.slice B l2.length k) ∧ ((((W.setCell ⟨w.heap.size + 1 + 1, 0, none⟩ v0).setCell ⟨w.heap.size + 1 + 1, 1, none⟩ v1).setCell ⟨w.heap.size + 1 + 1, 2, none⟩ v2).setCell ⟨w.heap.size + 1 + 1, 3, none⟩ v3).cell? ⟨w.heap.size + 1, 0, none⟩ = some (.bool m1) ∧ ((((W.setCell ⟨w.heap.size + 1 + 1, 0, none⟩ v0).setCell ⟨w.heap.size + 1 + 1, 1, none⟩ v1).setCell ⟨w.heap.size + 1 + 1, 2, none⟩ v2).setCell ⟨w.heap.size + 1 + 1, 3, none⟩ v3).cell? ⟨w.heap.size + 1, 1, none⟩ = some (.slice A' s1.length c') ∧ ((((W.setCell ⟨w.heap.size + 1 + 1, 0, none⟩ v0).setCell ⟨w.heap.size + 1 + 1, 1, none⟩ v1).setCell ⟨w.heap.size + 1 + 1, 2, none⟩ v2).setCell ⟨w.heap.size + 1 + 1, 3, none⟩ v3).cell? ⟨w.heap.size + 1, 2, none⟩ = some (.bool m2) ∧ ((((W.setCell ⟨w.heap.size + 1 + 1, 0, none⟩ v0).setCell ⟨w.heap.size + 1 + 1, 1, none⟩ v1).setCell ⟨w.heap.size + 1 + 1, 2, none⟩ v2).setCell ⟨w.heap.size + 1 + 1, 3, none⟩ v3).cell? ⟨w.heap.size + 1, 3, none⟩ = some (.slice B' s2.length k') := by
  obtain ⟨W', hW⟩ : ∃ W', W' = fput W (w.heap.size + 1 + 1) v0 v1 v2 v3 := ⟨_, rfl⟩
  rw [show (((W.setCell ⟨w.heap.size + 1 + 1, 0, none⟩ v0).setCell ⟨w.heap.size + 1 + 1, 1, none⟩ v1).setCell ⟨w.heap.size + 1 + 1, 2, none⟩ v2).setCell ⟨w.heap.size + 1 + 1, 3, none⟩ v3 = W' from hW.symm]
  exact S.put v0 v1 v2 v3 hW
set_option maxRecDepth 100000 in
set_option maxHeartbeats 4000000 in
theorem psub_bad (w : World) (a b : Value) (f f' : Any) (ha : IsF w a f) (hb : IsF w b f') (hs : f.l1.length ≤ 1000 ∧ f.l2.length ≤ 1000 ∧ f'.l1.length ≤ 1000 ∧ f'.l2.length ≤ 1000) (hT : Tabs w) (hp : (f.fine && f'.fine) = false) :
    Calls Tryz.prog 14 #[a, b] w (NoF w) := by
  obtain ⟨A, c, B, k, rfl, RA, RB⟩ := ha
  obtain ⟨A', c', B', k', rfl, RA', RB'⟩ := hb
  have hS := fra_new RA RB RA' RB' 30
  obtain ⟨n1, l1, n2, l2⟩ := f
  obtain ⟨m1, s1, m2, s2⟩ := f'
  have hparts : Any.fine ⟨m1, s1, m2, s2⟩ = true → (decide (sgnd m1 (val s1) < 0) = m1 ∧ digs (sgnd m1 (val s1)).natAbs = s1) := by
    intro h
    have hpre : Any.pre ⟨m1, s1, m2, s2⟩ = true := by unfold Any.fine at h; exact (Bool.and_eq_true_iff.1 h).1
    obtain ⟨e1, e2, _⟩ := Any.parts hpre RA'.ok RB'.ok
    exact ⟨e2, e1⟩
  unfold Any.cells at hS ⊢
  dsimp only at RA RB RA' RB' hs hS ⊢
  go_enter Tryz.func14, Tryz.ntmps14
  obtain ⟨W, hW⟩ : ∃ W, W = (((w.alloc (.cells #[.bool n1, .slice A l1.length c, .bool n2, .slice B l2.length k] 30)).alloc (.cells #[.bool m1, .slice A' s1.length c', .bool m2, .slice B' s2.length k'] 30)).alloc (.cells #[.bool false, .slice none 0 0, .bool false, .slice none 0 0] 30)) := ⟨_, rfl⟩
  have hsz : W.heap.size = w.heap.size + 1 + 1 + 1 := by rw [hW]; simp
  rw [← hW] at hS
  have HS := Lib.hid (And.intro hsz hS)
  have HP := Lib.hid (And.intro hp (And.intro hT hparts))
  clear hS hsz hp RA RB RA' RB' hT hparts
  go_wp2_with fail
  rw [← hW]
  clear hW
  have hbA : ∀ o, Below W.heap.size W (W.alloc o) := fun o => (Below.refl _ _).alloc (Nat.le_refl _) o
  have hbB : ∀ o, Below w.heap.size w (W.alloc o) := fun o => HS.out.2.F.bel.trans ((hbA o).mono HS.out.2.F.bel.size)
  refine (validAllF (W.alloc _) (w.heap.size + 1 + 1 + 1) 1 [(⟨m1, s1, m2, s2⟩ : Any)] (by simp [HS.out.1]) (by show 1 ≤ 100; omega) (ents_one (by rw [← HS.out.1]; exact heap_alloc_new W _) ((HS.out.2.b.R.below (hbA _)).more (hbA _).size) ((HS.out.2.b.S.below (hbA _)).more (hbA _).size)) (HP.out.2.1.below (hbB _))).mono ?_
  rintro _ W1 ⟨rfl, hb1⟩
  rw [show [(⟨m1, s1, m2, s2⟩ : Any)].all Any.fine = Any.fine ⟨m1, s1, m2, s2⟩ by simp]
  have hb2 := (hbA _).trans (hb1.mono (by simp))
  have H1 := Lib.hid (HS.out.2.after hb2)
  clear hb1 hb2 hbA hbB HS
  cases hf : Any.fine ⟨m1, s1, m2, s2⟩
  · have F2 := H1.out.F
    obtain ⟨e0, d0, d1, d2, d3⟩ := F2.filled (z := 0) (d := 0) (A := none) (c := 0) (A' := none) (c' := 0) (by rw [show digs (0 : Int).natAbs = [] from digs_zero]; exact Rd.nil _ _ _ _) (by rw [digs_zero]; exact Rd.nil _ _ _ _) _ rfl
    simp only [show digs (0 : Int).natAbs = [] from digs_zero, digs_zero, List.length_nil, show decide ((0 : Int) < 0) = false from rfl] at e0 d0 d1 d2 d3
    have r0 := F2.r0
    have r1 := F2.r1
    have r2 := F2.r2
    have r3 := F2.r3
    have f0 := F2.fr 0
    have f1 := F2.fr 1
    have f2 := F2.fr 2
    have f3 := F2.fr 3
    have HE := Lib.hid (And.intro e0.2 (And.intro d0 (And.intro d1 (And.intro d2 d3))))
    clear e0 d0 d1 d2 d3 F2 H1 HP hf
    go_wp2
    (try simp only [Exit.inBlock, Exit.then])
    refine bodyPost_ret (results_frac rfl _ _ (w.heap.size + 1 + 1) rfl HE.out.2.1 HE.out.2.2.1 HE.out.2.2.2.1 HE.out.2.2.2.2) rfl ?_
    exact ⟨rfl, HE.out.1⟩
  · obtain ⟨q1, q2⟩ := HP.out.2.2 hf
    obtain ⟨Y, hY⟩ : ∃ Y, Y = sgnd m1 (val s1) := ⟨_, rfl⟩
    rw [← hY] at q1 q2
    have hbad : Any.fine ⟨n1, l1, n2, l2⟩ = false := by
      have := HP.out.1
      rw [hf] at this
      simpa using this
    have HQ := Lib.hid (And.intro q1 (And.intro q2 hbad))
    obtain ⟨X, hX⟩ : ∃ X, X = -Y := ⟨_, rfl⟩
    have hlen : (digs X.natAbs).length ≤ 1000 := by rw [hX, Int.natAbs_neg, q2]; omega
    have HX := Lib.hid hX
    clear hX
    have hadd : ∀ (W' : World) (A3 : Option Addr) (c3 : Nat), FRA w W' ⟨n1, l1, n2, l2⟩ ⟨m1, s1, m2, s2⟩ A c B k A' c' B' k' → Rd W' W'.heap.size A3 c3 (digs X.natAbs) →
        Calls Tryz.prog 11 #[.agg #[.bool n1, .slice A l1.length c, .bool n2, .slice B l2.length k], .agg #[.bool (decide (X < 0)), .slice A3 (digs X.natAbs).length c3, .bool m2, .slice B' s2.length k']] W' (NoF W') := by
      intro W' A3 c3 S3 R3
      have ha : IsF W' (.agg #[.bool n1, .slice A l1.length c, .bool n2, .slice B l2.length k]) ⟨n1, l1, n2, l2⟩ := ⟨A, c, B, k, rfl, S3.a.R, S3.a.S⟩
      have hb : IsF W' (.agg #[.bool (decide (X < 0)), .slice A3 (digs X.natAbs).length c3, .bool m2, .slice B' s2.length k']) ⟨decide (X < 0), digs X.natAbs, m2, s2⟩ := ⟨A3, c3, B', k', rfl, R3, S3.b.S⟩
      exact padd_bad W' _ _ _ _ ha hb ⟨hs.1, hs.2.1, hlen, hs.2.2.2⟩ (HP.out.2.1.below S3.F.bel) (by rw [HQ.out.2.2]; rfl)
    have HADD := Lib.hid hadd
    clear q1 q2 hY hbad hf hadd
    have H1d := Lib.hid (H1.out.after (Below.refl _ _).drew)
    obtain ⟨a0, a1, a2, a3, b0, b1, b2, b3⟩ := H1.out.held
    dsimp only at a0 a1 a2 a3 b0 b1 b2 b3
    go_wp2_with fail
    go_region_held3 (fun w' => w'.cell? ⟨w.heap.size, 0, none⟩ = some (.bool n1) ∧ w'.cell? ⟨w.heap.size, 1, none⟩ = some (.slice A l1.length c) ∧ w'.cell? ⟨w.heap.size, 2, none⟩ = some (.bool n2) ∧ w'.cell? ⟨w.heap.size, 3, none⟩ = some (.slice B l2.length k) ∧ w'.cell? ⟨w.heap.size + 1, 0, none⟩ = some (.bool m1) ∧ w'.cell? ⟨w.heap.size + 1, 1, none⟩ = some (.slice A' s1.length c') ∧ w'.cell? ⟨w.heap.size + 1, 2, none⟩ = some (.bool m2) ∧ w'.cell? ⟨w.heap.size + 1, 3, none⟩ = some (.slice B' s2.length k'))
      (first | with_reducible exact H1d.out.heldC | with_reducible exact H3.out.1.heldC | with_reducible exact H5.out.heldC | (exact FRA.putC H5.out _ _ _ _))
      (first
        | (have hI := H3; go_at_call 11; refine (HADD.out W3 A3 c3 H3.out.1 H3.out.2).mono ?_
           rintro _ W5 ⟨rfl, hb5⟩
           have S5 := H3.out.1.after hb5
           have H5 := Lib.hid S5
           have r0 := S5.F.r0
           have r1 := S5.F.r1
           have r2 := S5.F.r2
           have r3 := S5.F.r3
           have f0 := S5.F.fr 0
           have f1 := S5.F.fr 1
           have f2 := S5.F.fr 2
           have f3 := S5.F.fr 3
           clear hb5 S5 hI)
        | (go_at_call 48; refine (negated_any _ _ Y ⟨A', c', by rw [HQ.out.1, HQ.out.2.1], by rw [HQ.out.2.1]; exact H1d.out.b.R⟩).mono ?_; rintro _ W3 ⟨v3, rfl, hI3, hb3⟩
           rw [← HX.out] at hI3
           obtain ⟨A3, c3, rfl, R3⟩ := hI3
           have H3 := Lib.hid (And.intro (H1d.out.after hb3) R3)
           clear hb3 R3))
    rename_i hHeld
    obtain ⟨e0, d0, d1, d2, d3⟩ := H5.out.F.filled (z := 0) (d := 0) (A := none) (c := 0) (A' := none) (c' := 0) (by rw [show digs (0 : Int).natAbs = [] from digs_zero]; exact Rd.nil _ _ _ _) (by rw [digs_zero]; exact Rd.nil _ _ _ _) _ rfl
    simp only [show digs (0 : Int).natAbs = [] from digs_zero, digs_zero, List.length_nil, show decide ((0 : Int) < 0) = false from rfl] at e0 d0 d1 d2 d3
    have HE := Lib.hid (And.intro e0.2 (And.intro d0 (And.intro d1 (And.intro d2 d3))))
    clear e0 d0 d1 d2 d3 H1 H1d H3 H5 HP HQ HADD HX a0 a1 a2 a3 b0 b1 b2 b3 hHeld r0 r1 r2 r3 f0 f1 f2 f3
    go_wp2
    (try simp only [Exit.inBlock, Exit.then])
    refine bodyPost_ret (results_frac rfl _ _ (w.heap.size + 1 + 1) rfl HE.out.2.1 HE.out.2.2.1 HE.out.2.2.2.1 HE.out.2.2.2.2) rfl ?_
    exact ⟨rfl, HE.out.1⟩
end Go.Proofs.YtbeidpeoichakaaGreatDoor.ue
