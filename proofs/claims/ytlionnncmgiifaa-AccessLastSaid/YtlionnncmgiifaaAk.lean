/- law 42: awake: the example of the chapter holds. -/
import Derived.Test.YtlionnncmgiifaaAj
set_option linter.unusedVariables false
set_option linter.unusedSimpArgs false
namespace Go.Proofs.Ytlionnncmgiifaa.acc
open Go.RowKit Go.Proofs.Ytlionnncmgiifaa.dice

/-- the rules of the example -/
def two : List Perm := [⟨⟨#[117]⟩, true, 0, -1⟩, ⟨⟨#[117]⟩, false, 7, 0⟩]

theorem two_u70 : may two ⟨#[117]⟩ 7 0 = false := by decide
theorem two_u71 : may two ⟨#[117]⟩ 7 1 = true := by decide
theorem two_v10 : may two ⟨#[118]⟩ 1 0 = false := by decide
theorem two_okay : ∀ p ∈ two, Okay p := by
  intro p hp
  simp only [two, List.mem_cons, List.not_mem_nil, or_false] at hp
  rcases hp with rfl | rfl <;> exact ⟨by decide, by decide, by decide, by decide, by decide, by decide⟩

set_option maxRecDepth 100000 in
set_option maxHeartbeats 1000000 in
theorem awake_any (w : World) :
    Calls Try.prog 5 #[] w fun e w' => e = .returned (.bool true) ∧ Below w.heap.size w w' := by
  go_enter Try.func5, Try.ntmps5
  go_wp2_with fail
  obtain ⟨w1, hw1⟩ : ∃ w1, w1 = w.alloc (.cells #[.string ⟨#[117]⟩, .bool true, .int .i64 0, .int .i64 (-1), .string ⟨#[117]⟩, .bool false, .int .i64 7, .int .i64 0] 32) := ⟨_, rfl⟩
  have s1 : w1.heap.size = w.heap.size + 1 := by rw [hw1]; simp
  have p1 : w1.heap[w.heap.size]? = some (.cells #[.string ⟨#[117]⟩, .bool true, .int .i64 0, .int .i64 (-1), .string ⟨#[117]⟩, .bool false, .int .i64 7, .int .i64 0] 32) := by rw [hw1]; exact World.alloc_heap_new w _
  obtain ⟨w2, hw2⟩ : ∃ w2, w2 = w1.alloc (.cells #[.bool false, .string ⟨#[120]⟩] 37) := ⟨_, rfl⟩
  have s2 : w2.heap.size = w.heap.size + 1 + 1 := by rw [hw2]; simp [s1]
  have x2 : w2.heap[w.heap.size + 1]? = some (.cells #[.bool false, .string ⟨#[120]⟩] 37) := by rw [hw2, ← s1]; exact World.alloc_heap_new w1 _
  obtain ⟨w3, hw3⟩ : ∃ w3, w3 = w2.alloc (.cells #[.string ⟨#[110]⟩, .slice (some ⟨w.heap.size + 1, 0, none⟩) 1 1] 40) := ⟨_, rfl⟩
  have s3 : w3.heap.size = w.heap.size + 1 + 1 + 1 := by rw [hw3]; simp [s2]
  obtain ⟨w4, hw4⟩ : ∃ w4, w4 = w3.alloc (.cells #[.string ⟨#[110]⟩, .slice (some ⟨w.heap.size + 1, 0, none⟩) 1 1, .string ⟨#[110]⟩, .slice (some ⟨w.heap.size + 1, 0, none⟩) 1 1] 40) := ⟨_, rfl⟩
  have s4 : w4.heap.size = w.heap.size + 1 + 1 + 1 + 1 := by rw [hw4]; simp [s3]
  have c4 : w4.heap[w.heap.size + 1 + 1 + 1]? = some (.cells #[.string ⟨#[110]⟩, .slice (some ⟨w.heap.size + 1, 0, none⟩) 1 1, .string ⟨#[110]⟩, .slice (some ⟨w.heap.size + 1, 0, none⟩) 1 1] 40) := by rw [hw4, ← s3]; exact World.alloc_heap_new w3 _
  obtain ⟨w5, hw5⟩ : ∃ w5, w5 = w4.alloc (.cells #[.int .i64 7, .string ⟨#[]⟩, .slice (some ⟨w.heap.size + 1 + 1 + 1, 0, none⟩) 2 2] 45) := ⟨_, rfl⟩
  have t5 : w5.heap[w.heap.size + 1 + 1 + 1 + 1]? = some (.cells #[.int .i64 7, .string ⟨#[]⟩, .slice (some ⟨w.heap.size + 1 + 1 + 1, 0, none⟩) 2 2] 45) := by rw [hw5, ← s4]; exact World.alloc_heap_new w4 _
  have s5 : w5.heap.size = w.heap.size + 5 := by rw [hw5]; simp [s4]
  have b12 : Below w1.heap.size w1 w2 := by rw [hw2]; exact (Below.refl _ _).alloc (Nat.le_refl _) _
  have b23 : Below w2.heap.size w2 w3 := by rw [hw3]; exact (Below.refl _ _).alloc (Nat.le_refl _) _
  have b34 : Below w3.heap.size w3 w4 := by rw [hw4]; exact (Below.refl _ _).alloc (Nat.le_refl _) _
  have b45 : Below w4.heap.size w4 w5 := by rw [hw5]; exact (Below.refl _ _).alloc (Nat.le_refl _) _
  have b01 : Below w.heap.size w w1 := by rw [hw1]; exact (Below.refl _ _).alloc (Nat.le_refl _) _
  rw [← hw1, ← hw2, ← hw3, ← hw4, ← hw5]
  clear hw1 hw2 hw3 hw4 hw5
  have b35 : Below w3.heap.size w3 w5 := b34.trans (b45.mono (by omega))
  have b25 : Below w2.heap.size w2 w5 := b23.trans (b35.mono (by omega))
  have b15 : Below w1.heap.size w1 w5 := b12.trans (b25.mono (by omega))
  have b05 : Below w.heap.size w w5 := b01.trans (b15.mono (by omega))
  have p5 := (b15.block _ (by omega)).trans p1
  have x5 := (b25.block _ (by omega)).trans x2
  have c5 := (b45.block _ (by omega)).trans c4
  have hI : Perms w5.heap.size w5 (.slice (some ⟨w.heap.size, 0, none⟩) 2 2) two :=
    ⟨by decide, .inr ⟨w.heap.size, 0, 2, rfl, by omega, fun j p hj => at4_of (w := w5) (b := w.heap.size) (ps := two) (o := 0) (World.news_of_block (cs := #[.string ⟨#[117]⟩, .bool true, .int .i64 0, .int .i64 (-1), .string ⟨#[117]⟩, .bool false, .int .i64 7, .int .i64 0]) p5) j p hj⟩⟩
  clear p1 x2 c4 p5 b12 b23 b34 b45 b35 b25 b15 b01
  refine (visible_two _ two ⟨#[117]⟩ ⟨#[110]⟩ _ _ _ w5 hI two_u70 two_u71 t5 c5 x5).mono ?_
  rintro _ w6 ⟨tb, c1, cb, c2, xb, c3, rfl, e1, e2, e3, e4, b6⟩
  have hI6 := (hI.below b6).more b6.size
  have B6 := b05.trans (b6.mono b05.size)
  have HE := Lib.hid (And.intro e1 (And.intro e2 (And.intro e3 e4)))
  clear hI t5 c5 x5 b05 b6 e1 e2 e3 e4 s1 s2 s3 s4 s5
  go_wp2_with fail
  refine (valid_true _ two w6 hI6 (by decide) two_okay).mono ?_
  rintro _ w7 ⟨rfl, b7⟩
  have hI7 := (hI6.below b7).more b7.size
  go_wp2_with fail
  refine (may_any _ two ⟨#[117]⟩ 7 0 w7 hI7).mono ?_
  rintro _ w8 ⟨rfl, b8⟩
  rw [two_u70]
  have hI8 := (hI7.below b8).more b8.size
  go_wp2_with fail
  refine (may_any _ two ⟨#[117]⟩ 7 1 w8 hI8).mono ?_
  rintro _ w9 ⟨rfl, b9⟩
  rw [two_u71]
  have hI9 := (hI8.below b9).more b9.size
  go_wp2_with fail
  refine (may_any _ two ⟨#[118]⟩ 1 0 w9 hI9).mono ?_
  rintro _ w10 ⟨rfl, b10⟩
  rw [two_v10]
  obtain ⟨e1, e2, e3, e4⟩ := HE.out
  have b : Below w6.heap.size w6 w10 := (b7.trans (b8.mono b7.size)).trans ((b9.mono (Nat.le_trans b7.size b8.size)).trans (b10.mono (Nat.le_trans b7.size (Nat.le_trans b8.size b9.size))))
  have k1 := (b.cell (lt_of_cell e1)).trans e1
  have k2 := (b.cell (lt_of_cell e2)).trans e2
  have k3 := (b.cell (lt_of_cell e3)).trans e3
  have k4 := (b.cell (lt_of_cell e4)).trans e4
  have B10 := B6.trans (b.mono B6.size)
  clear e1 e2 e3 e4 HE hI6 hI7 hI8 hI9 b b7 b8 b9 b10 B6
  go_wp2_with fail
  go_ret
  exact ⟨rfl, B10⟩
end Go.Proofs.Ytlionnncmgiifaa.acc
