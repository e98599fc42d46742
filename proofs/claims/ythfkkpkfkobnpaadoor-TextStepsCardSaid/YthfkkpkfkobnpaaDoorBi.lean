/- The mill's Field (kinds 0 to 5 bear no end of a line). -/
import Derived.Test.YthfkkpkfkobnpaaDoorBo
set_option linter.unusedVariables false
set_option linter.unusedSimpArgs false
namespace Go.Proofs.YthfkkpkfkobnpaaDoor.bn
open Go.RowKit Go.Proofs.YthfkkpkfkobnpaaDoor.mill

set_option maxRecDepth 100000 in
set_option maxHeartbeats 1000000 in
theorem words_pl (w : World) : Calls Tryd.prog 33 #[] w fun e w' => ∃ g, e = .returned (.slice (some ⟨g, 0, none⟩) 16 16) ∧ (∀ j, j < 16 → ∃ s : ByteArray, w'.cell? ⟨g, j, none⟩ = some (.string s) ∧ s.size ≤ 20 ∧ Pl s) ∧ w.heap.size ≤ g ∧ g < w'.heap.size ∧ Below w.heap.size w w' := by
  go_enter Tryd.func33, Tryd.ntmps33
  go_wp2
  go_ret
  refine ⟨w.heap.size, rfl, fun j hj => ?_, Nat.le_refl _, by simp, (Below.refl _ w).alloc (Nat.le_refl _) _⟩
  simp only [World.cell?, heap_alloc_new, Option.isSome_none, Bool.false_eq_true, if_false]
  refine Exists.imp (fun s h => ⟨h.1, h.2.1, h.2.2 rfl⟩) (lit_at true _ ?_ j ?_)
  · rfl
  · exact hj

set_option maxRecDepth 100000 in
set_option maxHeartbeats 2000000 in
theorem field0 (w : World) (g : Nat) (l : List Nat) (k : Nat) (D : DiceAt w g l k) :
    Calls Tryd.prog 10 #[.pointer (some ⟨g, 0, none⟩), .int .i64 0] w fun e w' => ∃ (t : ByteArray) (k' : Nat), e = .returned (.string t) ∧ t.size ≤ 70 ∧ (0 ≤ 5 → Pl t) ∧ DiceAt w' g l k' ∧ Kept g w w' := by
  have hg0 := D.lt
  go_enter Tryd.func10, Tryd.ntmps10
  go_wp2_with fail
  refine (words_pl _).mono ?_
  rintro _ w3 ⟨g3, rfl, hc3, hg3, hl3, b3⟩
  have H3 := Lib.hid (And.intro hc3 b3)
  clear hc3 b3
  go_wp2_with fail
  refine (words_pl _).mono ?_
  rintro _ w4 ⟨g4, rfl, _, hg4, hl4, b4⟩
  have D4 := (D.after H3.out.2).after b4
  go_wp2_with fail
  refine (pick_some w4 g 16 l k D4 (by omega) (by omega)).mono ?_
  rintro _ w5 ⟨p, k5, rfl, hp, D5, K5⟩
  obtain ⟨x, hxc, hx1, hx2⟩ := H3.out.1 p hp
  have hs4 := b4.size
  have cx : w5.cell? ⟨g3, p, none⟩ = some (.string x) := (K5.cell (p := ⟨g3, p, none⟩) (by show g3 < _; omega) (by show g3 ≠ g; omega)).trans ((b4.cell (p := ⟨g3, p, none⟩) hl3).trans hxc)
  have KK : Kept g w w5 := (Kept.of_below (H3.out.2.trans (b4.mono (by omega))) (by omega)).trans K5
  have HK := Lib.hid (And.intro KK hx2)
  have i1 : (p : Int) < 16 := by omega
  clear KK K5 b4 D4 hx2 hxc
  go_wp2
  go_ret
  exact ⟨x, k5, rfl, by omega, fun _ => HK.out.2, D5, HK.out.1⟩

set_option maxRecDepth 100000 in
set_option maxHeartbeats 2000000 in
theorem field1 (w : World) (g : Nat) (l : List Nat) (k : Nat) (D : DiceAt w g l k) :
    Calls Tryd.prog 10 #[.pointer (some ⟨g, 0, none⟩), .int .i64 1] w fun e w' => ∃ (t : ByteArray) (k' : Nat), e = .returned (.string t) ∧ t.size ≤ 70 ∧ (1 ≤ 5 → Pl t) ∧ DiceAt w' g l k' ∧ Kept g w w' := by
  have hg0 := D.lt
  go_enter Tryd.func10, Tryd.ntmps10
  go_wp2_with fail
  refine (number_any w g l k D).mono ?_
  rintro _ w1 ⟨t, k1, rfl, h1, h2, hp, D1, K1⟩
  have HP := Lib.hid hp
  clear hp
  go_wp2
  go_ret
  exact ⟨t, k1, rfl, by omega, fun _ => HP.out, D1, K1⟩

set_option maxRecDepth 100000 in
set_option maxHeartbeats 2000000 in
theorem field2 (w : World) (g : Nat) (l : List Nat) (k : Nat) (D : DiceAt w g l k) :
    Calls Tryd.prog 10 #[.pointer (some ⟨g, 0, none⟩), .int .i64 2] w fun e w' => ∃ (t : ByteArray) (k' : Nat), e = .returned (.string t) ∧ t.size ≤ 70 ∧ (2 ≤ 5 → Pl t) ∧ DiceAt w' g l k' ∧ Kept g w w' := by
  have hg0 := D.lt
  go_enter Tryd.func10, Tryd.ntmps10
  go_wp2_with fail
  refine (date_any w g l k D).mono ?_
  rintro _ w1 ⟨t, k1, rfl, h2, hp, D1, K1⟩
  have HP := Lib.hid hp
  clear hp
  go_wp2
  go_ret
  exact ⟨t, k1, rfl, h2, fun _ => HP.out, D1, K1⟩

set_option maxRecDepth 100000 in
set_option maxHeartbeats 2000000 in
theorem field3 (w : World) (g : Nat) (l : List Nat) (k : Nat) (D : DiceAt w g l k) :
    Calls Tryd.prog 10 #[.pointer (some ⟨g, 0, none⟩), .int .i64 3] w fun e w' => ∃ (t : ByteArray) (k' : Nat), e = .returned (.string t) ∧ t.size ≤ 70 ∧ (3 ≤ 5 → Pl t) ∧ DiceAt w' g l k' ∧ Kept g w w' := by
  have hg0 := D.lt
  go_enter Tryd.func10, Tryd.ntmps10
  go_wp2_with fail
  refine (pick_some _ g 5 l k (dice_alloc D _) (by decide) (by decide)).mono ?_
  rintro _ W1 ⟨v1, k1, rfl, hv1, D1, K1⟩
  obtain ⟨s1, hs1, hz1, hp1⟩ := lit_at true _ (by rfl : (#[.string ⟨#[121, 101, 115]⟩, .string ⟨#[110, 111]⟩, .string ⟨#[84, 82, 85, 69]⟩, .string ⟨#[70, 97, 108, 115, 101]⟩, .string ⟨#[32, 121, 101, 115, 32]⟩] : Array Value).toList.all (okV true) = true) v1 hv1
  have c1 := lit_kept K1 hg0 hs1
  have H1 := Lib.hid (And.intro hp1 (kept_alloc hg0 K1))
  clear hp1 K1 hs1
  have i1 : (v1 : Int) < 5 := by omega
  go_wp2
  go_ret
  exact ⟨s1, k1, rfl, by omega, fun h => by first | exact H1.out.1 trivial | exact H1.out.1 rfl, D1, H1.out.2⟩

set_option maxRecDepth 100000 in
set_option maxHeartbeats 2000000 in
theorem field4 (w : World) (g : Nat) (l : List Nat) (k : Nat) (D : DiceAt w g l k) :
    Calls Tryd.prog 10 #[.pointer (some ⟨g, 0, none⟩), .int .i64 4] w fun e w' => ∃ (t : ByteArray) (k' : Nat), e = .returned (.string t) ∧ t.size ≤ 70 ∧ (4 ≤ 5 → Pl t) ∧ DiceAt w' g l k' ∧ Kept g w w' := by
  have hg0 := D.lt
  go_enter Tryd.func10, Tryd.ntmps10
  go_wp2_with fail
  refine (number_any w g l k D).mono ?_
  rintro _ W0 ⟨t, k0, rfl, h1, h2, hp, D0, K0⟩
  have HP := Lib.hid (And.intro hp K0)
  have hg1 := D0.lt
  clear hp K0
  go_wp2_with fail
  refine (pick_some _ g 7 l k0 (dice_alloc D0 _) (by decide) (by decide)).mono ?_
  rintro _ W1 ⟨v1, k1, rfl, hv1, D1, K1⟩
  obtain ⟨s1, hs1, hz1, hp1⟩ := lit_at true _ (by rfl : (#[.string ⟨#[32, 107, 103]⟩, .string ⟨#[103]⟩, .string ⟨#[32, 107, 109]⟩, .string ⟨#[109]⟩, .string ⟨#[32, 109, 105, 110]⟩, .string ⟨#[37]⟩, .string ⟨#[32, 109, 109]⟩] : Array Value).toList.all (okV true) = true) v1 hv1
  have c1 := lit_kept K1 hg1 hs1
  have H1 := Lib.hid (And.intro hp1 (HP.out.2.trans (kept_alloc hg1 K1)))
  clear hp1 K1 hs1
  have i1 : (v1 : Int) < 7 := by omega
  go_wp2
  go_ret
  exact ⟨t ++ s1, k1, rfl, by rw [ByteArray.size_append]; omega, fun _ => pl_append HP.out.1 (by first | exact H1.out.1 trivial | exact H1.out.1 rfl), D1, H1.out.2⟩

set_option maxRecDepth 100000 in
set_option maxHeartbeats 2000000 in
theorem field5 (w : World) (g : Nat) (l : List Nat) (k : Nat) (D : DiceAt w g l k) :
    Calls Tryd.prog 10 #[.pointer (some ⟨g, 0, none⟩), .int .i64 5] w fun e w' => ∃ (t : ByteArray) (k' : Nat), e = .returned (.string t) ∧ t.size ≤ 70 ∧ (5 ≤ 5 → Pl t) ∧ DiceAt w' g l k' ∧ Kept g w w' := by
  have hg0 := D.lt
  go_enter Tryd.func10, Tryd.ntmps10
  go_wp2_with fail
  refine (pick_some _ g 7 l k (dice_alloc D _) (by decide) (by decide)).mono ?_
  rintro _ W1 ⟨v1, k1, rfl, hv1, D1, K1⟩
  obtain ⟨s1, hs1, hz1, hp1⟩ := lit_at true _ (by rfl : (#[.string ⟨#[]⟩, .string ⟨#[32]⟩, .string ⟨#[78, 65]⟩, .string ⟨#[45]⟩, .string ⟨#[110, 111, 110, 101]⟩, .string ⟨#[63]⟩, .string ⟨#[110, 117, 108, 108]⟩] : Array Value).toList.all (okV true) = true) v1 hv1
  have c1 := lit_kept K1 hg0 hs1
  have H1 := Lib.hid (And.intro hp1 (kept_alloc hg0 K1))
  clear hp1 K1 hs1
  have i1 : (v1 : Int) < 7 := by omega
  go_wp2
  go_ret
  exact ⟨s1, k1, rfl, by omega, fun h => by first | exact H1.out.1 trivial | exact H1.out.1 rfl, D1, H1.out.2⟩

set_option maxRecDepth 100000 in
set_option maxHeartbeats 2000000 in
theorem field6 (w : World) (g : Nat) (l : List Nat) (k : Nat) (D : DiceAt w g l k) :
    Calls Tryd.prog 10 #[.pointer (some ⟨g, 0, none⟩), .int .i64 6] w fun e w' => ∃ (t : ByteArray) (k' : Nat), e = .returned (.string t) ∧ t.size ≤ 70 ∧ (6 ≤ 5 → Pl t) ∧ DiceAt w' g l k' ∧ Kept g w w' := by
  have hg0 := D.lt
  go_enter Tryd.func10, Tryd.ntmps10
  go_wp2_with fail
  refine (pick_some _ g 14 l k (dice_alloc D _) (by decide) (by decide)).mono ?_
  rintro _ W1 ⟨v1, k1, rfl, hv1, D1, K1⟩
  obtain ⟨s1, hs1, hz1, hp1⟩ := lit_at false _ (by rfl : (#[.string ⟨#[97, 44, 98]⟩, .string ⟨#[34, 113, 34]⟩, .string ⟨#[39]⟩, .string ⟨#[120, 59, 121]⟩, .string ⟨#[108, 10, 105]⟩, .string ⟨#[99, 13, 114]⟩, .string ⟨#[32, 112, 97, 100, 32]⟩, .string ⟨#[9]⟩, .string ⟨#[124]⟩, .string ⟨#[]⟩, .string ⟨#[195, 169]⟩, .string ⟨#[123]⟩, .string ⟨#[97, 34, 98]⟩, .string ⟨#[13, 10]⟩] : Array Value).toList.all (okV false) = true) v1 hv1
  have c1 := lit_kept K1 hg0 hs1
  have H1 := Lib.hid (And.intro hp1 (kept_alloc hg0 K1))
  clear hp1 K1 hs1
  have i1 : (v1 : Int) < 14 := by omega
  go_wp2
  go_ret
  exact ⟨s1, k1, rfl, by omega, fun h => absurd h (by omega), D1, H1.out.2⟩

set_option maxRecDepth 100000 in
set_option maxHeartbeats 2000000 in
theorem field7 (w : World) (g : Nat) (l : List Nat) (k : Nat) (D : DiceAt w g l k) :
    Calls Tryd.prog 10 #[.pointer (some ⟨g, 0, none⟩), .int .i64 7] w fun e w' => ∃ (t : ByteArray) (k' : Nat), e = .returned (.string t) ∧ t.size ≤ 70 ∧ (7 ≤ 5 → Pl t) ∧ DiceAt w' g l k' ∧ Kept g w w' := by
  have hg0 := D.lt
  go_enter Tryd.func10, Tryd.ntmps10
  go_wp2_with fail
  refine (pick_some _ g 14 l k (dice_alloc D _) (by decide) (by decide)).mono ?_
  rintro _ W1 ⟨v1, k1, rfl, hv1, D1, K1⟩
  obtain ⟨s1, hs1, hz1, hp1⟩ := lit_at false _ (by rfl : (#[.string ⟨#[97, 44, 98]⟩, .string ⟨#[34, 113, 34]⟩, .string ⟨#[39]⟩, .string ⟨#[120, 59, 121]⟩, .string ⟨#[108, 10, 105]⟩, .string ⟨#[99, 13, 114]⟩, .string ⟨#[32, 112, 97, 100, 32]⟩, .string ⟨#[9]⟩, .string ⟨#[124]⟩, .string ⟨#[]⟩, .string ⟨#[195, 169]⟩, .string ⟨#[123]⟩, .string ⟨#[97, 34, 98]⟩, .string ⟨#[13, 10]⟩] : Array Value).toList.all (okV false) = true) v1 hv1
  have c1 := lit_kept K1 hg0 hs1
  have H1 := Lib.hid (And.intro hp1 (kept_alloc hg0 K1))
  clear hp1 K1 hs1
  have i1 : (v1 : Int) < 14 := by omega
  go_wp2
  go_ret
  exact ⟨s1, k1, rfl, by omega, fun h => absurd h (by omega), D1, H1.out.2⟩

set_option maxRecDepth 100000 in
set_option maxHeartbeats 2000000 in
theorem field8 (w : World) (g : Nat) (l : List Nat) (k : Nat) (D : DiceAt w g l k) :
    Calls Tryd.prog 10 #[.pointer (some ⟨g, 0, none⟩), .int .i64 8] w fun e w' => ∃ (t : ByteArray) (k' : Nat), e = .returned (.string t) ∧ t.size ≤ 70 ∧ (8 ≤ 5 → Pl t) ∧ DiceAt w' g l k' ∧ Kept g w w' := by
  have hg0 := D.lt
  go_enter Tryd.func10, Tryd.ntmps10
  go_wp2_with fail
  refine (pick_some _ g 14 l k (dice_alloc D _) (by decide) (by decide)).mono ?_
  rintro _ W1 ⟨v1, k1, rfl, hv1, D1, K1⟩
  obtain ⟨s1, hs1, hz1, hp1⟩ := lit_at false _ (by rfl : (#[.string ⟨#[97, 44, 98]⟩, .string ⟨#[34, 113, 34]⟩, .string ⟨#[39]⟩, .string ⟨#[120, 59, 121]⟩, .string ⟨#[108, 10, 105]⟩, .string ⟨#[99, 13, 114]⟩, .string ⟨#[32, 112, 97, 100, 32]⟩, .string ⟨#[9]⟩, .string ⟨#[124]⟩, .string ⟨#[]⟩, .string ⟨#[195, 169]⟩, .string ⟨#[123]⟩, .string ⟨#[97, 34, 98]⟩, .string ⟨#[13, 10]⟩] : Array Value).toList.all (okV false) = true) v1 hv1
  have c1 := lit_kept K1 hg0 hs1
  have H1 := Lib.hid (And.intro hp1 (kept_alloc hg0 K1))
  clear hp1 K1 hs1
  have i1 : (v1 : Int) < 14 := by omega
  go_wp2
  go_ret
  exact ⟨s1, k1, rfl, by omega, fun h => absurd h (by omega), D1, H1.out.2⟩

theorem field_any (w : World) (g : Nat) (l : List Nat) (k kind : Nat) (D : DiceAt w g l k) (hk : kind ≤ 8) :
    Calls Tryd.prog 10 #[.pointer (some ⟨g, 0, none⟩), .int .i64 (kind : Int)] w fun e w' => ∃ (t : ByteArray) (k' : Nat), e = .returned (.string t) ∧ t.size ≤ 70 ∧ (kind ≤ 5 → Pl t) ∧ DiceAt w' g l k' ∧ Kept g w w' := by
  rcases (by omega : kind = 0 ∨ kind = 1 ∨ kind = 2 ∨ kind = 3 ∨ kind = 4 ∨ kind = 5 ∨ kind = 6 ∨ kind = 7 ∨ kind = 8) with rfl | rfl | rfl | rfl | rfl | rfl | rfl | rfl | rfl
  · exact field0 w g l k D
  · exact field1 w g l k D
  · exact field2 w g l k D
  · exact field3 w g l k D
  · exact field4 w g l k D
  · exact field5 w g l k D
  · exact field6 w g l k D
  · exact field7 w g l k D
  · exact field8 w g l k D
end Go.Proofs.YthfkkpkfkobnpaaDoor.bn
