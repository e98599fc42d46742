/- fraction: Int, negated, SubBig. -/
import Derived.Test.YtfnfnagdecpobaaDoorFz
set_option linter.unusedSimpArgs false
namespace Go.Proofs.YtfnfnagdecpobaaDoor.ga
open Go.RowKit Go.Proofs.YtfnfnagdecpobaaDoor.fm Go.Proofs.YtfnfnagdecpobaaDoor.mem Go.Proofs.YtfnfnagdecpobaaDoor.fa Go.Proofs.YtfnfnagdecpobaaDoor.fb Go.Proofs.YtfnfnagdecpobaaDoor.fq Go.Proofs.YtfnfnagdecpobaaDoor.fr Go.Proofs.YtfnfnagdecpobaaDoor.ft Go.Proofs.YtfnfnagdecpobaaDoor.fu Go.Proofs.YtfnfnagdecpobaaDoor.fv Go.Proofs.YtfnfnagdecpobaaDoor.fw Go.Proofs.YtfnfnagdecpobaaDoor.fx Go.Proofs.YtfnfnagdecpobaaDoor.fy

set_option maxRecDepth 100000 in
set_option maxHeartbeats 4000000 in
/-- Int, of a number that is an int. -/
theorem int_any (w : World) (a : Value) (z : Int) (ha : IsBig w a z) (h1 : -9223372036854775808 ≤ z) (h2 : z < 9223372036854775808) :
    Calls Tryd.prog 22 #[a] w fun e w' => e = .returned (.tuple #[.int .i64 z, .bool true]) ∧ Below w.heap.size w w' := by
  obtain ⟨A, c, rfl, R⟩ := ha
  have hl : (digs z.natAbs).length ≤ 2 := (lt_len_iff _ 2).2 (by omega)
  go_enter Tryd.func22, Tryd.ntmps22
  have hb2 : Below w.heap.size w (w.alloc (.cells #[.bool (decide (z < 0)), .slice A (digs z.natAbs).length c] 28)) := (Below.refl _ _).alloc (Nat.le_refl _) _
  obtain ⟨W, hW⟩ : ∃ W, W = (w.alloc (.cells #[.bool (decide (z < 0)), .slice A (digs z.natAbs).length c] 28)) := ⟨_, rfl⟩
  have hsz : W.heap.size = w.heap.size + 1 := by rw [hW]; simp
  have k0 : W.cell? ⟨w.heap.size, 0, none⟩ = some (.bool (decide (z < 0))) := by rw [hW]; simp [go_sem]
  have k1 : W.cell? ⟨w.heap.size, 1, none⟩ = some (.slice A (digs z.natAbs).length c) := by rw [hW]; simp [go_sem]
  rw [← hW] at hb2
  have HB := Lib.hid (And.intro hb2 (And.intro hsz (And.intro k0 k1)))
  clear hb2 hsz k0 k1
  go_wp2_with fail
  rw [← hW]
  clear hW
  have hbA := HB.out.1.alloc HB.out.1.size (.cells #[.bool (decide (z < 0)), .slice A (digs z.natAbs).length c] 28)
  refine (valid1 (W.alloc _) (w.heap.size + 1) 1 z A c 28 (0, 0) (by rw [← HB.out.2.1]; exact heap_alloc_new W _) ((R.below hbA).more hbA.size) (by omega)).mono ?_
  rintro _ W1 ⟨rfl, hb1⟩
  have hc : Below W.heap.size W W1 := ((Below.refl _ _).alloc (Nat.le_refl _) _).trans (hb1.mono (by simp))
  have hb3 := HB.out.1.trans (hc.mono HB.out.1.size)
  have a0 := (hc.cell (p := ⟨w.heap.size, 0, none⟩) (by show w.heap.size < _; have := HB.out.2.1; omega)).trans HB.out.2.2.1
  have a1 := (hc.cell (p := ⟨w.heap.size, 1, none⟩) (by show w.heap.size < _; have := HB.out.2.1; omega)).trans HB.out.2.2.2
  have H3 := Lib.hid hb3
  clear hb1 hc hb3 HB hbA
  go_wp2_with fail
  refine (short_any W1 _ A c (digs z.natAbs) ((R.below H3.out).more H3.out.size) hl).mono ?_
  rintro _ _ ⟨rfl, rfl⟩
  rw [val_digs]
  rcases Int.lt_or_le z 0 with hz | hz
  · rw [decide_eq_true hz] at a0
    have i1 : (z.natAbs : Int) ≤ 9223372036854775808 := by omega
    have i2 : IntKind.i64.wrap (IntKind.u64.wrap (-(z.natAbs : Int))) = z := by
      simp only [IntKind.wrap_i64, IntKind.wrap_u64]
      omega
    generalize z.natAbs = m at *
    go_wp2_with fail
    go_ret2
    exact ⟨rfl, H3.out⟩
  · rw [decide_eq_false (by omega)] at a0
    obtain ⟨m, rfl⟩ : ∃ m : Nat, z = (m : Int) := ⟨z.natAbs, by omega⟩
    rw [Int.natAbs_natCast] at *
    go_wp2_with fail
    go_ret2
    exact ⟨rfl, H3.out⟩

theorem sgnd_not {z : Int} : sgnd (!decide (z < 0)) z.natAbs = -z := by
  unfold sgnd
  by_cases h : z < 0
  · rw [decide_eq_true h]; simp; omega
  · rw [decide_eq_false h]; simp; omega

set_option maxRecDepth 100000 in
set_option maxHeartbeats 1000000 in
theorem negated_any (w : World) (a : Value) (z : Int) (ha : IsBig w a z) :
    Calls Tryd.prog 53 #[a] w fun e w' => ∃ v, e = .returned v ∧ IsBig w' v (-z) ∧ Below w.heap.size w w' := by
  obtain ⟨A, c, rfl, R⟩ := ha
  go_enter Tryd.func53, Tryd.ntmps53
  have hB : Box w ((w.alloc (.cells #[.bool (decide (z < 0)), .slice A (digs z.natAbs).length c] 28)).alloc (.cells #[.bool false, .slice none 0 0] 28)) (w.heap.size + 1) :=
    ⟨((Below.refl _ _).alloc (Nat.le_refl _) _).alloc (by simp) _, by omega, by simp, by simp [go_sem], by simp [go_sem], fun k => by simp [go_sem]⟩
  have HB := Lib.hid hB
  clear hB
  go_wp2_with fail
  refine (big_any _ (!decide (z < 0)) A c z.natAbs ((R.below HB.out.bel).more HB.out.bel.size)).mono ?_
  rintro _ W2 ⟨v2, rfl, hI, hb2⟩
  rw [sgnd_not] at hI
  have B2 := HB.out.after hb2
  obtain ⟨Z, hZ⟩ : ∃ Z, Z = -z := ⟨_, rfl⟩
  rw [← hZ] at hI
  have HZ := Lib.hid hZ
  clear hZ
  obtain ⟨A2, c2, rfl, R2⟩ := hI
  have r0 := B2.r0
  have r1 := B2.r1
  have f0 := B2.fr 0
  have f1 := B2.fr 1
  obtain ⟨e1, e2, e3, e4⟩ := B2.filled R2
  have HC := Lib.hid (And.intro e3 e4)
  have HE := Lib.hid (And.intro e1 e2)
  clear e1 e2 e3 e4 R2 B2 hb2 HB R
  go_wp2
  (try simp only [Exit.inBlock, Exit.then])
  refine bodyPost_ret (results_big1 rfl _ _ (w.heap.size + 1) rfl HC.out.1 HC.out.2) rfl ?_
  exact ⟨_, rfl, by rw [← HZ.out]; exact HE.out.1, HE.out.2⟩

end Go.Proofs.YtfnfnagdecpobaaDoor.ga
