/- Int, of any big integer: the program's and the reference's. -/
import Derived.Test.YtfnfnagdecpobaaDoorRa
import Derived.Test.YtfnfnagdecpobaaDoorRb
set_option linter.unusedSimpArgs false
set_option linter.unusedVariables false
namespace Go.Proofs.YtfnfnagdecpobaaDoor.rd
open Go.RowKit Go.Proofs.YtfnfnagdecpobaaDoor.fm Go.Proofs.YtfnfnagdecpobaaDoor.mem Go.Proofs.YtfnfnagdecpobaaDoor.fa Go.Proofs.YtfnfnagdecpobaaDoor.fb Go.Proofs.YtfnfnagdecpobaaDoor.fu Go.Proofs.YtfnfnagdecpobaaDoor.fv Go.Proofs.YtfnfnagdecpobaaDoor.fw Go.Proofs.YtfnfnagdecpobaaDoor.fx Go.Proofs.YtfnfnagdecpobaaDoor.fy Go.Proofs.YtfnfnagdecpobaaDoor.ga Go.Proofs.YtfnfnagdecpobaaDoor.jh Go.Proofs.YtfnfnagdecpobaaDoor.ra Go.Proofs.YtfnfnagdecpobaaDoor.rb

/-- An int, or 0. -/
def intV (z : Int) : Int := if -9223372036854775808 ≤ z ∧ z < 9223372036854775808 then z else 0
def intOk (z : Int) : Bool := decide (-9223372036854775808 ≤ z ∧ z < 9223372036854775808)

theorem ret2_eq {k : IntKind} {a b : Int} {v : Value} (h : a = b) : Ending.returned (.tuple #[.int k a, v]) = .returned (.tuple #[.int k b, v]) := by rw [h]

/-- What Int answers. -/
def Inted (w : World) (z : Int) (e : Ending) (w' : World) : Prop := e = .returned (.tuple #[.int .i64 (intV z), .bool (intOk z)]) ∧ Below w.heap.size w w'

theorem int_in {z : Int} (h1 : -9223372036854775808 ≤ z) (h2 : z < 9223372036854775808) : intV z = z ∧ intOk z = true := ⟨if_pos ⟨h1, h2⟩, decide_eq_true ⟨h1, h2⟩⟩
theorem int_no {z : Int} (h : ¬ (-9223372036854775808 ≤ z ∧ z < 9223372036854775808)) : intV z = 0 ∧ intOk z = false := ⟨if_neg h, decide_eq_false h⟩

set_option maxRecDepth 100000 in
set_option maxHeartbeats 4000000 in
theorem int_gen (w : World) (a : Value) (z : Int) (ha : IsBig w a z) (hl : (digs z.natAbs).length ≤ 256) :
    Calls Tryd.prog 22 #[a] w (Inted w z) := by
  by_cases hin : -9223372036854775808 ≤ z ∧ z < 9223372036854775808
  · obtain ⟨e1, e2⟩ := int_in hin.1 hin.2
    refine (int_any w a z ha hin.1 hin.2).mono ?_
    rintro _ w' ⟨rfl, hb⟩
    exact ⟨by rw [e1, e2], hb⟩
  · obtain ⟨e1, e2⟩ := int_no hin
    have HI := Lib.hid (And.intro e1 e2)
    clear e1 e2
    obtain ⟨A, c, rfl, R⟩ := ha
    go_enter Tryd.func22, Tryd.ntmps22
    have hb2 : Below w.heap.size w (w.alloc (.cells #[.bool (decide (z < 0)), .slice A (digs z.natAbs).length c] 28)) := (Below.refl _ _).alloc (Nat.le_refl _) _
    obtain ⟨W, hW⟩ : ∃ W, W = (w.alloc (.cells #[.bool (decide (z < 0)), .slice A (digs z.natAbs).length c] 28)) := ⟨_, rfl⟩
    have hsz : W.heap.size = w.heap.size + 1 := by rw [hW]; simp
    have k0 : W.cell? ⟨w.heap.size, 0, none⟩ = some (.bool (decide (z < 0))) := by rw [hW]; simp [go_sem]
    have k1 : W.cell? ⟨w.heap.size, 1, none⟩ = some (.slice A (digs z.natAbs).length c) := by rw [hW]; simp [go_sem]
    rw [← hW] at hb2
    have HB := Lib.hid (And.intro hb2 (And.intro hsz (And.intro k0 k1)))
    clear hb2 hsz k0 k1
    go_wp2_with fail
    rw [← hW]
    clear hW
    have hbA := HB.out.1.alloc HB.out.1.size (.cells #[.bool (decide (z < 0)), .slice A (digs z.natAbs).length c] 28)
    refine (valid1 (W.alloc _) (w.heap.size + 1) 1 z A c 28 (0, 0) (by rw [← HB.out.2.1]; exact heap_alloc_new W _) ((R.below hbA).more hbA.size) hl).mono ?_
    rintro _ W1 ⟨rfl, hb1⟩
    have hc : Below W.heap.size W W1 := ((Below.refl _ _).alloc (Nat.le_refl _) _).trans (hb1.mono (by simp))
    have hb3 := HB.out.1.trans (hc.mono HB.out.1.size)
    have a0 := (hc.cell (p := ⟨w.heap.size, 0, none⟩) (by show w.heap.size < _; have := HB.out.2.1; omega)).trans HB.out.2.2.1
    have a1 := (hc.cell (p := ⟨w.heap.size, 1, none⟩) (by show w.heap.size < _; have := HB.out.2.1; omega)).trans HB.out.2.2.2
    have H3 := Lib.hid hb3
    clear hb1 hc hb3 HB hbA
    by_cases h2 : 2 < (digs z.natAbs).length
    · clear hin
      go_wp2_with fail
      go_ret2
      exact ⟨by first | (rw [HI.out.1, HI.out.2]; done) | (rw [HI.out.1, HI.out.2]; rfl), H3.out⟩
    · have h2' : (digs z.natAbs).length ≤ 2 := by omega
      have hin' : 9223372036854775808 < z ∨ z < -9223372036854775808 ∨ z = 9223372036854775808 := by omega
      clear hin
      go_wp2_with fail
      refine (short_any W1 _ A c (digs z.natAbs) ((R.below H3.out).more H3.out.size) h2').mono ?_
      rintro _ _ ⟨rfl, rfl⟩
      rw [val_digs]
      rcases Int.lt_or_le z 0 with hz | hz
      · rw [decide_eq_true hz] at a0
        have i1 : ¬ (z.natAbs : Int) ≤ 9223372036854775808 := by omega
        generalize z.natAbs = m at *
        clear hin' hz
        go_wp2_with fail
        go_ret2
        exact ⟨by first | (rw [HI.out.1, HI.out.2]; done) | (rw [HI.out.1, HI.out.2]; rfl), H3.out⟩
      · rw [decide_eq_false (by omega)] at a0
        have i1 : decide ((z.natAbs : Int) < 9223372036854775808) = false := decide_eq_false (by omega)
        generalize z.natAbs = m at *
        clear hin' hz
        go_wp2_with fail
        go_ret2
        exact ⟨by first | (rw [HI.out.1, HI.out.2]; done) | (rw [HI.out.1, HI.out.2]; rfl), H3.out⟩

set_option maxRecDepth 100000 in
set_option maxHeartbeats 4000000 in
theorem rint_gen (w : World) (a : Value) (z : Int) (ha : IsBig w a z) (hl : (digs z.natAbs).length ≤ 256) :
    Calls Tryd.prog 23 #[a] w (Inted w z) := by
  obtain ⟨A, c, rfl, R⟩ := ha
  go_enter Tryd.func23, Tryd.ntmps23
  have hb2 : Below w.heap.size w (w.alloc (.cells #[.bool (decide (z < 0)), .slice A (digs z.natAbs).length c] 28)) := (Below.refl _ _).alloc (Nat.le_refl _) _
  obtain ⟨W, hW⟩ : ∃ W, W = (w.alloc (.cells #[.bool (decide (z < 0)), .slice A (digs z.natAbs).length c] 28)) := ⟨_, rfl⟩
  have hsz : W.heap.size = w.heap.size + 1 := by rw [hW]; simp
  have a0 : W.cell? ⟨w.heap.size, 0, none⟩ = some (.bool (decide (z < 0))) := by rw [hW]; simp [go_sem]
  have a1 : W.cell? ⟨w.heap.size, 1, none⟩ = some (.slice A (digs z.natAbs).length c) := by rw [hW]; simp [go_sem]
  rw [← hW] at hb2
  have HB := Lib.hid (And.intro hb2 (And.intro hsz (And.intro a0 a1)))
  clear hb2 hsz
  go_upto_region 1 with fail
  rw [← hW]
  clear hW
  go_wp2_with fail
  refine (rvalidBig_any W _ z ⟨A, c, rfl, (R.below HB.out.1).more HB.out.1.size⟩ hl).mono ?_
  rintro _ W1 ⟨rfl, hb1⟩
  have k0 := (hb1.cell (p := ⟨w.heap.size, 0, none⟩) (by show w.heap.size < _; have := HB.out.2.1; omega)).trans HB.out.2.2.1
  have k1 := (hb1.cell (p := ⟨w.heap.size, 1, none⟩) (by show w.heap.size < _; have := HB.out.2.1; omega)).trans HB.out.2.2.2
  have H3 := Lib.hid (HB.out.1.trans (hb1.mono HB.out.1.size))
  have R1 := (R.below H3.out).more H3.out.size
  clear hb1 HB a0 a1 R
  by_cases h2 : 2 < (digs z.natAbs).length
  · have hout : ¬ (-9223372036854775808 ≤ z ∧ z < 9223372036854775808) := fun hz => by
      have := (lt_len_iff z.natAbs 2).2 (by omega)
      omega
    obtain ⟨e1, e2⟩ := int_no hout
    have HI := Lib.hid (And.intro e1 e2)
    clear e1 e2 hout R1
    go_wp2_with fail
    go_ret2
    exact ⟨by first | (rw [HI.out.1, HI.out.2]; done) | (rw [HI.out.1, HI.out.2]; rfl), H3.out⟩
  · obtain ⟨l, hL⟩ : ∃ l, l = digs z.natAbs := ⟨_, rfl⟩
    rw [← hL] at k1 R1 h2
    have hv : val l = z.natAbs := by rw [hL, val_digs]
    have HV := Lib.hid hv
    clear hL hv hl
    have hfit := R1.fit
    have h2' : l.length ≤ 2 := by omega
    go_upto_region 5 with fail
    go_loopw [4, 5] (fun u i wr => ∃ (k : Nat) (t : Int), k ≤ l.length ∧ t = (k : Int) - 1 ∧ i = .int .i64 t ∧ u = .int .u64 ((val (l.drop k) : Nat) : Int) ∧ W1 = wr) (fun _ i _ => (intOf i + 1).toNat)
    case atStart => exact ⟨l.length, _, Nat.le_refl _, rfl, rfl, by rw [List.drop_of_length_le (Nat.le_refl _)]; rfl, rfl⟩
    case round =>
      obtain ⟨k, t, hk, ht, rfl, rfl, rfl⟩ := hrel
      rcases Nat.eq_zero_or_pos k with h0 | h0
      · subst h0
        obtain rfl : t = -1 := by omega
        rw [List.drop_zero, HV.out]
        obtain ⟨m, hm⟩ : ∃ m, m = z.natAbs := ⟨_, rfl⟩
        rw [← hm]
        have hm64 : m < 18446744073709551616 := by
          have := val_lt (l := l) R1.ok
          rw [hm, ← HV.out]
          have h3 : (4294967296 : Nat) ^ l.length ≤ 4294967296 ^ 2 := Nat.pow_le_pow_right (by decide) h2'
          omega
        have HM := Lib.hid hm
        clear hm k1 R1 hk hfit h2 h2' ht
        rcases Int.lt_or_le z 0 with hz | hz
        · rw [decide_eq_true hz] at k0
          by_cases hmz : (m : Int) ≤ 9223372036854775808
          · obtain ⟨e1, e2⟩ := int_in (z := z) (by have := HM.out; omega) (by omega)
            have e3 : IntKind.i64.wrap (-(IntKind.i64.wrap (m : Int))) = z := by
              have := HM.out
              simp only [IntKind.wrap_i64]
              omega
            have HI := Lib.hid (And.intro e1 (And.intro e2 (And.intro e3 hz)))
            clear e1 e2 e3 hz
            go_wp2_with fail
            go_ret2
            refine ⟨?_, H3.out⟩
            rw [HI.out.1, HI.out.2.1]
            refine ret2_eq ?_
            have h1 := HM.out
            have h2 := HI.out.2.2.2
            unfold wrap64
            omega
          · obtain ⟨e1, e2⟩ := int_no (z := z) (by have := HM.out; omega)
            have HI := Lib.hid (And.intro e1 e2)
            clear e1 e2 hz
            go_wp2_with fail
            go_ret2
            exact ⟨by first | (rw [HI.out.1, HI.out.2]; done) | (rw [HI.out.1, HI.out.2]; rfl), H3.out⟩
        · rw [decide_eq_false (by omega)] at k0
          by_cases hmz : (9223372036854775808 : Int) ≤ (m : Int)
          · obtain ⟨e1, e2⟩ := int_no (z := z) (by have := HM.out; omega)
            have HI := Lib.hid (And.intro e1 e2)
            clear e1 e2 hz
            go_wp2_with fail
            go_ret2
            exact ⟨by first | (rw [HI.out.1, HI.out.2]; done) | (rw [HI.out.1, HI.out.2]; rfl), H3.out⟩
          · obtain ⟨e1, e2⟩ := int_in (z := z) (by omega) (by have := HM.out; omega)
            have e3 : (m : Int) = z := by have := HM.out; omega
            have HI := Lib.hid (And.intro e1 (And.intro e2 e3))
            clear e1 e2 e3 hz
            go_wp2_with fail
            go_ret2
            exact ⟨by first | (rw [HI.out.1, HI.out.2.1, ← HI.out.2.2]; done) | (rw [HI.out.1, HI.out.2.1, ← HI.out.2.2]; rfl), H3.out⟩
      · obtain ⟨j, rfl⟩ : ∃ j, k = j + 1 := ⟨k - 1, by omega⟩
        obtain rfl : t = (j : Int) := by omega
        obtain ⟨b', off, rfl, hb', hc⟩ := R1.cells (by omega)
        have c1 := hc j (by omega)
        have HC := Lib.hid hc
        clear hc
        have hx := ok_getD R1.ok j
        have hd := val_drop l j (by omega)
        obtain ⟨x, hxx⟩ : ∃ x, x = l.getD j 0 := ⟨_, rfl⟩
        rw [← hxx] at c1 hx hd
        have hu : val (l.drop (j + 1)) < 4294967296 := by
          have h3 := val_lt (l := l.drop (j + 1)) (ok_drop R1.ok _)
          have h4 : (l.drop (j + 1)).length ≤ 1 := by rw [List.length_drop]; omega
          have h5 : (4294967296 : Nat) ^ (l.drop (j + 1)).length ≤ 4294967296 ^ 1 := Nat.pow_le_pow_right (by decide) h4
          omega
        obtain ⟨u, huu⟩ : ∃ u, u = val (l.drop (j + 1)) := ⟨_, rfl⟩
        rw [← huu] at hu hd ⊢
        obtain ⟨T, hT⟩ : ∃ T : Nat, T = x + 4294967296 * u := ⟨_, rfl⟩
        have t1 : bits .or .u64 ((u : Int) * 4294967296) (x : Int) = (T : Int) := by rw [hT]; exact or_join' x u hx hu
        rw [← hT] at hd
        have HD := Lib.hid hd
        have hjl : (j : Int) < (l.length : Int) := by omega
        clear hd hT huu hxx ht
        go_wp2_with fail
        go_roundw
        case rel => exact ⟨j, (j : Int) - 1, by omega, rfl, by go_num, congrArg (Value.int .u64) (by rw [HD.out]), trivial⟩
        case measure => simp [intOf]

end Go.Proofs.YtfnfnagdecpobaaDoor.rd
