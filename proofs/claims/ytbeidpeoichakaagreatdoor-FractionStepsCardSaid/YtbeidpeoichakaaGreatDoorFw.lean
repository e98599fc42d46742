/- fraction: product, compare, limited. -/
import Derived.Test.YtbeidpeoichakaaGreatDoorFu
set_option linter.unusedSimpArgs false
namespace Go.Proofs.YtbeidpeoichakaaGreatDoor.fw
open Go.RowKit Go.Proofs.YtbeidpeoichakaaGreatDoor.fm Go.Proofs.YtbeidpeoichakaaGreatDoor.mem Go.Proofs.YtbeidpeoichakaaGreatDoor.fa Go.Proofs.YtbeidpeoichakaaGreatDoor.fb Go.Proofs.YtbeidpeoichakaaGreatDoor.fc Go.Proofs.YtbeidpeoichakaaGreatDoor.fd Go.Proofs.YtbeidpeoichakaaGreatDoor.fe Go.Proofs.YtbeidpeoichakaaGreatDoor.fq Go.Proofs.YtbeidpeoichakaaGreatDoor.fr Go.Proofs.YtbeidpeoichakaaGreatDoor.fu Go.Proofs.YtbeidpeoichakaaGreatDoor.fv

theorem sgnd_mul {x y : Int} {n n' : Bool} (h : decide (x < 0) = n) (h' : decide (y < 0) = n') : sgnd (n != n') (val (digs x.natAbs) * val (digs y.natAbs)) = x * y := by
  rw [val_digs, val_digs]
  have e := Int.natAbs_mul x y
  rw [← e]
  unfold sgnd
  cases n <;> cases n' <;> simp at h h' ⊢
  · rw [Int.natAbs_of_nonneg (Int.mul_nonneg h h')]
  · have := Int.mul_nonpos_of_nonneg_of_nonpos h (Int.le_of_lt h')
    rw [Int.ofNat_natAbs_of_nonpos this]; omega
  · have := Int.mul_nonpos_of_nonpos_of_nonneg (Int.le_of_lt h) h'
    rw [Int.ofNat_natAbs_of_nonpos this]; omega
  · rw [Int.natAbs_of_nonneg (Int.mul_nonneg_of_nonpos_of_nonpos (Int.le_of_lt h) (Int.le_of_lt h'))]

theorem below_drewN {B : Nat} {w w' : World} (h : Below B w w') (k : Nat) : Below B w (w'.drewN k) := ⟨h.os, h.tape, h.output, h.size, h.block⟩

set_option maxRecDepth 100000 in
set_option maxHeartbeats 1000000 in
theorem product_any (w : World) (a b : Value) (x y : Int) (ha : IsBig w a x) (hb : IsBig w b y) (hl : (digs x.natAbs).length ≤ 400000) (hl' : (digs y.natAbs).length ≤ 400000) :
    Calls Tryz.prog 43 #[a, b] w fun e w' => ∃ v, e = .returned v ∧ IsBig w' v (x * y) ∧ Below w.heap.size w w' := by
  obtain ⟨A, c, rfl, R⟩ := ha
  obtain ⟨A', c', rfl, R'⟩ := hb
  go_enter Tryz.func43, Tryz.ntmps43
  generalize hneg : decide (x < 0) = n at *
  generalize hneg' : decide (y < 0) = n' at *
  have HN := Lib.hid (And.intro hneg hneg')
  clear hneg hneg'
  have hB := boxes_made w n n' (.slice A (digs x.natAbs).length c) (.slice A' (digs y.natAbs).length c')
  obtain ⟨W, hW⟩ : ∃ W, W = (((w.alloc (.cells #[.bool n, .slice A (digs x.natAbs).length c] 28)).alloc (.cells #[.bool n', .slice A' (digs y.natAbs).length c'] 28)).alloc (.cells #[.bool false, .slice none 0 0] 28)) := ⟨_, rfl⟩
  rw [← hW] at hB
  go_wp2_with fail
  rw [← hW]
  clear hW
  have HB := Lib.hid hB
  have HW := Lib.hid hB.drew
  have a0 := hB.a0
  have a1 := hB.a1
  have b0 := hB.b0
  have b1 := hB.b1
  clear hB
  go_region_held3 (fun w' => w'.cell? ⟨w.heap.size, 0, none⟩ = some (.bool n) ∧ w'.cell? ⟨w.heap.size, 1, none⟩ = some (.slice A (digs x.natAbs).length c) ∧ w'.cell? ⟨w.heap.size + 1, 0, none⟩ = some (.bool n') ∧ w'.cell? ⟨w.heap.size + 1, 1, none⟩ = some (.slice A' (digs y.natAbs).length c')) (first | exact H2.out.held4 | exact H1.out.held4 | exact HB.out.held4 | exact HW.out.held4 | (obtain ⟨q1, q2, q3, q4⟩ := H2.out.held4; refine ⟨?_, ?_, ?_, ?_⟩ <;> simp [go_sem, q1, q2, q3, q4]))
    (first
      | (go_at_call 44; refine (mulWords_any _ A A' c c' _ _ (HW.out.rd R) (HW.out.rd R') (by omega) (by omega)).mono ?_; rintro _ w1 ⟨v1, rfl, hO, hb1⟩
         obtain ⟨A1, c1, rfl, R1⟩ := own_rd hO (ok_digs _)
         have H1 := Lib.hid (HW.out.after hb1)
         clear hO hb1)
      | (go_at_call 50; refine (big_any w1 (n != n') A1 c1 _ R1).mono ?_; rintro _ w2 ⟨v2, rfl, hI, hb2⟩
         rw [sgnd_mul HN.out.1 HN.out.2] at hI
         have h2 := H1.out.after hb2
         have H2 := Lib.hid h2
         have r0 := h2.r0
         have r1 := h2.r1
         have f0 := h2.fr (w.heap.size + 1 + 1) 0 (by omega) (by omega)
         have f1 := h2.fr (w.heap.size + 1 + 1) 1 (by omega) (by omega)
         obtain ⟨A5, c5, rfl, R5⟩ := hI
         clear h2 hb2))
  obtain ⟨e1, e2, e3, e4⟩ := H2.out.filled R5
  have HC := Lib.hid (And.intro e3 e4)
  have HE := Lib.hid (And.intro e1 e2)
  clear e1 e2 e3 e4 R5 R1 H1 HB HW a0 a1 b0 b1
  go_wp2
  (try simp only [Exit.inBlock, Exit.then])
  refine bodyPost_ret (results_big rfl _ _ (w.heap.size + 1 + 1) rfl HC.out.1 HC.out.2) rfl ?_
  exact ⟨_, rfl, HE.out.1, HE.out.2⟩

/-- The order of two integers. -/
def order (x y : Int) : Int := if x < y then -1 else if y < x then 1 else 0

theorem cmp_order (m n : Nat) : cmp m n = order m n := by unfold cmp order; simp

set_option maxRecDepth 100000 in
set_option maxHeartbeats 1000000 in
theorem compare_any (w : World) (a b : Value) (x y : Int) (ha : IsBig w a x) (hb : IsBig w b y) (hl : (digs x.natAbs).length ≤ 400000) (hl' : (digs y.natAbs).length ≤ 400000) :
    Calls Tryz.prog 51 #[a, b] w fun e w' => e = .returned (.int .i64 (order x y)) ∧ Below w.heap.size w w' := by
  obtain ⟨A, c, rfl, R⟩ := ha
  obtain ⟨A', c', rfl, R'⟩ := hb
  go_enter Tryz.func51, Tryz.ntmps51
  have hb2 : ∀ n s n' s', Below w.heap.size w ((w.alloc (.cells #[n, s] 28)).alloc (.cells #[n', s'] 28)) := fun _ _ _ _ => ((Below.refl _ _).alloc (Nat.le_refl _) _).alloc (by simp) _
  have HB := Lib.hid hb2
  clear hb2
  rcases Int.lt_or_le x 0 with hx | hx
  · rcases Int.lt_or_le y 0 with hy | hy
    · rw [decide_eq_true hx, decide_eq_true hy]
      have hbb := HB.out (.bool true) (.slice A' (digs y.natAbs).length c') (.bool true) (.slice A (digs x.natAbs).length c)
      have e : order x y = cmp y.natAbs x.natAbs := by rw [cmp_order]; unfold order; split <;> split <;> first | rfl | omega | (split <;> first | rfl | omega)
      have E := Lib.hid (And.intro hbb e)
      clear hbb e
      go_wp2_with fail
      refine (cmpWords_any _ _ A' A c' c _ _ ((R'.below E.out.1).more E.out.1.size) ((R.below E.out.1).more E.out.1.size) (by omega) (by omega)).mono ?_
      rintro _ _ ⟨rfl, k, rfl⟩
      go_wp2_with fail
      go_ret
      exact ⟨ret_int E.out.2.symm, below_drewN E.out.1 k⟩
    · rw [decide_eq_true hx, decide_eq_false (by omega)]
      have e : order x y = -1 := by unfold order; rw [if_pos (by omega)]
      have E := Lib.hid e
      clear e
      go_wp2_with fail
      go_ret
      exact ⟨ret_int E.out.symm, HB.out _ _ _ _⟩
  · rcases Int.lt_or_le y 0 with hy | hy
    · rw [decide_eq_false (by omega), decide_eq_true hy]
      have e : order x y = 1 := by unfold order; rw [if_neg (by omega), if_pos (by omega)]
      have E := Lib.hid e
      clear e
      go_wp2_with fail
      go_ret
      exact ⟨ret_int E.out.symm, HB.out _ _ _ _⟩
    · rw [decide_eq_false (show ¬ x < 0 by omega), decide_eq_false (show ¬ y < 0 by omega)]
      have hbb := HB.out (.bool false) (.slice A (digs x.natAbs).length c) (.bool false) (.slice A' (digs y.natAbs).length c')
      have e : order x y = cmp x.natAbs y.natAbs := by rw [cmp_order]; unfold order; split <;> split <;> first | rfl | omega | (split <;> first | rfl | omega)
      have E := Lib.hid (And.intro hbb e)
      clear hbb e
      go_wp2_with fail
      refine (cmpWords_any _ _ A A' c c' _ _ ((R.below E.out.1).more E.out.1.size) ((R'.below E.out.1).more E.out.1.size) (by omega) (by omega)).mono ?_
      rintro _ _ ⟨rfl, k, rfl⟩
      go_wp2_with fail
      go_ret
      exact ⟨ret_int E.out.2.symm, below_drewN E.out.1 k⟩

end Go.Proofs.YtbeidpeoichakaaGreatDoor.fw

/- fraction: limited, and what two valid numbers are to validBigs. -/
set_option linter.unusedSimpArgs false
namespace Go.Proofs.YtbeidpeoichakaaGreatDoor.fx
open Go.RowKit Go.Proofs.YtbeidpeoichakaaGreatDoor.fm Go.Proofs.YtbeidpeoichakaaGreatDoor.mem Go.Proofs.YtbeidpeoichakaaGreatDoor.fa Go.Proofs.YtbeidpeoichakaaGreatDoor.fb Go.Proofs.YtbeidpeoichakaaGreatDoor.fu Go.Proofs.YtbeidpeoichakaaGreatDoor.fv Go.Proofs.YtbeidpeoichakaaGreatDoor.fw

theorem good_big {z : Int} (h : (digs z.natAbs).length ≤ 256) : good (decide (z < 0)) (digs z.natAbs) = true := by
  unfold good
  rw [decide_eq_true h]
  by_cases h0 : z = 0
  · subst h0; rw [show (0 : Int).natAbs = 0 from rfl, digs_zero]; rfl
  · have hn : z.natAbs ≠ 0 := by omega
    have hl : (digs z.natAbs).length ≠ 0 := fun e => hn (digs_len_zero.1 e)
    rcases nrm_digs z.natAbs with e | e
    · rw [e] at hl; simp at hl
    · rw [decide_eq_false hl, decide_eq_false e]; simp

theorem valid2 (W : World) (g cap : Nat) (x y : Int) (A A' : Option Addr) (c c' : Nat) (ty : TypeId) (fr : Nat × Nat)
    (hg : W.heap[g]? = some (.cells #[.bool (decide (x < 0)), .slice A (digs x.natAbs).length c, .bool (decide (y < 0)), .slice A' (digs y.natAbs).length c'] ty fr))
    (R : Rd W W.heap.size A c (digs x.natAbs)) (R' : Rd W W.heap.size A' c' (digs y.natAbs)) (hl : (digs x.natAbs).length ≤ 256) (hl' : (digs y.natAbs).length ≤ 256) :
    Calls Tryz.prog 57 #[.slice (some ⟨g, 0, none⟩) 2 cap] W fun e w' => e = .returned (.bool true) ∧ Below W.heap.size W w' := by
  have hlt : g < W.heap.size := (Array.getElem?_eq_some_iff.1 hg).1
  have h := validBigs_any W g cap [(decide (x < 0), digs x.natAbs), (decide (y < 0), digs y.natAbs)] hlt (by simp) (fun k hk => by
    obtain rfl | rfl : k = 0 ∨ k = 1 := by simp at hk; omega
    · exact ⟨A, c, by rw [cell_of_row W g (0 * 2) _ ty fr hg]; rfl, by rw [cell_of_row W g (0 * 2 + 1) _ ty fr hg]; rfl, R⟩
    · exact ⟨A', c', by rw [cell_of_row W g (1 * 2) _ ty fr hg]; rfl, by rw [cell_of_row W g (1 * 2 + 1) _ ty fr hg]; rfl, R'⟩)
  refine h.mono fun e w' he => ⟨?_, he.2⟩
  rw [he.1]
  simp [good_big hl, good_big hl']

theorem valid1 (W : World) (g cap : Nat) (x : Int) (A : Option Addr) (c : Nat) (ty : TypeId) (fr : Nat × Nat)
    (hg : W.heap[g]? = some (.cells #[.bool (decide (x < 0)), .slice A (digs x.natAbs).length c] ty fr))
    (R : Rd W W.heap.size A c (digs x.natAbs)) (hl : (digs x.natAbs).length ≤ 256) :
    Calls Tryz.prog 57 #[.slice (some ⟨g, 0, none⟩) 1 cap] W fun e w' => e = .returned (.bool true) ∧ Below W.heap.size W w' := by
  have hlt : g < W.heap.size := (Array.getElem?_eq_some_iff.1 hg).1
  have h := validBigs_any W g cap [(decide (x < 0), digs x.natAbs)] hlt (by simp) (fun k hk => by
    obtain rfl : k = 0 := by simp at hk; omega
    exact ⟨A, c, by rw [cell_of_row W g (0 * 2) _ ty fr hg]; rfl, by rw [cell_of_row W g (0 * 2 + 1) _ ty fr hg]; rfl, R⟩)
  refine h.mono fun e w' he => ⟨?_, he.2⟩
  rw [he.1]
  simp [good_big hl]

/-- A number that is not too long, or 0. -/
def lim (z : Int) : Int := if (digs z.natAbs).length ≤ 256 then z else 0
/-- .. and its error. -/
def lerr (z : Int) : Int := if (digs z.natAbs).length ≤ 256 then 0 else 3

def Limited (w : World) (z : Int) (e : Ending) (w' : World) : Prop :=
  ∃ v, e = .returned (.tuple #[v, .int .i64 (lerr z)]) ∧ IsBig w' v (lim z) ∧ Below w.heap.size w w'

theorem isBig_zero (w : World) : IsBig w (.agg #[.bool false, .slice none 0 0]) 0 :=
  ⟨none, 0, by rw [show (0 : Int).natAbs = 0 from rfl, digs_zero]; rfl, by rw [show (0 : Int).natAbs = 0 from rfl, digs_zero]; exact Rd.nil _ _ _ _⟩

theorem results_big2 {fn : Func} {p u : Tmp} (h : fn.results = #[.cell p 28, .tmp u]) (tmps : Array Value) (w : World) (g : Nat) {v0 v1 : Value} (hp : tmps.getD p undef = .pointer (some ⟨g, 0, none⟩))
    (c0 : w.cell? ⟨g, 0, none⟩ = some v0) (c1 : w.cell? ⟨g, 1, none⟩ = some v1) : (results fn tmps).run Tryz.prog w = .ok (.tuple #[.agg #[v0, v1], tmps.getD u undef]) w := by
  have hp' : tmps[p]?.getD undef = .pointer (some ⟨g, 0, none⟩) := by simpa using hp
  simp [results, h, hp', asAddr, go_sem, c0, c1]

/-- What AddBig, SubBig and MulBig do behind their test. -/
theorem boxes_last {w W : World} {n n' : Bool} {s s' : Value} (B : Boxes w W n n' s s') : W.cell? ⟨w.heap.size + 1 + 1, 0, none⟩ = some (.bool false) ∧ W.cell? ⟨w.heap.size + 1 + 1, 1, none⟩ = some (.slice none 0 0) ∧ W.frozen? ⟨w.heap.size + 1 + 1, 0, none⟩ = false ∧ W.frozen? ⟨w.heap.size + 1 + 1, 1, none⟩ = false :=
  ⟨B.r0, B.r1, B.fr _ 0 (by omega) (by omega), B.fr _ 1 (by omega) (by omega)⟩

end Go.Proofs.YtbeidpeoichakaaGreatDoor.fx
