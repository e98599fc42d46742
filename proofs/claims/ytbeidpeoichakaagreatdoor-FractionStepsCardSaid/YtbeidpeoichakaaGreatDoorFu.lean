/- fraction: big integers as values; big, validBigs. -/
import Derived.Test.YtbeidpeoichakaaGreatDoorFs
import Derived.Handy
namespace Go.Proofs.YtbeidpeoichakaaGreatDoor.fu
open Go.RowKit Go.Proofs.YtbeidpeoichakaaGreatDoor.fm Go.Proofs.YtbeidpeoichakaaGreatDoor.mem Go.Proofs.YtbeidpeoichakaaGreatDoor.fa Go.Proofs.YtbeidpeoichakaaGreatDoor.fb Go.Proofs.YtbeidpeoichakaaGreatDoor.fc Go.Proofs.YtbeidpeoichakaaGreatDoor.fd Go.Proofs.YtbeidpeoichakaaGreatDoor.fh Go.Proofs.YtbeidpeoichakaaGreatDoor.fi Go.Proofs.YtbeidpeoichakaaGreatDoor.fj Go.Proofs.YtbeidpeoichakaaGreatDoor.fq Go.Proofs.YtbeidpeoichakaaGreatDoor.fr Go.Proofs.YtbeidpeoichakaaGreatDoor.fs

/-- A value that is the integer z, valid in form. -/
def IsBig (w : World) (v : Value) (z : Int) : Prop :=
  ∃ A c, v = .agg #[.bool (decide (z < 0)), .slice A (digs z.natAbs).length c] ∧ Rd w w.heap.size A c (digs z.natAbs)

theorem IsBig.below {w w' : World} {v : Value} {z : Int} (h : IsBig w v z) (hb : Below w.heap.size w w') : IsBig w' v z := by
  obtain ⟨A, c, e, R⟩ := h
  exact ⟨A, c, e, (R.below hb).more hb.size⟩

/-- The integer of a sign and a size. -/
def sgnd (neg : Bool) (m : Nat) : Int := if neg then -(m : Int) else m
theorem sgnd_abs (neg : Bool) (m : Nat) : (sgnd neg m).natAbs = m := by unfold sgnd; cases neg <;> simp
theorem sgnd_neg (neg : Bool) (m : Nat) (h : m ≠ 0) : decide (sgnd neg m < 0) = neg := by
  unfold sgnd
  cases neg
  · simp
  · simp; omega
theorem sgnd_zero (neg : Bool) : sgnd neg 0 = 0 := by unfold sgnd; cases neg <;> rfl

set_option maxRecDepth 100000 in
set_option maxHeartbeats 1000000 in
theorem big_any (w : World) (neg : Bool) (A : Option Addr) (c m : Nat) (R : Rd w w.heap.size A c (digs m)) :
    Calls Tryz.prog 50 #[.bool neg, .slice A (digs m).length c] w fun e w' => ∃ v, e = .returned v ∧ IsBig w' v (sgnd neg m) ∧ Below w.heap.size w w' := by
  go_enter Tryz.func50, Tryz.ntmps50
  by_cases h0 : m = 0
  · subst h0
    have hz : (digs 0).length = 0 := by rw [digs_zero]; rfl
    rw [hz]
    clear hz
    go_wp2_with fail
    go_returns
    refine ⟨_, rfl, ⟨none, 0, ?_, ?_⟩, (Below.refl _ _).alloc (Nat.le_refl _) _⟩
    · rw [sgnd_zero, show (0 : Int).natAbs = 0 from rfl, digs_zero]; rfl
    · rw [sgnd_zero, show (0 : Int).natAbs = 0 from rfl, digs_zero]; exact Rd.nil _ _ _ _
  · have hz : ¬ (digs m).length = 0 := fun e => h0 (digs_len_zero.1 e)
    go_wp2_with fail
    go_returns
    have hb : Below w.heap.size w (w.alloc (.cells #[.bool neg, .slice A (digs m).length c] 28)) := (Below.refl _ _).alloc (Nat.le_refl _) _
    refine ⟨_, rfl, ⟨A, c, ?_, ?_⟩, hb⟩
    · rw [sgnd_abs, sgnd_neg neg m h0]
    · rw [sgnd_abs]; exact (R.below hb).more hb.size

/-- Whether a sign and words are a valid big integer. -/
def good (neg : Bool) (l : List Nat) : Bool := decide (l.length ≤ 256) && !(decide (l.length = 0) && neg) && !(decide (0 < l.length) && decide (l.getD (l.length - 1) 0 = 0))

theorem good_long {neg : Bool} {l : List Nat} (h : 256 < l.length) : good neg l = false := by unfold good; rw [decide_eq_false (by omega)]; rfl

theorem good_last {neg : Bool} {l : List Nat} {t : Nat} (h : l.length = t + 1) (h1 : t < 256) (h3 : ¬ l.getD t 0 = 0) : good neg l = true := by
  unfold good
  rw [h, Nat.add_sub_cancel, decide_eq_true (show t + 1 ≤ 256 by omega), decide_eq_false (show ¬ t + 1 = 0 by omega), decide_eq_false h3]
  simp

theorem all_bad {es : List (Bool × List Nat)} {k : Nat} {x : Bool × List Nat} (hk : k < es.length) (hx : es[k] = x) (hg : good x.1 x.2 = false) : (es.all fun x => good x.1 x.2) = false := by
  rw [List.all_eq_false]
  exact ⟨x, by rw [← hx]; exact List.getElem_mem hk, by rw [hg]; decide⟩

theorem all_good {es : List (Bool × List Nat)} {k : Nat} {x : Bool × List Nat} (hk : k < es.length) (hx : es[k] = x) (h : ((es.take k).all fun x => good x.1 x.2) = true) (hg : good x.1 x.2 = true) : ((es.take (k + 1)).all fun x => good x.1 x.2) = true := by
  rw [List.take_succ_eq_append_getElem hk, List.all_append, h, hx]
  simp [hg]

/-- What lies at an entry of a row of big integers. -/
structure Ent (w : World) (B g k : Nat) (x : Bool × List Nat) : Prop where
  it : ∃ A c, w.cell? ⟨g, k * 2, none⟩ = some (.bool x.1) ∧ w.cell? ⟨g, k * 2 + 1, none⟩ = some (.slice A x.2.length c) ∧ Rd w B A c x.2

set_option maxRecDepth 100000 in
set_option maxHeartbeats 1000000 in
theorem validBigs_any (w : World) (g cap : Nat) (es : List (Bool × List Nat)) (hg : g < w.heap.size) (hes : es.length ≤ 100) (h : ∀ k, (hk : k < es.length) → Ent w w.heap.size g k es[k]) :
    Calls Tryz.prog 57 #[.slice (some ⟨g, 0, none⟩) es.length cap] w fun e w' => e = .returned (.bool (es.all fun x => good x.1 x.2)) ∧ Below w.heap.size w w' := by
  have H := Lib.hid h
  clear h
  go_enter Tryz.func57, Tryz.ntmps57
  go_wp2
  go_loopw [8] (fun i wr => ∃ k : Nat, k ≤ es.length ∧ i = .int .i64 k ∧ Below w.heap.size w wr ∧ (es.take k).all (fun x => good x.1 x.2) = true) (fun i _ => es.length - (intOf i).toNat)
  case atStart => exact ⟨0, Nat.zero_le _, rfl, Below.refl _ _, by simp⟩
  case round =>
    obtain ⟨k, hk, rfl, hb, hall⟩ := hrel
    have HB := Lib.hid (And.intro hb hall)
    clear hb hall
    by_cases hkx : k < es.length
    · obtain ⟨A, c, c1, c2, R⟩ := (H.out k hkx).it
      have c1' := (HB.out.1.cell (p := ⟨g, k * 2, none⟩) hg).trans c1
      have c2' := (HB.out.1.cell (p := ⟨g, k * 2 + 1, none⟩) hg).trans c2
      generalize hx : es[k] = x at *
      obtain ⟨neg, l⟩ := x
      dsimp only at c1' c2' R
      clear c1 c2
      have lb := R.fit
      have HE := Lib.hid (HB.out.1.alloc HB.out.1.size (.cells #[.bool neg, .slice A l.length c] 28))
      by_cases h1 : 256 < l.length
      · go_wp2_with fail
        go_returns
        exact ⟨ret_eq (congrArg Value.bool (all_bad hkx hx (good_long h1)).symm), HE.out⟩
      · by_cases h2 : l.length = 0
        · cases neg
          · have hgd : good false l = true := by unfold good; rw [h2]; simp
            have HT := Lib.hid (all_good hkx hx HB.out.2 hgd)
            rw [h2] at c2' HE
            clear h1 hx hgd h2
            go_wp2_with fail
            exact ⟨⟨k + 1, by omega, by go_num, HE.out, HT.out⟩, by simp [intOf]; omega⟩
          · have hgd : good true l = false := by unfold good; rw [h2]; simp
            rw [h2] at c2' HE
            clear h1 h2
            go_wp2_with fail
            go_returns
            exact ⟨ret_eq (congrArg Value.bool (all_bad hkx hx hgd).symm), HE.out⟩
        · obtain ⟨b, off, rfl, hbb, hc⟩ := R.cells (by omega)
          have hokk := R.ok
          clear R
          obtain ⟨t, ht⟩ : ∃ t, l.length = t + 1 := ⟨l.length - 1, by omega⟩
          have c3 := (HE.out.cell (p := ⟨b, off + t, none⟩) hbb).trans (hc t (by omega))
          rw [ht] at c3
          have hxx := ok_getD hokk t
          by_cases h3 : l.getD t 0 = 0
          · have hgd : good neg l = false := by unfold good; rw [ht, Nat.add_sub_cancel, h3]; simp
            rw [ht] at c2' HE lb
            rw [h3] at c3
            have htt : t < 256 := by omega
            clear h1 h2 hc hokk h3 ht
            go_wp2_with fail
            go_returns
            exact ⟨ret_eq (congrArg Value.bool (all_bad hkx hx hgd).symm), HE.out⟩
          · have hgd : good neg l = true := good_last ht (by omega) h3
            have HT := Lib.hid (all_good hkx hx HB.out.2 hgd)
            rw [ht] at c2' HE lb
            have htt : t < 256 := by omega
            generalize l.getD t 0 = xx at *
            have z : ((xx : Int) == 0) = false := beq_eq_false_iff_ne.2 (by omega)
            clear h1 h2 hc hokk ht hx
            go_wp2_with fail
            exact ⟨⟨k + 1, by omega, by go_num, HE.out, HT.out⟩, by simp [intOf]; omega⟩
    · obtain rfl : k = es.length := by omega
      have ha := HB.out.2
      rw [List.take_length] at ha
      have HA := Lib.hid ha
      clear ha
      go_wp2_with fail
      go_returns
      exact ⟨ret_eq (congrArg Value.bool HA.out.symm), HB.out.1⟩

end Go.Proofs.YtbeidpeoichakaaGreatDoor.fu

/- fraction: sum, product, compare. -/
set_option linter.unusedSimpArgs false
namespace Go.Proofs.YtbeidpeoichakaaGreatDoor.fv
open Go.RowKit Go.Proofs.YtbeidpeoichakaaGreatDoor.fm Go.Proofs.YtbeidpeoichakaaGreatDoor.mem Go.Proofs.YtbeidpeoichakaaGreatDoor.fa Go.Proofs.YtbeidpeoichakaaGreatDoor.fb Go.Proofs.YtbeidpeoichakaaGreatDoor.fc Go.Proofs.YtbeidpeoichakaaGreatDoor.fd Go.Proofs.YtbeidpeoichakaaGreatDoor.fe Go.Proofs.YtbeidpeoichakaaGreatDoor.fq Go.Proofs.YtbeidpeoichakaaGreatDoor.fr Go.Proofs.YtbeidpeoichakaaGreatDoor.fu

/-- Two parameters and a result in boxes of their own. -/
structure Boxes (w W : World) (n n' : Bool) (s s' : Value) : Prop where
  bel : Below w.heap.size w W
  size : w.heap.size + 3 ≤ W.heap.size
  a0 : W.cell? ⟨w.heap.size, 0, none⟩ = some (.bool n)
  a1 : W.cell? ⟨w.heap.size, 1, none⟩ = some s
  b0 : W.cell? ⟨w.heap.size + 1, 0, none⟩ = some (.bool n')
  b1 : W.cell? ⟨w.heap.size + 1, 1, none⟩ = some s'
  r0 : W.cell? ⟨w.heap.size + 1 + 1, 0, none⟩ = some (.bool false)
  r1 : W.cell? ⟨w.heap.size + 1 + 1, 1, none⟩ = some (.slice none 0 0)
  fr : ∀ g k, w.heap.size ≤ g → g ≤ w.heap.size + 1 + 1 → W.frozen? ⟨g, k, none⟩ = false

theorem below_frozen {B : Nat} {w w' : World} (h : Below B w w') {p : Addr} (hp : p.block < B) : w'.frozen? p = w.frozen? p := World.frozen?_of_block (h.block p.block hp)

theorem boxes_made (w : World) (n n' : Bool) (s s' : Value) :
    Boxes w (((w.alloc (.cells #[.bool n, s] 28)).alloc (.cells #[.bool n', s'] 28)).alloc (.cells #[.bool false, .slice none 0 0] 28)) n n' s s' := by
  refine ⟨(((Below.refl _ _).alloc (Nat.le_refl _) _).alloc (by simp) _).alloc (by simp; omega) _, by simp, ?_, ?_, ?_, ?_, ?_, ?_, ?_⟩
  · simp [go_sem]
  · simp [go_sem]
  · simp [go_sem]
  · simp [go_sem]
  · simp [go_sem]
  · simp [go_sem]
  · intro g k h1 h2
    obtain rfl | rfl | rfl : g = w.heap.size ∨ g = w.heap.size + 1 ∨ g = w.heap.size + 1 + 1 := by omega
    · simp [go_sem]
    · simp [go_sem]
    · simp [go_sem]

theorem Boxes.after {w W w' : World} {n n' : Bool} {s s' : Value} (B : Boxes w W n n' s s') (h : Below W.heap.size W w') : Boxes w w' n n' s s' := by
  have hs := B.size
  refine ⟨B.bel.trans (h.mono B.bel.size), Nat.le_trans hs h.size, ?_, ?_, ?_, ?_, ?_, ?_, ?_⟩
  · exact (h.cell (by show w.heap.size < _; omega)).trans B.a0
  · exact (h.cell (by show w.heap.size < _; omega)).trans B.a1
  · exact (h.cell (by show w.heap.size + 1 < _; omega)).trans B.b0
  · exact (h.cell (by show w.heap.size + 1 < _; omega)).trans B.b1
  · exact (h.cell (by show w.heap.size + 1 + 1 < _; omega)).trans B.r0
  · exact (h.cell (by show w.heap.size + 1 + 1 < _; omega)).trans B.r1
  · intro g k h1 h2
    exact (below_frozen h (by show g < _; omega)).trans (B.fr g k h1 h2)

theorem Boxes.drew {w W : World} {n n' : Bool} {s s' : Value} (B : Boxes w W n n' s s') : Boxes w W.drew n n' s s' := B.after (Below.refl _ _).drew

theorem Boxes.rd {w W : World} {n n' : Bool} {s s' : Value} (B : Boxes w W n n' s s') {A : Option Addr} {c : Nat} {l : List Nat} (R : Rd w w.heap.size A c l) : Rd W W.heap.size A c l := (R.below B.bel).more B.bel.size

theorem Boxes.held {w W : World} {n n' : Bool} {s s' : Value} (B : Boxes w W n n' s s') : W.cell? ⟨w.heap.size, 0, none⟩ = some (.bool n) ∧ W.cell? ⟨w.heap.size, 1, none⟩ = some s ∧ W.cell? ⟨w.heap.size + 1, 1, none⟩ = some s' := ⟨B.a0, B.a1, B.b1⟩

theorem Rd.stored {w : World} {B : Nat} {A : Option Addr} {c : Nat} {l : List Nat} (R : Rd w B A c l) {p : Addr} {u v : Value} (hu : w.cell? p = some u) (hn : ∀ k : Int, u ≠ .int .u32 k) : Rd (w.setCell p v) B A c l :=
  ⟨R.ok, R.fit, fun hl => by
    obtain ⟨b, off, e, hb, hc⟩ := R.cells hl
    refine ⟨b, off, e, hb, fun j hj => ?_⟩
    have h1 := hc j hj
    have hne : (⟨b, off + j, none⟩ : Addr) ≠ p := by
      rintro rfl
      rw [hu] at h1
      exact hn _ (Option.some.inj h1)
    rw [← h1]
    exact World.cell?_setCell_other w _ _ v hne.symm⟩

/-- The result's box, filled. -/
theorem Boxes.filled {w W : World} {n n' : Bool} {s s' : Value} (B : Boxes w W n n' s s') {z : Int} {A : Option Addr} {c : Nat} (R : Rd W W.heap.size A c (digs z.natAbs)) :
    IsBig ((W.setCell ⟨w.heap.size + 1 + 1, 0, none⟩ (.bool (decide (z < 0)))).setCell ⟨w.heap.size + 1 + 1, 1, none⟩ (.slice A (digs z.natAbs).length c)) (.agg #[.bool (decide (z < 0)), .slice A (digs z.natAbs).length c]) z ∧
    Below w.heap.size w ((W.setCell ⟨w.heap.size + 1 + 1, 0, none⟩ (.bool (decide (z < 0)))).setCell ⟨w.heap.size + 1 + 1, 1, none⟩ (.slice A (digs z.natAbs).length c)) ∧
    ((W.setCell ⟨w.heap.size + 1 + 1, 0, none⟩ (.bool (decide (z < 0)))).setCell ⟨w.heap.size + 1 + 1, 1, none⟩ (.slice A (digs z.natAbs).length c)).cell? ⟨w.heap.size + 1 + 1, 0, none⟩ = some (.bool (decide (z < 0))) ∧
    ((W.setCell ⟨w.heap.size + 1 + 1, 0, none⟩ (.bool (decide (z < 0)))).setCell ⟨w.heap.size + 1 + 1, 1, none⟩ (.slice A (digs z.natAbs).length c)).cell? ⟨w.heap.size + 1 + 1, 1, none⟩ = some (.slice A (digs z.natAbs).length c) := by
  have hb1 := B.bel.setCell (show w.heap.size ≤ (⟨w.heap.size + 1 + 1, 0, none⟩ : Addr).block from by show w.heap.size ≤ w.heap.size + 1 + 1; omega) (.bool (decide (z < 0)))
  have hb2 := hb1.setCell (show w.heap.size ≤ (⟨w.heap.size + 1 + 1, 1, none⟩ : Addr).block from by show w.heap.size ≤ w.heap.size + 1 + 1; omega) (.slice A (digs z.natAbs).length c)
  refine ⟨⟨A, c, rfl, ?_⟩, hb2, ?_, ?_⟩
  rotate_left
  · exact (World.cell?_setCell_other _ _ _ _ (by intro h; cases h)).trans (World.cell?_setCell_same W _ _ B.r0)
  · exact World.cell?_setCell_same _ _ _ ((World.cell?_setCell_other W _ _ _ (by intro h; cases h)).trans B.r1)
  have R1 := Rd.stored (v := .bool (decide (z < 0))) R B.r0 (by intro k h; cases h)
  have r1 : (W.setCell ⟨w.heap.size + 1 + 1, 0, none⟩ (.bool (decide (z < 0)))).cell? ⟨w.heap.size + 1 + 1, 1, none⟩ = some (.slice none 0 0) := (World.cell?_setCell_other W _ _ _ (by intro h; cases h)).trans B.r1
  have R2 := Rd.stored (v := .slice A (digs z.natAbs).length c) R1 r1 (by intro k h; cases h)
  simpa using R2

theorem results_big {fn : Func} {p : Tmp} (h : fn.results = #[.cell p 28]) (tmps : Array Value) (w : World) (g : Nat) {v0 v1 : Value} (hp : tmps.getD p undef = .pointer (some ⟨g, 0, none⟩))
    (c0 : w.cell? ⟨g, 0, none⟩ = some v0) (c1 : w.cell? ⟨g, 1, none⟩ = some v1) : (results fn tmps).run Tryz.prog w = .ok (.agg #[v0, v1]) w := by
  have hp' : tmps[p]?.getD undef = .pointer (some ⟨g, 0, none⟩) := by simpa using hp
  simp [results, h, hp', asAddr, go_sem, c0, c1]

theorem sgnd_add {x y : Int} {neg : Bool} (h : decide (x < 0) = neg) (h' : decide (y < 0) = neg) : sgnd neg (val (digs x.natAbs) + val (digs y.natAbs)) = x + y := by
  rw [val_digs, val_digs]
  unfold sgnd
  cases neg
  · simp at h h' ⊢; omega
  · simp at h h' ⊢; omega

theorem sgnd_sub {x y : Int} {n n' : Bool} (h : decide (x < 0) = n) (h' : decide (y < 0) = n') (hne : ¬ n = n') (hle : y.natAbs ≤ x.natAbs) : sgnd n (val (digs x.natAbs) - val (digs y.natAbs)) = x + y := by
  rw [val_digs, val_digs]
  unfold sgnd
  cases n <;> cases n' <;> simp at h h' hne ⊢ <;> omega

theorem Boxes.swap {w W : World} {n n' : Bool} {s s' : Value} (B : Boxes w W n n' s s') :
    Boxes w ((((W.setCell ⟨w.heap.size, 0, none⟩ (.bool n')).setCell ⟨w.heap.size, 1, none⟩ s').setCell ⟨w.heap.size + 1, 0, none⟩ (.bool n)).setCell ⟨w.heap.size + 1, 1, none⟩ s) n' n s' s := by
  obtain ⟨bel, size, a0, a1, b0, b1, r0, r1, fr⟩ := B
  refine ⟨(((bel.setCell ?_ _).setCell ?_ _).setCell ?_ _).setCell ?_ _, by simpa [World.size_setCell] using size, ?_, ?_, ?_, ?_, ?_, ?_, ?_⟩
  · exact Nat.le_refl _
  · exact Nat.le_refl _
  · exact Nat.le_succ _
  · exact Nat.le_succ _
  · simp [go_sem, a0, a1, b0, b1]
  · simp [go_sem, a0, a1, b0, b1]
  · simp [go_sem, a0, a1, b0, b1]
  · simp [go_sem, a0, a1, b0, b1]
  · simp [go_sem, r0]
  · simp [go_sem, r1]
  · intro g k h1 h2
    simp [go_sem, fr g k h1 h2]

theorem Boxes.held4 {w W : World} {n n' : Bool} {s s' : Value} (B : Boxes w W n n' s s') : W.cell? ⟨w.heap.size, 0, none⟩ = some (.bool n) ∧ W.cell? ⟨w.heap.size, 1, none⟩ = some s ∧ W.cell? ⟨w.heap.size + 1, 0, none⟩ = some (.bool n') ∧ W.cell? ⟨w.heap.size + 1, 1, none⟩ = some s' := ⟨B.a0, B.a1, B.b0, B.b1⟩

set_option maxRecDepth 100000 in
set_option maxHeartbeats 1000000 in
theorem sum_any (w : World) (a b : Value) (x y : Int) (ha : IsBig w a x) (hb : IsBig w b y) (hl : (digs x.natAbs).length ≤ 400000) (hl' : (digs y.natAbs).length ≤ 400000) :
    Calls Tryz.prog 41 #[a, b] w fun e w' => ∃ v, e = .returned v ∧ IsBig w' v (x + y) ∧ Below w.heap.size w w' := by
  obtain ⟨A, c, rfl, R⟩ := ha
  obtain ⟨A', c', rfl, R'⟩ := hb
  go_enter Tryz.func41, Tryz.ntmps41
  by_cases hs : decide (x < 0) = decide (y < 0)
  · have HS := Lib.hid hs
    rw [hs]
    clear hs
    generalize hneg : decide (y < 0) = neg at *
    have HN := Lib.hid hneg
    clear hneg
    have hB := boxes_made w neg neg (.slice A (digs x.natAbs).length c) (.slice A' (digs y.natAbs).length c')
    obtain ⟨W, hW⟩ : ∃ W, W = (((w.alloc (.cells #[.bool neg, .slice A (digs x.natAbs).length c] 28)).alloc (.cells #[.bool neg, .slice A' (digs y.natAbs).length c'] 28)).alloc (.cells #[.bool false, .slice none 0 0] 28)) := ⟨_, rfl⟩
    rw [← hW] at hB
    go_wp2_with fail
    rw [← hW]
    clear hW
    have HB := Lib.hid hB
    have HW := Lib.hid hB.drew
    have a0 := hB.a0
    have a1 := hB.a1
    have b1 := hB.b1
    clear hB
    go_region_held3 (fun w' => w'.cell? ⟨w.heap.size, 0, none⟩ = some (.bool neg) ∧ w'.cell? ⟨w.heap.size, 1, none⟩ = some (.slice A (digs x.natAbs).length c) ∧ w'.cell? ⟨w.heap.size + 1, 1, none⟩ = some (.slice A' (digs y.natAbs).length c')) (first | exact H2.out.held | exact H1.out.held | exact HB.out.held | (obtain ⟨q1, q2, q3⟩ := H2.out.held; refine ⟨?_, ?_, ?_⟩ <;> simp [go_sem, q1, q2, q3]))
      (first
        | (go_at_call 70; refine (addWords_any W.drew A A' c c' _ _ (HW.out.rd R) (HW.out.rd R') (by omega) (by omega)).mono ?_; rintro _ w1 ⟨v1, rfl, hO, hb1⟩
           obtain ⟨A1, c1, rfl, R1⟩ := own_rd hO (ok_digs _)
           have H1 := Lib.hid (HW.out.after hb1)
           clear hO hb1)
        | (go_at_call 50; refine (big_any w1 neg A1 c1 _ R1).mono ?_; rintro _ w2 ⟨v2, rfl, hI, hb2⟩
           rw [sgnd_add HS.out HN.out] at hI
           have h2 := H1.out.after hb2
           have H2 := Lib.hid h2
           have r0 := h2.r0
           have r1 := h2.r1
           have f0 := h2.fr (w.heap.size + 1 + 1) 0 (by omega) (by omega)
           have f1 := h2.fr (w.heap.size + 1 + 1) 1 (by omega) (by omega)
           obtain ⟨A2, c2, rfl, R2⟩ := hI
           clear h2 hb2))
    obtain ⟨e1, e2, e3, e4⟩ := H2.out.filled R2
    have HC := Lib.hid (And.intro e3 e4)
    have HE := Lib.hid (And.intro e1 e2)
    clear e1 e2 e3 e4 R2 R1 H1 HB HW a0 a1 b1
    go_wp2
    (try simp only [Exit.inBlock, Exit.then])
    refine bodyPost_ret (results_big rfl _ _ (w.heap.size + 1 + 1) rfl HC.out.1 HC.out.2) rfl ?_
    exact ⟨_, rfl, HE.out.1, HE.out.2⟩
  · have HS := Lib.hid hs
    generalize hneg : decide (x < 0) = n at *
    generalize hneg' : decide (y < 0) = n' at *
    have HN := Lib.hid (And.intro hneg hneg')
    clear hneg hneg' hs
    have zn : (n == n') = false := by have := HS.out; cases n <;> cases n' <;> simp_all
    have hB := boxes_made w n n' (.slice A (digs x.natAbs).length c) (.slice A' (digs y.natAbs).length c')
    obtain ⟨W, hW⟩ : ∃ W, W = (((w.alloc (.cells #[.bool n, .slice A (digs x.natAbs).length c] 28)).alloc (.cells #[.bool n', .slice A' (digs y.natAbs).length c'] 28)).alloc (.cells #[.bool false, .slice none 0 0] 28)) := ⟨_, rfl⟩
    rw [← hW] at hB
    go_wp2_with fail
    rw [← hW]
    clear hW
    have HB := Lib.hid hB
    refine (cmpWords_any W _ A A' c c' _ _ (HB.out.rd R) (HB.out.rd R') (by omega) (by omega)).mono ?_
    rintro _ _ ⟨rfl, k, rfl⟩
    have hB2 : Boxes w (W.drewN k) n n' (.slice A (digs x.natAbs).length c) (.slice A' (digs y.natAbs).length c') := hB.after ⟨rfl, rfl, rfl, Nat.le_refl _, fun _ _ => rfl⟩
    generalize W.drewN k = W2 at *
    clear hB
    by_cases hlt : x.natAbs < y.natAbs
    · have e := cmp_lt hlt
      have z : cmp x.natAbs y.natAbs < 0 := by omega
      have a0 := hB2.a0
      have a1 := hB2.a1
      have b0 := hB2.b0
      have b1 := hB2.b1
      have f0 := hB2.fr w.heap.size 0 (by omega) (by omega)
      have f1 := hB2.fr w.heap.size 1 (by omega) (by omega)
      have f2 := hB2.fr (w.heap.size + 1) 0 (by omega) (by omega)
      have f3 := hB2.fr (w.heap.size + 1) 1 (by omega) (by omega)
      generalize cmp x.natAbs y.natAbs = cv at *
      have HB2 := Lib.hid hB2
      clear e hB2
      go_wp2_with fail
      have hB4 := HB2.out.swap
      obtain ⟨W4, hW4⟩ : ∃ W4, W4 = ((((W2.setCell ⟨w.heap.size, 0, none⟩ (.bool n')).setCell ⟨w.heap.size, 1, none⟩ (.slice A' (digs y.natAbs).length c')).setCell ⟨w.heap.size + 1, 0, none⟩ (.bool n)).setCell ⟨w.heap.size + 1, 1, none⟩ (.slice A (digs x.natAbs).length c)) := ⟨_, rfl⟩
      rw [← hW4] at hB4 ⊢
      clear hW4 HB2 HB a0 a1 b0 b1 f0 f1 f2 f3 z
      have hle : x.natAbs ≤ y.natAbs := by omega
      have HB := Lib.hid hB4
      have HW := Lib.hid hB4.drew
      have a0 := hB4.a0
      have a1 := hB4.a1
      have b1 := hB4.b1
      have hlen := len_mono hle
      clear hB4
      go_region_held3 (fun w' => w'.cell? ⟨w.heap.size, 0, none⟩ = some (.bool n') ∧ w'.cell? ⟨w.heap.size, 1, none⟩ = some (.slice A' (digs y.natAbs).length c') ∧ w'.cell? ⟨w.heap.size + 1, 1, none⟩ = some (.slice A (digs x.natAbs).length c)) (first | exact H2.out.held | exact H1.out.held | exact HB.out.held | (obtain ⟨q1, q2, q3⟩ := H2.out.held; refine ⟨?_, ?_, ?_⟩ <;> simp [go_sem, q1, q2, q3]))
        (first
          | (go_at_call 71; refine (subWords_any _ A' A c' c _ _ (HW.out.rd R') (HW.out.rd R) (by rw [val_digs, val_digs]; exact hle) hlen (by omega)).mono ?_; rintro _ w1 ⟨v1, rfl, hO, hb1⟩
             obtain ⟨A1, c1, rfl, R1⟩ := own_rd hO (ok_digs _)
             have H1 := Lib.hid (HW.out.after hb1)
             clear hO hb1)
          | (go_at_call 50; refine (big_any w1 n' A1 c1 _ R1).mono ?_; rintro _ w2 ⟨v2, rfl, hI, hb2⟩
             rw [sgnd_sub HN.out.2 HN.out.1 (fun e => HS.out e.symm) hle, Int.add_comm y x] at hI
             have h2 := H1.out.after hb2
             have H2 := Lib.hid h2
             have r0 := h2.r0
             have r1 := h2.r1
             have f0 := h2.fr (w.heap.size + 1 + 1) 0 (by omega) (by omega)
             have f1 := h2.fr (w.heap.size + 1 + 1) 1 (by omega) (by omega)
             obtain ⟨A5, c5, rfl, R5⟩ := hI
             clear h2 hb2))
      obtain ⟨e1, e2, e3, e4⟩ := H2.out.filled R5
      have HC := Lib.hid (And.intro e3 e4)
      have HE := Lib.hid (And.intro e1 e2)
      clear e1 e2 e3 e4 R5 R1 H1 HB HW a0 a1 b1
      go_wp2
      (try simp only [Exit.inBlock, Exit.then])
      refine bodyPost_ret (results_big rfl _ _ (w.heap.size + 1 + 1) rfl HC.out.1 HC.out.2) rfl ?_
      exact ⟨_, rfl, HE.out.1, HE.out.2⟩
    · have e := cmp_ge (show y.natAbs ≤ x.natAbs by omega)
      generalize cmp x.natAbs y.natAbs = cv at *
      have hB4 := hB2
      clear HB hB2
      go_wp2_with fail
      have hle : y.natAbs ≤ x.natAbs := by omega
      have HB := Lib.hid hB4
      have HW := Lib.hid hB4.drew
      have a0 := hB4.a0
      have a1 := hB4.a1
      have b1 := hB4.b1
      have hlen := len_mono hle
      clear hB4
      go_region_held3 (fun w' => w'.cell? ⟨w.heap.size, 0, none⟩ = some (.bool n) ∧ w'.cell? ⟨w.heap.size, 1, none⟩ = some (.slice A (digs x.natAbs).length c) ∧ w'.cell? ⟨w.heap.size + 1, 1, none⟩ = some (.slice A' (digs y.natAbs).length c')) (first | exact H2.out.held | exact H1.out.held | exact HB.out.held | (obtain ⟨q1, q2, q3⟩ := H2.out.held; refine ⟨?_, ?_, ?_⟩ <;> simp [go_sem, q1, q2, q3]))
        (first
          | (go_at_call 71; refine (subWords_any _ A A' c c' _ _ (HW.out.rd R) (HW.out.rd R') (by rw [val_digs, val_digs]; exact hle) hlen (by omega)).mono ?_; rintro _ w1 ⟨v1, rfl, hO, hb1⟩
             obtain ⟨A1, c1, rfl, R1⟩ := own_rd hO (ok_digs _)
             have H1 := Lib.hid (HW.out.after hb1)
             clear hO hb1)
          | (go_at_call 50; refine (big_any w1 n A1 c1 _ R1).mono ?_; rintro _ w2 ⟨v2, rfl, hI, hb2⟩
             rw [sgnd_sub HN.out.1 HN.out.2 HS.out hle] at hI
             have h2 := H1.out.after hb2
             have H2 := Lib.hid h2
             have r0 := h2.r0
             have r1 := h2.r1
             have f0 := h2.fr (w.heap.size + 1 + 1) 0 (by omega) (by omega)
             have f1 := h2.fr (w.heap.size + 1 + 1) 1 (by omega) (by omega)
             obtain ⟨A5, c5, rfl, R5⟩ := hI
             clear h2 hb2))
      obtain ⟨e1, e2, e3, e4⟩ := H2.out.filled R5
      have HC := Lib.hid (And.intro e3 e4)
      have HE := Lib.hid (And.intro e1 e2)
      clear e1 e2 e3 e4 R5 R1 H1 HB HW a0 a1 b1
      go_wp2
      (try simp only [Exit.inBlock, Exit.then])
      refine bodyPost_ret (results_big rfl _ _ (w.heap.size + 1 + 1) rfl HC.out.1 HC.out.2) rfl ?_
      exact ⟨_, rfl, HE.out.1, HE.out.2⟩

end Go.Proofs.YtbeidpeoichakaaGreatDoor.fv
