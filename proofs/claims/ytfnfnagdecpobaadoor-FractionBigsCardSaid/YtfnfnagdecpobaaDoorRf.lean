/- law 01: odd. -/
import Derived.Test.YtfnfnagdecpobaaDoorQa
import Derived.Test.YtfnfnagdecpobaaDoorHh
import Derived.Test.YtfnfnagdecpobaaDoorJc
import Derived.Test.YtfnfnagdecpobaaDoorRe
set_option linter.unusedSimpArgs false
set_option linter.unusedVariables false
namespace Go.Proofs.YtfnfnagdecpobaaDoor.rf
open Go.RowKit Go.Proofs.YtfnfnagdecpobaaDoor.fm Go.Proofs.YtfnfnagdecpobaaDoor.mem Go.Proofs.YtfnfnagdecpobaaDoor.fu Go.Proofs.YtfnfnagdecpobaaDoor.fv Go.Proofs.YtfnfnagdecpobaaDoor.fw Go.Proofs.YtfnfnagdecpobaaDoor.fx Go.Proofs.YtfnfnagdecpobaaDoor.fy Go.Proofs.YtfnfnagdecpobaaDoor.fz Go.Proofs.YtfnfnagdecpobaaDoor.je Go.Proofs.YtfnfnagdecpobaaDoor.hh Go.Proofs.YtfnfnagdecpobaaDoor.qa Go.Proofs.YtfnfnagdecpobaaDoor.re

/-- What holds while odd works: the parameter's box, the result's box, and the words. -/
structure OSt (w W : World) (n : Bool) (gg cap : Nat) (x : List Nat) : Prop where
  bel : Below w.heap.size w W
  size : w.heap.size + 2 ≤ W.heap.size
  p0 : W.cell? ⟨w.heap.size, 0, none⟩ = some (.bool n)
  p1 : W.cell? ⟨w.heap.size, 1, none⟩ = some (.slice (some ⟨gg, 0, none⟩) x.length cap)
  r0 : W.cell? ⟨w.heap.size + 1, 0, none⟩ = some (.bool false)
  r1 : W.cell? ⟨w.heap.size + 1, 1, none⟩ = some (.slice none 0 0)
  fp : ∀ k, W.frozen? ⟨w.heap.size, k, none⟩ = false
  fr : ∀ k, W.frozen? ⟨w.heap.size + 1, k, none⟩ = false
  own : W.ownsRow (w.heap.size + 2) 66 1 (.slice (some ⟨gg, 0, none⟩) x.length cap) x.length (ws x)
  okx : ok x

/-- What odd answers: a sign and words. -/
def Oddly (w : World) (e : Ending) (w' : World) : Prop :=
  ∃ n A c x, e = .returned (.agg #[.bool n, .slice A x.length c]) ∧ Rd w' w'.heap.size A c x ∧ x.length ≤ 257 ∧ Below w.heap.size w w'

/-- another sign -/
theorem OSt.flip {w W : World} {n : Bool} {gg cap : Nat} {x : List Nat} (S : OSt w W n gg cap x) (n' : Bool) : OSt w (W.setCell ⟨w.heap.size, 0, none⟩ (.bool n')) n' gg cap x := by
  have hg := (S.own.lt gg rfl).1
  refine ⟨S.bel.setCell (p := ⟨w.heap.size, 0, none⟩) (Nat.le_refl _) _, by simpa using S.size, World.cell?_setCell_same _ _ _ S.p0, ?_, ?_, ?_, ?_, ?_, ownsRow_setCell_below S.own (by show w.heap.size < _; omega) _, S.okx⟩
  · exact (World.cell?_setCell_other _ _ _ _ (by intro h; cases h)).trans S.p1
  · exact (World.cell?_setCell_other _ _ _ _ (by intro h; simp at h)).trans S.r0
  · exact (World.cell?_setCell_other _ _ _ _ (by intro h; simp at h)).trans S.r1
  · intro k; simpa [go_sem] using S.fp k
  · intro k; simpa [go_sem] using S.fr k

/-- other words -/
theorem OSt.words {w W W' : World} {n : Bool} {gg cap gg' cap' : Nat} {x x' : List Nat} (S : OSt w W n gg cap x) (h : Below (w.heap.size + 2) W W') (hown : W'.ownsRow (w.heap.size + 2) 66 1 (.slice (some ⟨gg', 0, none⟩) x'.length cap') x'.length (ws x')) (hok : ok x') :
    OSt w (W'.setCell ⟨w.heap.size, 1, none⟩ (.slice (some ⟨gg', 0, none⟩) x'.length cap')) n gg' cap' x' := by
  have hz := S.size
  have h0 : w.heap.size < w.heap.size + 2 := by omega
  have h1 : w.heap.size + 1 < w.heap.size + 2 := by omega
  refine ⟨(S.bel.trans (h.mono (by omega))).setCell (p := ⟨w.heap.size, 1, none⟩) (Nat.le_refl _) _, by simpa using Nat.le_trans S.size h.size, ?_, World.cell?_setCell_same _ _ _ ((h.cell (p := ⟨w.heap.size, 1, none⟩) h0).trans S.p1), ?_, ?_, ?_, ?_, ownsRow_setCell_below hown (by show w.heap.size < _; omega) _, hok⟩
  · exact (World.cell?_setCell_other _ _ _ _ (by intro h; cases h)).trans ((h.cell (p := ⟨w.heap.size, 0, none⟩) h0).trans S.p0)
  · exact (World.cell?_setCell_other _ _ _ _ (by intro h; simp at h)).trans ((h.cell (p := ⟨w.heap.size + 1, 0, none⟩) h1).trans S.r0)
  · exact (World.cell?_setCell_other _ _ _ _ (by intro h; simp at h)).trans ((h.cell (p := ⟨w.heap.size + 1, 1, none⟩) h1).trans S.r1)
  · intro k; simpa [go_sem] using (below_frozen h (p := ⟨w.heap.size, k, none⟩) h0).trans (S.fp k)
  · intro k; simpa [go_sem] using (below_frozen h (p := ⟨w.heap.size + 1, k, none⟩) h1).trans (S.fr k)

/-- a word stored -/
theorem OSt.set {w W : World} {n : Bool} {gg cap : Nat} {x : List Nat} (S : OSt w W n gg cap x) (j v : Nat) (hv : v < 4294967296) : OSt w (W.setCell ⟨gg, j, none⟩ (.int .u32 (v : Int))) n gg cap (x.set j v) := by
  have hg := (S.own.lt gg rfl).1
  have hz := S.size
  have h := (Below.refl (w.heap.size + 2) W).setCell (p := ⟨gg, j, none⟩) hg (.int .u32 (v : Int))
  have h0 : w.heap.size < w.heap.size + 2 := by omega
  have h1 : w.heap.size + 1 < w.heap.size + 2 := by omega
  refine ⟨S.bel.trans (h.mono (by omega)), by simpa using hz, (h.cell (p := ⟨w.heap.size, 0, none⟩) h0).trans S.p0, ?_, (h.cell (p := ⟨w.heap.size + 1, 0, none⟩) h1).trans S.r0, (h.cell (p := ⟨w.heap.size + 1, 1, none⟩) h1).trans S.r1, fun k => (below_frozen h (p := ⟨w.heap.size, k, none⟩) h0).trans (S.fp k), fun k => (below_frozen h (p := ⟨w.heap.size + 1, k, none⟩) h1).trans (S.fr k), ?_, ok_set S.okx j hv⟩
  · rw [List.length_set]; exact (h.cell (p := ⟨w.heap.size, 1, none⟩) h0).trans S.p1
  · rw [List.length_set]; exact own_set S.own j v (v : Int) rfl

/-- the result's box, filled -/
theorem OSt.done {w W : World} {n : Bool} {gg cap : Nat} {x : List Nat} (S : OSt w W n gg cap x) (w' : World) (hw : w' = (W.setCell ⟨w.heap.size + 1, 0, none⟩ (.bool n)).setCell ⟨w.heap.size + 1, 1, none⟩ (.slice (some ⟨gg, 0, none⟩) x.length cap)) :
    Rd w' w'.heap.size (some ⟨gg, 0, none⟩) cap x ∧ Below w.heap.size w w' ∧ w'.cell? ⟨w.heap.size + 1, 0, none⟩ = some (.bool n) ∧ w'.cell? ⟨w.heap.size + 1, 1, none⟩ = some (.slice (some ⟨gg, 0, none⟩) x.length cap) := by
  subst hw
  obtain ⟨A, c, e, R⟩ := own_rd (show Owns (w.heap.size + 2) W (.slice (some ⟨gg, 0, none⟩) x.length cap) x from S.own) S.okx
  injection e with e1 e2 e3
  subst e1 e3
  have e1 : (W.setCell ⟨w.heap.size + 1, 0, none⟩ (.bool n)).cell? ⟨w.heap.size + 1, 1, none⟩ = some (.slice none 0 0) := (World.cell?_setCell_other _ _ _ _ (by intro h; cases h)).trans S.r1
  have R1 : Rd (W.setCell ⟨w.heap.size + 1, 0, none⟩ (.bool n)) W.heap.size (some ⟨gg, 0, none⟩) cap x := rd_set R (ni_bool S.r0)
  have R2 := rd_set (v := .slice (some ⟨gg, 0, none⟩) x.length cap) R1 (ni_slice e1)
  refine ⟨R2.more (by simp), (S.bel.setCell (p := ⟨w.heap.size + 1, 0, none⟩) (by show w.heap.size ≤ w.heap.size + 1; omega) _).setCell (p := ⟨w.heap.size + 1, 1, none⟩) (by show w.heap.size ≤ w.heap.size + 1; omega) _, ?_, World.cell?_setCell_same _ _ _ e1⟩
  exact (World.cell?_setCell_other _ _ _ _ (by intro h; cases h)).trans (World.cell?_setCell_same _ _ _ S.r0)

theorem ost_first {w W : World} {n : Bool} {A : Option Addr} {c : Nat} {x : List Nat} (h : Below w.heap.size w W ∧ W.heap.size = w.heap.size + 1 + 1 ∧ W.cell? ⟨w.heap.size, 0, none⟩ = some (.bool n) ∧ W.cell? ⟨w.heap.size, 1, none⟩ = some (.slice A x.length c) ∧
    W.cell? ⟨w.heap.size + 1, 0, none⟩ = some (.bool false) ∧ W.cell? ⟨w.heap.size + 1, 1, none⟩ = some (.slice none 0 0) ∧ (∀ k, W.frozen? ⟨w.heap.size, k, none⟩ = false) ∧ (∀ k, W.frozen? ⟨w.heap.size + 1, k, none⟩ = false) ∧ Rd W W.heap.size A c x) (hok : ok x) :
    ∀ (W' : World) (gg cap : Nat), Below W.heap.size W W' → W'.ownsRow (w.heap.size + 2) 66 1 (.slice (some ⟨gg, 0, none⟩) x.length cap) x.length (ws x) → OSt w (W'.setCell ⟨w.heap.size, 1, none⟩ (.slice (some ⟨gg, 0, none⟩) x.length cap)) n gg cap x := by
  intro W' gg cap hb hown
  obtain ⟨h1, h2, k0, k1, r0, r1, fp, fr, _⟩ := h
  have l0 : w.heap.size < W.heap.size := by omega
  have l1 : w.heap.size + 1 < W.heap.size := by omega
  refine ⟨(h1.trans (hb.mono h1.size)).setCell (p := ⟨w.heap.size, 1, none⟩) (Nat.le_refl _) _, by have := hb.size; simp; omega, ?_, World.cell?_setCell_same _ _ _ ((hb.cell (p := ⟨w.heap.size, 1, none⟩) l0).trans k1), ?_, ?_, ?_, ?_, ownsRow_setCell_below hown (by show w.heap.size < _; omega) _, hok⟩
  · exact (World.cell?_setCell_other _ _ _ _ (by intro h; cases h)).trans ((hb.cell (p := ⟨w.heap.size, 0, none⟩) l0).trans k0)
  · exact (World.cell?_setCell_other _ _ _ _ (by intro h; simp at h)).trans ((hb.cell (p := ⟨w.heap.size + 1, 0, none⟩) l1).trans r0)
  · exact (World.cell?_setCell_other _ _ _ _ (by intro h; simp at h)).trans ((hb.cell (p := ⟨w.heap.size + 1, 1, none⟩) l1).trans r1)
  · intro k; simpa [go_sem] using (below_frozen hb (p := ⟨w.heap.size, k, none⟩) l0).trans (fp k)
  · intro k; simpa [go_sem] using (below_frozen hb (p := ⟨w.heap.size + 1, k, none⟩) l1).trans (fr k)

set_option maxRecDepth 100000 in
set_option maxHeartbeats 8000000 in
theorem odd_any (w : World) (a : Value) (z what : Int) (ha : IsBig w a z) (hl : (digs z.natAbs).length ≤ 200) (h1 : -9223372036854775808 ≤ what) (h2 : what < 9223372036854775808) :
    Calls Tryd.prog 11 #[a, .int .i64 what] w (Oddly w) := by
  obtain ⟨A, c, rfl, R⟩ := ha
  obtain ⟨i0, hi, hz0, hz1, hz2⟩ := info_parts info_u32
  go_enter Tryd.func11, Tryd.ntmps11
  generalize decide (z < 0) = n at *
  obtain ⟨x, hx⟩ : ∃ x, x = digs z.natAbs := ⟨_, rfl⟩
  have hokx : ok x := by rw [hx]; exact ok_digs _
  rw [← hx] at hl R ⊢
  clear hx
  obtain ⟨W, hW⟩ : ∃ W, W = (w.alloc (.cells #[.bool n, .slice A x.length c] 28)).alloc (.cells #[.bool false, .slice none 0 0] 28) := ⟨_, rfl⟩
  have hbel : Below w.heap.size w W := by rw [hW]; exact ((Below.refl _ _).alloc (Nat.le_refl _) _).alloc (by simp) _
  have hsz : W.heap.size = w.heap.size + 1 + 1 := by rw [hW]; simp
  have k0 : W.cell? ⟨w.heap.size, 0, none⟩ = some (.bool n) := by rw [hW]; simp [go_sem]
  have k1 : W.cell? ⟨w.heap.size, 1, none⟩ = some (.slice A x.length c) := by rw [hW]; simp [go_sem]
  have r0 : W.cell? ⟨w.heap.size + 1, 0, none⟩ = some (.bool false) := by rw [hW]; simp [go_sem]
  have r1 : W.cell? ⟨w.heap.size + 1, 1, none⟩ = some (.slice none 0 0) := by rw [hW]; simp [go_sem]
  have fp : ∀ k, W.frozen? ⟨w.heap.size, k, none⟩ = false := by intro k; rw [hW]; simp [go_sem]
  have fr : ∀ k, W.frozen? ⟨w.heap.size + 1, k, none⟩ = false := by intro k; rw [hW]; simp [go_sem]
  go_upto_region 1 with fail
  rw [← hW]
  clear hW
  have R1 := (R.below hbel).more hbel.size
  have HW := Lib.hid (And.intro hbel (And.intro hsz (And.intro k0 (And.intro k1 (And.intro r0 (And.intro r1 (And.intro fp (And.intro fr R1))))))))
  have f1 := fp 1
  clear hbel hsz k0 r0 r1 fp fr R R1
  go_cut [8] (fun _ wx => ∃ gg cap, Hid (OSt w wx n gg cap x))
  case first =>
    have hb0 := (Below.refl W.heap.size W).alloc (Nat.le_refl _) (.cells #[] 66)
    have HO0 := Lib.hid (own_new W [] #[] rfl (by decide))
    have hwl : w.heap.size < W.heap.size := by have := HW.out.2.1; omega
    have k1' := (hb0.cell (p := ⟨w.heap.size, 1, none⟩) hwl).trans k1
    have f1' := (below_frozen hb0 (p := ⟨w.heap.size, 1, none⟩) hwl).trans f1
    have HB0 := Lib.hid hb0
    have OS := ost_first HW.out hokx
    have HOS := Lib.hid OS
    clear hb0 OS
    by_cases hl0 : x.length = 0
    · obtain rfl : x = [] := List.eq_nil_of_length_eq_zero hl0
      clear hl0 hl
      rw [List.length_nil] at k1'
      go_wp2_with (first
        | (at_builtin; refine wpList_append_nothing rfl _ _ 26 rfl 66 i0 Tryd.underlying26 hi _ 0 0 (Nat.le_refl _) rfl A c rfl ?_))
      have HO1 := Lib.hid (own_base0 HO0.out (show w.heap.size + 2 ≤ W.heap.size by have := HW.out.2.1; omega))
      clear HO0
      go_meet
      refine ⟨W.heap.size, 0, Lib.hid ?_⟩
      have h9 := HOS.out _ _ _ HB0.out HO1.out
      rw [World.setCell_alloc_past _ _ _ _ hwl] at h9
      exact h9
    · obtain ⟨ab, aoff, rfl, hab, hac⟩ := HW.out.2.2.2.2.2.2.2.2.cells (by omega)
      have HN2 := Lib.hid (rd_news (HW.out.2.2.2.2.2.2.2.2.below HB0.out))
      have hl0' : 0 < x.length := by omega
      clear hac hl0
      go_wp2_with (first
        | (at_builtin; refine wpList_append_lies _ rfl _ _ 26 rfl W.heap.size 66 i0 (.int .u32 0) 1 4 Tryd.underlying26 hi hz0 hz1 hz2 rfl (by decide) _ 0 [] rfl HO0.out ⟨ab, aoff, none⟩ x.length c (ws x) rfl (by rw [ws_length, Nat.mul_one]) HN2.out (ws_oneCell x) hl0' (by unfold maxLen; omega) (by omega) HB0.out.size _ rfl ?_; intro gg cap w1 hown1 hgrow hat hlt2; have hown2 : Owns W.heap.size w1 (.slice (some ⟨gg, 0, none⟩) x.length cap) x := (by have h1 := hown1; rw [Nat.zero_add] at h1; exact h1); have hb1 : Below W.heap.size W w1 := HB0.out.grown hgrow HB0.out.size (fun j hj => (HO0.out.lt j hj).1); have H1 := Lib.hid (And.intro hown2 hb1); have k2 := (hb1.cell (p := ⟨w.heap.size, 1, none⟩) (by show w.heap.size < _; have := HW.out.2.1; omega)).trans k1; have f2 := (below_frozen hb1 (p := ⟨w.heap.size, 1, none⟩) (by show w.heap.size < _; have := HW.out.2.1; omega)).trans f1; clear hown1 hgrow hat hlt2 hown2 hb1))
      go_wp2_with fail
      go_meet
      exact ⟨gg, cap, Lib.hid (HOS.out _ _ _ H1.out.2 (own_base0 H1.out.1 (by have := HW.out.2.1; omega)))⟩
  case rest =>
  obtain ⟨gg, cap, HS⟩ := hcut
  clear k1 f1 HW
  go_wp2_with fail
  refine (mod_any wc what 4 h1 h2 (by decide) (by decide)).mono ?_
  rintro _ _ ⟨m, rfl, hm, rfl⟩
  have p0 := HS.out.p0
  have p1 := HS.out.p1
  have r0 := HS.out.r0
  have r1 := HS.out.r1
  have fp0 := HS.out.fp 0
  have fp1 := HS.out.fp 1
  have fr0 := HS.out.fr 0
  have fr1 := HS.out.fr 1
  have hm4 : m = 0 ∨ m = 1 ∨ m = 2 ∨ m = 3 := by omega
  rcases hm4 with rfl | rfl | rfl | rfl
  · go_upto_region 4 with fail
    go_wp2_with (first
      | (at_builtin; (refine wpList_append_lies _ rfl _ _ 26 rfl (w.heap.size + 2) 66 i0 (.int .u32 0) 1 4 Tryd.underlying26 hi hz0 hz1 hz2 rfl (by decide) _ x.length (ws x) rfl (HS.out.own.alloc _) ⟨wc.heap.size, 0, none⟩ 1 1 [.int .u32 0] rfl rfl (cell_one_new _ _ _) (fun u hu => by simp at hu; subst hu; rfl) (by decide) (by unfold maxLen; omega) (by omega) (by have := HS.out.size; simp; omega) _ rfl ?_); intro g2 cap2 w6 hown6 hgrow hat hlt6; have hb6 : Below (w.heap.size + 2) wc w6 := (((Below.refl _ _).alloc HS.out.size (.cells #[.int .u32 0] 66)).grown hgrow (by have := HS.out.size; simp; omega) (fun j hj => ((HS.out.own.alloc (.cells #[.int .u32 0] 66)).lt j hj).1)); have hown7 : w6.ownsRow (w.heap.size + 2) 66 1 (.slice (some ⟨g2, 0, none⟩) (x ++ [0]).length cap2) (x ++ [0]).length (ws (x ++ [0])) := (by rw [ws_append, List.length_append]; exact hown6); have S3 := HS.out.words hb6 hown7 (ok_append.2 ⟨HS.out.okx, by intro u hu; simp at hu; omega⟩); have q1 := (hb6.cell (p := ⟨w.heap.size, 1, none⟩) (by show w.heap.size < _; omega)).trans p1; have g1 := (below_frozen hb6 (p := ⟨w.heap.size, 1, none⟩) (by show w.heap.size < _; omega)).trans fp1; have hd := S3.done _ rfl; have HD := Lib.hid hd; have hz6 := HS.out.size; have q0 := (hb6.cell (p := ⟨w.heap.size, 0, none⟩) (by show w.heap.size < _; omega)).trans p0; have s0 := (hb6.cell (p := ⟨w.heap.size + 1, 0, none⟩) (by show w.heap.size + 1 < _; omega)).trans r0; have s1 := (hb6.cell (p := ⟨w.heap.size + 1, 1, none⟩) (by show w.heap.size + 1 < _; omega)).trans r1; have t0 := (below_frozen hb6 (p := ⟨w.heap.size + 1, 0, none⟩) (by show w.heap.size + 1 < _; omega)).trans fr0; have t1 := (below_frozen hb6 (p := ⟨w.heap.size + 1, 1, none⟩) (by show w.heap.size + 1 < _; omega)).trans fr1; clear hown6 hgrow hat hlt6 hb6 hown7 S3 hd hz6))
    have hx1 : (x ++ [0]).length = x.length + 1 := by simp
    have HD2 := Lib.hid HD.out
    rw [hx1] at HD2
    (try simp only [Exit.inBlock, Exit.then])
    refine bodyPost_ret (results_big1 rfl _ _ (w.heap.size + 1) rfl HD2.out.2.2.1 HD2.out.2.2.2) rfl ?_
    exact ⟨n, _, cap2, x ++ [0], by rw [hx1], HD2.out.1, by rw [hx1]; omega, HD2.out.2.1⟩
  · have S2 := HS.out.flip (!n)
    have hd := S2.done _ rfl
    have HD := Lib.hid hd
    clear S2 hd
    go_wp2_with fail
    (try simp only [Exit.inBlock, Exit.then])
    refine bodyPost_ret (results_big1 rfl _ _ (w.heap.size + 1) rfl HD.out.2.2.1 HD.out.2.2.2) rfl ?_
    exact ⟨!n, _, cap, x, rfl, HD.out.1, by omega, HD.out.2.1⟩
  · obtain ⟨u, hu⟩ : ∃ u, u = what.tdiv 4 := ⟨_, rfl⟩
    have hub : -9223372036854775808 ≤ u ∧ u < 9223372036854775808 := by
      have h3 : u.natAbs = what.natAbs / 4 := by rw [hu]; exact Int.natAbs_tdiv what 4
      omega
    have HU := Lib.hid hub
    clear hub
    go_wp2_with fail
    rw [← hu]
    refine (mod_any wc u 2 HU.out.1 HU.out.2 (by decide) (by decide)).mono ?_
    rintro _ _ ⟨m2, rfl, hm2, rfl⟩
    obtain ⟨N, hN⟩ : ∃ N : Nat, N = 256 + m2 := ⟨_, rfl⟩
    obtain ⟨L, hL⟩ : ∃ L : Nat, L = 255 + m2 := ⟨_, rfl⟩
    have i1 : (256 : Int) + (m2 : Int) = (N : Int) := by omega
    have i2 : (N : Int) - 1 = (L : Int) := by omega
    have hNl : N ≤ 257 := by omega
    have hLN : L < N := by omega
    have hLz : (L : Int) < (N : Int) := by omega
    clear hL hN hu
    go_wp2_with (first
      | (refine wpList_make_full _ rfl _ _ 26 rfl (w.heap.size + 2) 66 i0 _ 1 Tryd.underlying26 hi hz0 hz1 .i64 .i64 _ _ N rfl rfl rfl rfl (by rw [hz2]; omega) (by unfold maxLen; omega) HS.out.size ?_; intro w1 hown hgrow; rw [zeros_made] at hown; have hb6 : Below (w.heap.size + 2) wc w1 := (Below.refl _ _).grown hgrow HS.out.size (by simp); have hown7 : w1.ownsRow (w.heap.size + 2) 66 1 (.slice (some ⟨wc.heap.size, 0, none⟩) (List.replicate N 0).length N) (List.replicate N 0).length (ws (List.replicate N 0)) := (by rw [List.length_replicate]; exact hown); have S3 := HS.out.words hb6 hown7 (ok_replicate N); rw [List.length_replicate] at S3; have HS3 := Lib.hid S3; have q1 := (hb6.cell (p := ⟨w.heap.size, 1, none⟩) (by show w.heap.size < _; omega)).trans p1; have g1 := (below_frozen hb6 (p := ⟨w.heap.size, 1, none⟩) (by show w.heap.size < _; omega)).trans fp1; have w1c := own_cell hown L hLN; have w1f := hown.frozenAt L; have S4 := S3.set L 1 (by decide); have hd := S4.done _ rfl; rw [List.length_set, List.length_replicate] at hd; have HD := Lib.hid hd; have hz6 := HS.out.size; have q0 := (hb6.cell (p := ⟨w.heap.size, 0, none⟩) (by show w.heap.size < _; omega)).trans p0; have s0 := (hb6.cell (p := ⟨w.heap.size + 1, 0, none⟩) (by show w.heap.size + 1 < _; omega)).trans r0; have s1 := (hb6.cell (p := ⟨w.heap.size + 1, 1, none⟩) (by show w.heap.size + 1 < _; omega)).trans r1; have t0 := (below_frozen hb6 (p := ⟨w.heap.size + 1, 0, none⟩) (by show w.heap.size + 1 < _; omega)).trans fr0; have t1 := (below_frozen hb6 (p := ⟨w.heap.size + 1, 1, none⟩) (by show w.heap.size + 1 < _; omega)).trans fr1; have hne1 : ¬ w.heap.size = wc.heap.size := (by omega); have hne2 : ¬ w.heap.size + 1 = wc.heap.size := (by omega); clear hown hgrow hb6 hown7 S3 S4 hd hz6))
    (try simp only [Exit.inBlock, Exit.then])
    refine bodyPost_ret (results_big1 rfl _ _ (w.heap.size + 1) rfl HD.out.2.2.1 HD.out.2.2.2) rfl ?_
    exact ⟨n, _, N, (List.replicate N 0).set L 1, by rw [List.length_set, List.length_replicate], HD.out.1, by rw [List.length_set, List.length_replicate]; exact hNl, HD.out.2.1⟩
  · have hd := HS.out.done _ rfl
    have HD := Lib.hid hd
    clear hd
    go_wp2_with fail
    (try simp only [Exit.inBlock, Exit.then])
    refine bodyPost_ret (results_big1 rfl _ _ (w.heap.size + 1) rfl HD.out.2.2.1 HD.out.2.2.2) rfl ?_
    exact ⟨n, _, cap, x, rfl, HD.out.1, by omega, HD.out.2.1⟩

end Go.Proofs.YtfnfnagdecpobaaDoor.rf
