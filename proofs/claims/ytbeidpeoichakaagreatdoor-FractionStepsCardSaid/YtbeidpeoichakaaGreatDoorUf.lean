/- The reference: Div by nothing. -/
import Derived.Test.YtbeidpeoichakaaGreatDoorUc
set_option linter.unusedSimpArgs false
set_option linter.unusedVariables false
namespace Go.Proofs.YtbeidpeoichakaaGreatDoor.uf
open Go.RowKit Go.Proofs.YtbeidpeoichakaaGreatDoor.fm Go.Proofs.YtbeidpeoichakaaGreatDoor.mem Go.Proofs.YtbeidpeoichakaaGreatDoor.fa Go.Proofs.YtbeidpeoichakaaGreatDoor.fb Go.Proofs.YtbeidpeoichakaaGreatDoor.fs Go.Proofs.YtbeidpeoichakaaGreatDoor.ft Go.Proofs.YtbeidpeoichakaaGreatDoor.fu Go.Proofs.YtbeidpeoichakaaGreatDoor.fv Go.Proofs.YtbeidpeoichakaaGreatDoor.fw Go.Proofs.YtbeidpeoichakaaGreatDoor.fy Go.Proofs.YtbeidpeoichakaaGreatDoor.ga Go.Proofs.YtbeidpeoichakaaGreatDoor.gb Go.Proofs.YtbeidpeoichakaaGreatDoor.gc Go.Proofs.YtbeidpeoichakaaGreatDoor.gd Go.Proofs.YtbeidpeoichakaaGreatDoor.fj Go.Proofs.YtbeidpeoichakaaGreatDoor.gg Go.Proofs.YtbeidpeoichakaaGreatDoor.ja Go.Proofs.YtbeidpeoichakaaGreatDoor.jb Go.Proofs.YtbeidpeoichakaaGreatDoor.jg Go.Proofs.YtbeidpeoichakaaGreatDoor.jh Go.Proofs.YtbeidpeoichakaaGreatDoor.pa Go.Proofs.YtbeidpeoichakaaGreatDoor.pb Go.Proofs.YtbeidpeoichakaaGreatDoor.pc Go.Proofs.YtbeidpeoichakaaGreatDoor.nb Go.Proofs.YtbeidpeoichakaaGreatDoor.hc Go.Proofs.YtbeidpeoichakaaGreatDoor.hd Go.Proofs.YtbeidpeoichakaaGreatDoor.ra Go.Proofs.YtbeidpeoichakaaGreatDoor.re Go.Proofs.YtbeidpeoichakaaGreatDoor.rb Go.Proofs.YtbeidpeoichakaaGreatDoor.rg Go.Proofs.YtbeidpeoichakaaGreatDoor.sa Go.Proofs.YtbeidpeoichakaaGreatDoor.sb Go.Proofs.YtbeidpeoichakaaGreatDoor.sc Go.Proofs.YtbeidpeoichakaaGreatDoor.ta Go.Proofs.YtbeidpeoichakaaGreatDoor.tb Go.Proofs.YtbeidpeoichakaaGreatDoor.ua Go.Proofs.YtbeidpeoichakaaGreatDoor.ub Go.Proofs.YtbeidpeoichakaaGreatDoor.uc Go.Proofs.YtbeidpeoichakaaGreatDoor.ud Go.Proofs.YtbeidpeoichakaaGreatDoor.ue

set_option maxRecDepth 100000 in
set_option maxHeartbeats 4000000 in
theorem rdiv_zero (w : World) (a b : Value) (x y : Int) (d e : Nat) (ha : IsFrac w a x d) (hb : IsFrac w b y e) (lx : (digs x.natAbs).length ≤ 256) (ld : (digs d).length ≤ 256) (ly : (digs y.natAbs).length ≤ 256) (le : (digs e).length ≤ 256) (hd : d ≠ 0) (he : e ≠ 0) (ga : lowB x d = true) (gb : lowB y e = true) (hy : y = 0) :
    Calls Tryz.prog 19 #[a, b] w fun e w' => e = .returned (.tuple #[.agg #[.bool false, .slice none 0 0, .bool false, .slice none 0 0], .int .i64 8]) ∧ Below w.heap.size w w' := by
  obtain ⟨A, c, B, k, rfl, RA, RB⟩ := ha
  obtain ⟨A', c', B', k', rfl, RA', RB'⟩ := hb
  go_enter Tryz.func19, Tryz.ntmps19
  have hF := fr_new RA RB RA' RB' 30
  obtain ⟨W, hW⟩ : ∃ W, W = (((w.alloc (.cells #[.bool (decide (x < 0)), .slice A (digs x.natAbs).length c, .bool false, .slice B (digs d).length k] 30)).alloc (.cells #[.bool (decide (y < 0)), .slice A' (digs y.natAbs).length c', .bool false, .slice B' (digs e).length k'] 30)).alloc (.cells #[.bool false, .slice none 0 0, .bool false, .slice none 0 0] 30)) := ⟨_, rfl⟩
  rw [← hW] at hF
  have H := Lib.hid hF
  obtain ⟨c0, c1, c2, c3, _, _, _, _⟩ := hF.ff.held
  have z1 : (((digs y.natAbs).length : Int) == 0) = true := by rw [hy]; rfl
  clear hF RA RB RA' RB' hy
  go_upto_region 1 with fail
  rw [← hW]
  clear hW
  go_wp2_with fail
  refine (rvalid_any W _ x d H.out.ff.a.frac lx ld hd).mono ?_
  rintro _ W1 ⟨rfl, hb1⟩
  rw [ga]
  have H1 := Lib.hid (H.out.after hb1)
  clear hb1 c0 c1 c2 c3 H
  obtain ⟨_, _, _, _, c0, c1, c2, c3⟩ := H1.out.ff.held
  go_wp2_with fail
  refine (rvalid_any W1 _ y e H1.out.ff.b.frac ly le he).mono ?_
  rintro _ W2 ⟨rfl, hb2⟩
  rw [gb]
  have H2 := Lib.hid (H1.out.after hb2)
  clear hb2 c0 c1 c2 c3 H1
  obtain ⟨_, _, _, _, c0, c1, c2, c3⟩ := H2.out.ff.held
  have F2 := H2.out.F
  obtain ⟨e0, d0, d1, d2, d3⟩ := F2.filled (z := 0) (d := 0) (A := none) (c := 0) (A' := none) (c' := 0) (by rw [show digs (0 : Int).natAbs = [] from digs_zero]; exact Rd.nil _ _ _ _) (by rw [digs_zero]; exact Rd.nil _ _ _ _) _ rfl
  simp only [show digs (0 : Int).natAbs = [] from digs_zero, digs_zero, List.length_nil, show decide ((0 : Int) < 0) = false from rfl] at e0 d0 d1 d2 d3
  have r0 := F2.r0
  have r1 := F2.r1
  have r2 := F2.r2
  have r3 := F2.r3
  have f0 := F2.fr 0
  have f1 := F2.fr 1
  have f2 := F2.fr 2
  have f3 := F2.fr 3
  have HE := Lib.hid (And.intro e0.2 (And.intro d0 (And.intro d1 (And.intro d2 d3))))
  clear e0 d0 d1 d2 d3 F2 H2
  go_wp2
  (try simp only [Exit.inBlock, Exit.then])
  refine bodyPost_ret (results_frac rfl _ _ (w.heap.size + 1 + 1) rfl HE.out.2.1 HE.out.2.2.1 HE.out.2.2.2.1 HE.out.2.2.2.2) rfl ?_
  exact ⟨rfl, HE.out.1⟩
end Go.Proofs.YtbeidpeoichakaaGreatDoor.uf

/- Fractions of any signs and words: program and reference give the same. -/
set_option linter.unusedSimpArgs false
set_option linter.unusedVariables false
namespace Go.Proofs.YtbeidpeoichakaaGreatDoor.ug
open Go.RowKit Go.Proofs.YtbeidpeoichakaaGreatDoor.fm Go.Proofs.YtbeidpeoichakaaGreatDoor.mem Go.Proofs.YtbeidpeoichakaaGreatDoor.fa Go.Proofs.YtbeidpeoichakaaGreatDoor.fb Go.Proofs.YtbeidpeoichakaaGreatDoor.fs Go.Proofs.YtbeidpeoichakaaGreatDoor.ft Go.Proofs.YtbeidpeoichakaaGreatDoor.fu Go.Proofs.YtbeidpeoichakaaGreatDoor.fv Go.Proofs.YtbeidpeoichakaaGreatDoor.fw Go.Proofs.YtbeidpeoichakaaGreatDoor.fy Go.Proofs.YtbeidpeoichakaaGreatDoor.ga Go.Proofs.YtbeidpeoichakaaGreatDoor.gb Go.Proofs.YtbeidpeoichakaaGreatDoor.gc Go.Proofs.YtbeidpeoichakaaGreatDoor.gd Go.Proofs.YtbeidpeoichakaaGreatDoor.gf Go.Proofs.YtbeidpeoichakaaGreatDoor.gg Go.Proofs.YtbeidpeoichakaaGreatDoor.fj Go.Proofs.YtbeidpeoichakaaGreatDoor.ja Go.Proofs.YtbeidpeoichakaaGreatDoor.jb Go.Proofs.YtbeidpeoichakaaGreatDoor.jg Go.Proofs.YtbeidpeoichakaaGreatDoor.jh Go.Proofs.YtbeidpeoichakaaGreatDoor.jj Go.Proofs.YtbeidpeoichakaaGreatDoor.jk Go.Proofs.YtbeidpeoichakaaGreatDoor.pa Go.Proofs.YtbeidpeoichakaaGreatDoor.pb Go.Proofs.YtbeidpeoichakaaGreatDoor.pc Go.Proofs.YtbeidpeoichakaaGreatDoor.na Go.Proofs.YtbeidpeoichakaaGreatDoor.nb Go.Proofs.YtbeidpeoichakaaGreatDoor.hb Go.Proofs.YtbeidpeoichakaaGreatDoor.hc Go.Proofs.YtbeidpeoichakaaGreatDoor.hd Go.Proofs.YtbeidpeoichakaaGreatDoor.ra Go.Proofs.YtbeidpeoichakaaGreatDoor.re Go.Proofs.YtbeidpeoichakaaGreatDoor.rb Go.Proofs.YtbeidpeoichakaaGreatDoor.rg Go.Proofs.YtbeidpeoichakaaGreatDoor.sa Go.Proofs.YtbeidpeoichakaaGreatDoor.sb Go.Proofs.YtbeidpeoichakaaGreatDoor.sc Go.Proofs.YtbeidpeoichakaaGreatDoor.ta Go.Proofs.YtbeidpeoichakaaGreatDoor.tb Go.Proofs.YtbeidpeoichakaaGreatDoor.ua Go.Proofs.YtbeidpeoichakaaGreatDoor.ub Go.Proofs.YtbeidpeoichakaaGreatDoor.uc Go.Proofs.YtbeidpeoichakaaGreatDoor.ud Go.Proofs.YtbeidpeoichakaaGreatDoor.ue Go.Proofs.YtbeidpeoichakaaGreatDoor.uf

/-- the fraction and the error that a call gives -/
def AnsF (w : World) (Z : Int) (D : Nat) (k : Int) (e : Ending) (w' : World) : Prop := ∃ v, e = .returned (.tuple #[v, .int .i64 k]) ∧ IsFrac w' v Z D ∧ Below w.heap.size w w'
def BothF (p r : FuncId) (f f' : Any) : Prop :=
  ∃ (Z : Int) (D : Nat) (k : Int), (digs Z.natAbs).length ≤ 256 ∧ (digs D).length ≤ 256 ∧ ∀ w a b, IsF w a f → IsF w b f' → Tabs w → Calls Tryz.prog p #[a, b] w (AnsF w Z D k) ∧ Calls Tryz.prog r #[a, b] w (AnsF w Z D k)
theorem nof_ans {w : World} {e : Ending} {w' : World} (h : NoF w e w') : AnsF w 0 0 1 e w' :=
  ⟨_, h.1, ⟨none, 0, none, 0, by rw [show digs (0 : Int).natAbs = [] from digs_zero, digs_zero]; rfl, by rw [show digs (0 : Int).natAbs = [] from digs_zero]; exact Rd.nil _ _ _ _, by rw [digs_zero]; exact Rd.nil _ _ _ _⟩, h.2⟩
theorem noq_ans {w : World} {e : Ending} {w' : World} (h : e = .returned (.tuple #[.agg #[.bool false, .slice none 0 0, .bool false, .slice none 0 0], .int .i64 8]) ∧ Below w.heap.size w w') : AnsF w 0 0 8 e w' :=
  ⟨_, h.1, ⟨none, 0, none, 0, by rw [show digs (0 : Int).natAbs = [] from digs_zero, digs_zero]; rfl, by rw [show digs (0 : Int).natAbs = [] from digs_zero]; exact Rd.nil _ _ _ _, by rw [digs_zero]; exact Rd.nil _ _ _ _⟩, h.2⟩
theorem nil_len : (digs (0 : Int).natAbs).length ≤ 256 ∧ (digs 0).length ≤ 256 := by
  rw [show digs (0 : Int).natAbs = [] from digs_zero, digs_zero]
  exact ⟨by decide, by decide⟩
/-- what a valid one is -/
structure Ok (f : Any) : Prop where
  fine : Fine f.z f.d
  low : lowB f.z f.d = true
theorem ok_of {w : World} {v : Value} {f : Any} (h : IsF w v f) (hf : f.fine = true) : Ok f ∧ IsFrac w v f.z f.d := by
  have hp : f.pre = true := by unfold Any.fine at hf; exact (Bool.and_eq_true_iff.1 hf).1
  obtain ⟨o1, o2⟩ := h.oks
  obtain ⟨e1, _, e3, _, b1, b2, d0, hz⟩ := Any.parts hp o1 o2
  have hl : lowB f.z f.d = true := by rw [← Any.low hp o1 o2]; exact hf
  refine ⟨⟨⟨by rw [e1]; exact b1, by rw [e3]; exact b2, d0, ?_⟩, hl⟩, h.frac hp⟩
  unfold lowB at hl
  exact eq_of_beq hl
theorem frac_ans {w : World} {N : Int} {D : Nat} {e : Ending} {w' : World} (h : Frac w N D e w') : AnsF w (if fits N D = true then N else 0) (if fits N D = true then D else 0) (if fits N D = true then 0 else 3) e w' := by
  obtain ⟨v, he, hI, hb⟩ := h
  exact ⟨v, he, hI, hb⟩
theorem fits_len (N : Int) (D : Nat) : (digs (if fits N D = true then N else 0).natAbs).length ≤ 256 ∧ (digs (if fits N D = true then D else 0)).length ≤ 256 := by
  by_cases h : fits N D = true
  · rw [if_pos h, if_pos h]
    unfold fits at h
    rw [Bool.and_eq_true, decide_eq_true_eq, decide_eq_true_eq] at h
    exact h
  · rw [if_neg h, if_neg h]
    exact nil_len
/-- from the valid and from the others -/
theorem both_of {p r : FuncId} (f f' : Any) (hs : f.l1.length ≤ 1000 ∧ f.l2.length ≤ 1000 ∧ f'.l1.length ≤ 1000 ∧ f'.l2.length ≤ 1000)
    (hb : ∀ w a b, IsF w a f → IsF w b f' → Tabs w → (f.fine && f'.fine) = false → Calls Tryz.prog p #[a, b] w (NoF w) ∧ Calls Tryz.prog r #[a, b] w (NoF w))
    (N : Int) (D : Nat) (hg : ∀ w a b, IsFrac w a f.z f.d → IsFrac w b f'.z f'.d → Ok f → Ok f' → Tabs w → Calls Tryz.prog p #[a, b] w (Low w N D) ∧ Calls Tryz.prog r #[a, b] w (Low w N D)) : BothF p r f f' := by
  cases hf : (f.fine && f'.fine)
  · refine ⟨0, 0, 1, nil_len.1, nil_len.2, fun w a b ha hb' hT => ?_⟩
    obtain ⟨h1, h2⟩ := hb w a b ha hb' hT hf
    exact ⟨h1.mono fun e w' h => nof_ans h, h2.mono fun e w' h => nof_ans h⟩
  · rw [Bool.and_eq_true] at hf
    obtain ⟨l1, l2⟩ := fits_len (N.tdiv (Nat.gcd N.natAbs D : Nat)) (D / Nat.gcd N.natAbs D)
    refine ⟨_, _, if fits (N.tdiv (Nat.gcd N.natAbs D : Nat)) (D / Nat.gcd N.natAbs D) = true then 0 else 3, l1, l2, fun w a b ha hb' hT => ?_⟩
    obtain ⟨o1, i1⟩ := ok_of ha hf.1
    obtain ⟨o2, i2⟩ := ok_of hb' hf.2
    obtain ⟨h1, h2⟩ := hg w a b i1 i2 o1 o2 hT
    exact ⟨h1.mono fun e w' h => frac_ans h, h2.mono fun e w' h => frac_ans h⟩
section
variable (f f' : Any) (hs : f.l1.length ≤ 1000 ∧ f.l2.length ≤ 1000 ∧ f'.l1.length ≤ 1000 ∧ f'.l2.length ≤ 1000)
include hs
theorem bothF_add : BothF 11 12 f f' :=
  both_of f f' hs (fun w a b ha hb hT hp => ⟨padd_bad w a b f f' ha hb hs hT hp, ud.radd_bad w a b f f' ha hb hs hp⟩) _ _
    fun w a b i1 i2 o1 o2 hT => ⟨addFrac_any w a b _ _ _ _ i1 i2 o1.fine o2.fine hT, radd_any w a b _ _ _ _ i1 i2 o1.fine.hz o1.fine.hd o2.fine.hz o2.fine.hd o1.fine.d0 o2.fine.d0 o1.low o2.low⟩
theorem bothF_sub : BothF 14 15 f f' :=
  both_of f f' hs (fun w a b ha hb hT hp => ⟨psub_bad w a b f f' ha hb hs hT hp, ud.rsub_bad w a b f f' ha hb hs hp⟩) _ _
    fun w a b i1 i2 o1 o2 hT => ⟨subFrac_any w a b _ _ _ _ i1 i2 o1.fine o2.fine hT, rsub_any w a b _ _ _ _ i1 i2 o1.fine.hz o1.fine.hd o2.fine.hz o2.fine.hd o1.fine.d0 o2.fine.d0 o1.low o2.low⟩
theorem bothF_mul : BothF 16 17 f f' :=
  both_of f f' hs (fun w a b ha hb hT hp => ⟨pmul_bad w a b f f' ha hb hs hT hp, ud.rmul_bad w a b f f' ha hb hs hp⟩) _ _
    fun w a b i1 i2 o1 o2 hT => ⟨mulFrac_any w a b _ _ _ _ i1 i2 o1.fine o2.fine hT, rmul_any w a b _ _ _ _ i1 i2 o1.fine.hz o1.fine.hd o2.fine.hz o2.fine.hd o1.fine.d0 o2.fine.d0 o1.low o2.low⟩
theorem bothF_div : BothF 18 19 f f' := by
  by_cases hy : f'.z = 0
  · cases hf : (f.fine && f'.fine)
    · refine ⟨0, 0, 1, nil_len.1, nil_len.2, fun w a b ha hb' hT => ?_⟩
      exact ⟨(pdiv_bad w a b f f' ha hb' hs hT hf).mono fun e w' h => nof_ans h, (ud.rdiv_bad w a b f f' ha hb' hs hf).mono fun e w' h => nof_ans h⟩
    · rw [Bool.and_eq_true] at hf
      refine ⟨0, 0, 8, nil_len.1, nil_len.2, fun w a b ha hb' hT => ?_⟩
      obtain ⟨o1, i1⟩ := ok_of ha hf.1
      obtain ⟨o2, i2⟩ := ok_of hb' hf.2
      refine ⟨?_, (rdiv_zero w a b _ _ _ _ i1 i2 o1.fine.hz o1.fine.hd o2.fine.hz o2.fine.hd o1.fine.d0 o2.fine.d0 o1.low o2.low hy).mono fun e w' h => noq_ans h⟩
      have i2' := i2
      have F2 := o2.fine
      rw [hy] at i2' F2
      exact (divFrac_none w a b _ _ _ i1 i2' o1.fine F2 hT).mono fun e w' h => h
  · exact both_of f f' hs (fun w a b ha hb hT hp => ⟨pdiv_bad w a b f f' ha hb hs hT hp, ud.rdiv_bad w a b f f' ha hb hs hp⟩) _ _
      fun w a b i1 i2 o1 o2 hT => ⟨divFrac_any w a b _ _ _ _ i1 i2 o1.fine o2.fine hy hT, rdiv_any w a b _ _ _ _ i1 i2 o1.fine.hz o1.fine.hd o2.fine.hz o2.fine.hd o1.fine.d0 o2.fine.d0 o1.low o2.low hy⟩
theorem bothF_cmp : ∃ k : Int, ∀ w a b, IsF w a f → IsF w b f' → Tabs w → Calls Tryz.prog 20 #[a, b] w (fun e w' => e = .returned (.int .i64 k) ∧ Below w.heap.size w w') ∧ Calls Tryz.prog 21 #[a, b] w (fun e w' => e = .returned (.int .i64 k) ∧ Below w.heap.size w w') := by
  cases hf : (f.fine && f'.fine)
  · exact ⟨0, fun w a b ha hb hT => ⟨pcmp_bad w a b f f' ha hb hs hT hf, ud.rcmp_bad w a b f f' ha hb hs hf⟩⟩
  · rw [Bool.and_eq_true] at hf
    refine ⟨fw.order (f.z * f'.d) (f'.z * f.d), fun w a b ha hb hT => ?_⟩
    obtain ⟨o1, i1⟩ := ok_of ha hf.1
    obtain ⟨o2, i2⟩ := ok_of hb hf.2
    exact ⟨cmpFrac_any w a b _ _ _ _ i1 i2 o1.fine o2.fine hT, sb.rcmpF_any w a b _ _ _ _ i1 i2 o1.fine.hz o1.fine.hd o2.fine.hz o2.fine.hd o1.fine.d0 o2.fine.d0 o1.low o2.low⟩
end
theorem bothF_text (f : Any) (hs : f.l1.length ≤ 1000 ∧ f.l2.length ≤ 1000) : ∃ t : ByteArray, ∀ w a, IsF w a f → Tabs w → Pow w → Calls Tryz.prog 24 #[a] w (fun e w' => e = .returned (.string t) ∧ Below w.heap.size w w') ∧ Calls Tryz.prog 25 #[a] w (fun e w' => e = .returned (.string t) ∧ Below w.heap.size w w') := by
  cases hf : f.fine
  · exact ⟨⟨#[]⟩, fun w a ha hT hP => ⟨ptext_bad w a f ha hs hT hf, ud.rtext_bad w a f ha hs hf⟩⟩
  · refine ⟨ba (textOf f.z f.d), fun w a ha hT hP => ?_⟩
    obtain ⟨o1, i1⟩ := ok_of ha hf
    exact ⟨text_any w a _ _ i1 o1.fine hT hP, rtext_any w a _ _ 256 i1 ⟨o1.fine.hz, o1.fine.hd, o1.fine.d0, o1.fine.low⟩ (by decide)⟩
theorem bothF_valid (f : Any) (hs : f.l1.length ≤ 1000 ∧ f.l2.length ≤ 1000) : ∃ v : Bool, ∀ w a, IsF w a f → Tabs w → Calls Tryz.prog 22 #[a] w (fun e w' => e = .returned (.bool v) ∧ Below w.heap.size w w') ∧ Calls Tryz.prog 23 #[a] w (fun e w' => e = .returned (.bool v) ∧ Below w.heap.size w w') :=
  ⟨f.fine, fun w a ha hT => ⟨pvalidF w a f ha hs hT, rvalidF w a f ha (by omega) (by omega)⟩⟩
end Go.Proofs.YtbeidpeoichakaaGreatDoor.ug
