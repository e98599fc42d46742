/- The reference: Decimal: what lies in memory, and the mathematics. -/
import Derived.Test.YtfnfnagdecpobaaDoorPe
import Derived.Test.YtfnfnagdecpobaaDoorPc
import Derived.Laws.IdiomStrings
import Derived.Lib.OthersKept
set_option linter.unusedSimpArgs false
namespace Go.Proofs.YtfnfnagdecpobaaDoor.pf
open Go.RowKit Go.Proofs.YtfnfnagdecpobaaDoor.fm Go.Proofs.YtfnfnagdecpobaaDoor.mem Go.Proofs.YtfnfnagdecpobaaDoor.fu Go.Proofs.YtfnfnagdecpobaaDoor.fv Go.Proofs.YtfnfnagdecpobaaDoor.fw Go.Proofs.YtfnfnagdecpobaaDoor.fy Go.Proofs.YtfnfnagdecpobaaDoor.fz Go.Proofs.YtfnfnagdecpobaaDoor.gb Go.Proofs.YtfnfnagdecpobaaDoor.gc Go.Proofs.YtfnfnagdecpobaaDoor.ge Go.Proofs.YtfnfnagdecpobaaDoor.he Go.Proofs.YtfnfnagdecpobaaDoor.jh Go.Proofs.YtfnfnagdecpobaaDoor.pd

theorem dval_append (l m : List UInt8) : dval (l ++ m) = dval l * 10 ^ m.length + dval m := by
  have key : ∀ n (m : List UInt8), m.length = n → dval (l ++ m) = dval l * 10 ^ m.length + dval m := by
    intro n
    induction n with
    | zero => intro m h; rw [List.eq_nil_of_length_eq_zero h]; simp [dval]
    | succ n ih =>
      intro m h
      obtain ⟨m', b, rfl⟩ : ∃ m' b, m = m' ++ [b] := ⟨m.dropLast, m.getLast (by intro e; rw [e] at h; simp at h), (List.dropLast_concat_getLast _).symm⟩
      rw [List.length_append] at h
      rw [← List.append_assoc, dval_snoc, ih m' (by simpa using h), dval_snoc, List.length_append, List.length_singleton, Nat.pow_succ, Nat.mul_add, ← Nat.mul_assoc, Nat.mul_comm 10 (dval l), Nat.mul_assoc, Nat.mul_comm 10 (10 ^ m'.length)]
      omega
  exact key _ m rfl

theorem dval_small {l : List UInt8} (h : l.all dig = true) (hl : l.length ≤ 24) : dval l < 1000000000000000000000000 :=
  Nat.lt_of_lt_of_le (dval_lt l h) (Nat.le_trans (Nat.pow_le_pow_right (by decide) hl) (by decide))

theorem len_small {m : Nat} (h : m < 10000000000000000000000000) : (digs m).length ≤ 3 := (lt_len_iff m 3).2 (Nat.lt_of_lt_of_le h (by decide))

/-- Two big integers in boxes of their own, at blocks g and g + 1, behind the result's box; the bytes of a text at block gb. -/
structure DSt (w W : World) (g gb : Nat) (l : List UInt8) (N D : Int) (A : Option Addr) (c : Nat) (A' : Option Addr) (c' : Nat) : Prop where
  F : FBox w W w.heap.size
  lo : w.heap.size + 1 ≤ g
  hi : g + 1 < W.heap.size
  n0 : W.cell? ⟨g, 0, none⟩ = some (.bool (decide (N < 0)))
  n1 : W.cell? ⟨g, 1, none⟩ = some (.slice A (digs N.natAbs).length c)
  d0 : W.cell? ⟨g + 1, 0, none⟩ = some (.bool (decide (D < 0)))
  d1 : W.cell? ⟨g + 1, 1, none⟩ = some (.slice A' (digs D.natAbs).length c')
  fn : ∀ k, W.frozen? ⟨g, k, none⟩ = false
  fd : ∀ k, W.frozen? ⟨g + 1, k, none⟩ = false
  RN : Rd W W.heap.size A c (digs N.natAbs)
  RD : Rd W W.heap.size A' c' (digs D.natAbs)
  bl : l = [] ∨ (g + 1 < gb ∧ gb < W.heap.size)
  by' : ∀ j x, l[j]? = some x → W.cell? ⟨gb, j, none⟩ = some (.int .u8 (x.toNat : Int))

section
variable {w W W' : World} {g gb : Nat} {l : List UInt8} {N D : Int} {A A' : Option Addr} {c c' : Nat}

theorem DSt.after (S : DSt w W g gb l N D A c A' c') (h : Below W.heap.size W W') : DSt w W' g gb l N D A c A' c' := by
  have hi := S.hi
  have hg : g < W.heap.size := by omega
  refine ⟨S.F.after h, S.lo, Nat.lt_of_lt_of_le S.hi h.size, (h.cell hg).trans S.n0, (h.cell hg).trans S.n1, (h.cell (p := ⟨g + 1, 0, none⟩) S.hi).trans S.d0, (h.cell (p := ⟨g + 1, 1, none⟩) S.hi).trans S.d1,
    fun k => (below_frozen h hg).trans (S.fn k), fun k => (below_frozen h (p := ⟨g + 1, k, none⟩) S.hi).trans (S.fd k), (S.RN.below h).more h.size, (S.RD.below h).more h.size, ?_, fun j x hj => ?_⟩
  · rcases S.bl with e | ⟨h1, h2⟩
    · exact .inl e
    · exact .inr ⟨h1, Nat.lt_of_lt_of_le h2 h.size⟩
  · rcases S.bl with e | ⟨h1, h2⟩
    · rw [e] at hj; exact absurd hj (by simp)
    · exact (h.cell (p := ⟨gb, j, none⟩) h2).trans (S.by' j x hj)

theorem DSt.draw (S : DSt w W g gb l N D A c A' c') : DSt w W.drew g gb l N D A c A' c' := S.after (Below.refl _ _).drew

theorem DSt.big (S : DSt w W g gb l N D A c A' c') : IsBig W (.agg #[.bool (decide (N < 0)), .slice A (digs N.natAbs).length c]) N := ⟨A, c, rfl, S.RN⟩
theorem DSt.den (S : DSt w W g gb l N D A c A' c') : IsBig W (.agg #[.bool (decide (D < 0)), .slice A' (digs D.natAbs).length c']) D := ⟨A', c', rfl, S.RD⟩

theorem two_other {p : Addr} {h : Nat} {v0 v1 : Value} (hp : p.block ≠ h) : ((W.setCell ⟨h, 0, none⟩ v0).setCell ⟨h, 1, none⟩ v1).cell? p = W.cell? p :=
  (World.cell?_setCell_other _ _ _ _ (by rintro rfl; exact hp rfl)).trans (World.cell?_setCell_other _ _ _ _ (by rintro rfl; exact hp rfl))

/-- another number in the first box -/
theorem DSt.putN (S : DSt w W g gb l N D A c A' c') {Z : Int} {A2 : Option Addr} {c2 : Nat} (R : Rd W W.heap.size A2 c2 (digs Z.natAbs)) :
    DSt w ((W.setCell ⟨g, 0, none⟩ (.bool (decide (Z < 0)))).setCell ⟨g, 1, none⟩ (.slice A2 (digs Z.natAbs).length c2)) g gb l Z D A2 c2 A' c' := by
  have lo := S.lo
  have hi := S.hi
  have e1 : (W.setCell ⟨g, 0, none⟩ (.bool (decide (Z < 0)))).cell? ⟨g, 1, none⟩ = some (.slice A (digs N.natAbs).length c) := (World.cell?_setCell_other _ _ _ _ (by intro h; cases h)).trans S.n1
  have hb : Below (w.heap.size + 1) W ((W.setCell ⟨g, 0, none⟩ (.bool (decide (Z < 0)))).setCell ⟨g, 1, none⟩ (.slice A2 (digs Z.natAbs).length c2)) :=
    ((Below.refl _ _).setCell (p := ⟨g, 0, none⟩) lo _).setCell (p := ⟨g, 1, none⟩) lo _
  have hw : w.heap.size < w.heap.size + 1 := Nat.lt_succ_self _
  have rs : ∀ {A3 : Option Addr} {c3 : Nat} {m : List Nat}, Rd W W.heap.size A3 c3 m → Rd ((W.setCell ⟨g, 0, none⟩ (.bool (decide (Z < 0)))).setCell ⟨g, 1, none⟩ (.slice A2 (digs Z.natAbs).length c2)) ((W.setCell ⟨g, 0, none⟩ (.bool (decide (Z < 0)))).setCell ⟨g, 1, none⟩ (.slice A2 (digs Z.natAbs).length c2)).heap.size A3 c3 m := by
    intro A3 c3 m R3
    have h1 : Rd (W.setCell ⟨g, 0, none⟩ (.bool (decide (Z < 0)))) W.heap.size A3 c3 m := rd_set R3 (ni_bool S.n0)
    have h2 := rd_set (v := .slice A2 (digs Z.natAbs).length c2) h1 (ni_slice e1)
    exact h2.more (by simp)
  refine ⟨⟨S.F.bel.trans (hb.mono (Nat.le_succ _)), S.F.lo, by simpa using S.F.size, (hb.cell hw).trans S.F.r0, (hb.cell hw).trans S.F.r1, (hb.cell hw).trans S.F.r2, (hb.cell hw).trans S.F.r3, fun k => (below_frozen hb hw).trans (S.F.fr k)⟩, lo, by simpa using hi, ?_, ?_, ?_, ?_, ?_, ?_, rs R, rs S.RD, ?_, ?_⟩
  · exact (World.cell?_setCell_other _ _ _ _ (by intro h; cases h)).trans (World.cell?_setCell_same _ _ _ S.n0)
  · exact World.cell?_setCell_same _ _ _ e1
  · exact (two_other (by show g + 1 ≠ g; omega)).trans S.d0
  · exact (two_other (by show g + 1 ≠ g; omega)).trans S.d1
  · intro k; simpa [go_sem] using S.fn k
  · intro k; simpa [go_sem] using S.fd k
  · simpa using S.bl
  · intro j x hj
    rcases S.bl with e | ⟨h1, h2⟩
    · rw [e] at hj; exact absurd hj (by simp)
    · exact (two_other (by show gb ≠ g; omega)).trans (S.by' j x hj)

/-- .. in the second -/
theorem DSt.putD (S : DSt w W g gb l N D A c A' c') {Z : Int} {A2 : Option Addr} {c2 : Nat} (R : Rd W W.heap.size A2 c2 (digs Z.natAbs)) :
    DSt w ((W.setCell ⟨g + 1, 0, none⟩ (.bool (decide (Z < 0)))).setCell ⟨g + 1, 1, none⟩ (.slice A2 (digs Z.natAbs).length c2)) g gb l N Z A c A2 c2 := by
  have lo := S.lo
  have hi := S.hi
  have e1 : (W.setCell ⟨g + 1, 0, none⟩ (.bool (decide (Z < 0)))).cell? ⟨g + 1, 1, none⟩ = some (.slice A' (digs D.natAbs).length c') := (World.cell?_setCell_other _ _ _ _ (by intro h; cases h)).trans S.d1
  have hb : Below (w.heap.size + 1) W ((W.setCell ⟨g + 1, 0, none⟩ (.bool (decide (Z < 0)))).setCell ⟨g + 1, 1, none⟩ (.slice A2 (digs Z.natAbs).length c2)) :=
    ((Below.refl _ _).setCell (p := ⟨g + 1, 0, none⟩) (by show w.heap.size + 1 ≤ g + 1; omega) _).setCell (p := ⟨g + 1, 1, none⟩) (by show w.heap.size + 1 ≤ g + 1; omega) _
  have hw : w.heap.size < w.heap.size + 1 := Nat.lt_succ_self _
  have rs : ∀ {A3 : Option Addr} {c3 : Nat} {m : List Nat}, Rd W W.heap.size A3 c3 m → Rd ((W.setCell ⟨g + 1, 0, none⟩ (.bool (decide (Z < 0)))).setCell ⟨g + 1, 1, none⟩ (.slice A2 (digs Z.natAbs).length c2)) ((W.setCell ⟨g + 1, 0, none⟩ (.bool (decide (Z < 0)))).setCell ⟨g + 1, 1, none⟩ (.slice A2 (digs Z.natAbs).length c2)).heap.size A3 c3 m := by
    intro A3 c3 m R3
    have h1 : Rd (W.setCell ⟨g + 1, 0, none⟩ (.bool (decide (Z < 0)))) W.heap.size A3 c3 m := rd_set R3 (ni_bool S.d0)
    have h2 := rd_set (v := .slice A2 (digs Z.natAbs).length c2) h1 (ni_slice e1)
    exact h2.more (by simp)
  refine ⟨⟨S.F.bel.trans (hb.mono (Nat.le_succ _)), S.F.lo, by simpa using S.F.size, (hb.cell hw).trans S.F.r0, (hb.cell hw).trans S.F.r1, (hb.cell hw).trans S.F.r2, (hb.cell hw).trans S.F.r3, fun k => (below_frozen hb hw).trans (S.F.fr k)⟩, lo, by simpa using hi, ?_, ?_, ?_, ?_, ?_, ?_, rs S.RN, rs R, ?_, ?_⟩
  · exact (two_other (by show g ≠ g + 1; omega)).trans S.n0
  · exact (two_other (by show g ≠ g + 1; omega)).trans S.n1
  · exact (World.cell?_setCell_other _ _ _ _ (by intro h; cases h)).trans (World.cell?_setCell_same _ _ _ S.d0)
  · exact World.cell?_setCell_same _ _ _ e1
  · intro k; simpa [go_sem] using S.fn k
  · intro k; simpa [go_sem] using S.fd k
  · simpa using S.bl
  · intro j x hj
    rcases S.bl with e | ⟨h1, h2⟩
    · rw [e] at hj; exact absurd hj (by simp)
    · exact (two_other (by show gb ≠ g + 1; omega)).trans (S.by' j x hj)
end

theorem dst_new {w W : World} (F : FBox w W w.heap.size) (D : Int) (A' : Option Addr) (c' gb : Nat) (R : Rd W W.heap.size A' c' (digs D.natAbs)) :
    DSt w ((W.alloc (.cells #[.bool false, .slice none 0 0] 28)).alloc (.cells #[.bool (decide (D < 0)), .slice A' (digs D.natAbs).length c'] 28)) W.heap.size gb [] 0 D none 0 A' c' := by
  have hb : Below W.heap.size W ((W.alloc (.cells #[.bool false, .slice none 0 0] 28)).alloc (.cells #[.bool (decide (D < 0)), .slice A' (digs D.natAbs).length c'] 28)) := ((Below.refl _ _).alloc (Nat.le_refl _) _).alloc (by simp) _
  have e0 : digs (0 : Int).natAbs = [] := digs_zero
  refine ⟨F.after hb, by have := F.size; omega, by simp, ?_, ?_, ?_, ?_, ?_, ?_, by rw [e0]; exact Rd.nil _ _ _ _, (R.below hb).more hb.size, .inl rfl, fun j x hj => absurd hj (by simp)⟩
  · simp [go_sem]
  · rw [e0]; simp [go_sem]
  · simp [go_sem]
  · simp [go_sem]
  · intro k; simp [go_sem]
  · intro k; simp [go_sem]

end Go.Proofs.YtfnfnagdecpobaaDoor.pf
