/- Fractions of any signs and words: which are valid; the reference's Valid. -/
import Derived.Test.YtbeidpeoichakaaGreatDoorTa
import Derived.Test.YtbeidpeoichakaaGreatDoorRg
import Derived.Test.YtbeidpeoichakaaGreatDoorRa
set_option linter.unusedSimpArgs false
set_option linter.unusedVariables false
namespace Go.Proofs.YtbeidpeoichakaaGreatDoor.ua
open Go.RowKit Go.Proofs.YtbeidpeoichakaaGreatDoor.fm Go.Proofs.YtbeidpeoichakaaGreatDoor.mem Go.Proofs.YtbeidpeoichakaaGreatDoor.fa Go.Proofs.YtbeidpeoichakaaGreatDoor.fb Go.Proofs.YtbeidpeoichakaaGreatDoor.fu Go.Proofs.YtbeidpeoichakaaGreatDoor.fv Go.Proofs.YtbeidpeoichakaaGreatDoor.fw Go.Proofs.YtbeidpeoichakaaGreatDoor.fy Go.Proofs.YtbeidpeoichakaaGreatDoor.ga Go.Proofs.YtbeidpeoichakaaGreatDoor.gb Go.Proofs.YtbeidpeoichakaaGreatDoor.gc Go.Proofs.YtbeidpeoichakaaGreatDoor.fj Go.Proofs.YtbeidpeoichakaaGreatDoor.gg Go.Proofs.YtbeidpeoichakaaGreatDoor.ja Go.Proofs.YtbeidpeoichakaaGreatDoor.jb Go.Proofs.YtbeidpeoichakaaGreatDoor.jg Go.Proofs.YtbeidpeoichakaaGreatDoor.jh Go.Proofs.YtbeidpeoichakaaGreatDoor.pa Go.Proofs.YtbeidpeoichakaaGreatDoor.pb Go.Proofs.YtbeidpeoichakaaGreatDoor.pc Go.Proofs.YtbeidpeoichakaaGreatDoor.nb Go.Proofs.YtbeidpeoichakaaGreatDoor.hc Go.Proofs.YtbeidpeoichakaaGreatDoor.hd Go.Proofs.YtbeidpeoichakaaGreatDoor.re Go.Proofs.YtbeidpeoichakaaGreatDoor.rb Go.Proofs.YtbeidpeoichakaaGreatDoor.rg Go.Proofs.YtbeidpeoichakaaGreatDoor.sa Go.Proofs.YtbeidpeoichakaaGreatDoor.sb Go.Proofs.YtbeidpeoichakaaGreatDoor.sc Go.Proofs.YtbeidpeoichakaaGreatDoor.ta Go.Proofs.YtbeidpeoichakaaGreatDoor.tb

/-- signs and words of a fraction that may be none -/
structure Any where
  n1 : Bool
  l1 : List Nat
  n2 : Bool
  l2 : List Nat
/-- its parts are big integers, and it may have a divisor -/
def Any.pre (f : Any) : Bool := good f.n1 f.l1 && good f.n2 f.l2 && !f.n2 && !(f.l2.length == 0)
def Any.fine (f : Any) : Bool := f.pre && (Nat.gcd (val f.l1) (val f.l2) == 1)
def Any.z (f : Any) : Int := sgnd f.n1 (val f.l1)
def Any.d (f : Any) : Nat := val f.l2
/-- the cells of its value -/
def Any.cells (f : Any) (A : Option Addr) (c : Nat) (B : Option Addr) (k : Nat) : Array Value := #[.bool f.n1, .slice A f.l1.length c, .bool f.n2, .slice B f.l2.length k]
def IsF (w : World) (v : Value) (f : Any) : Prop := ∃ A c B k, v = .agg (f.cells A c B k) ∧ Rd w w.heap.size A c f.l1 ∧ Rd w w.heap.size B k f.l2
theorem IsF.after {w w' : World} {v : Value} {f : Any} (h : IsF w v f) (hb : Below w.heap.size w w') : IsF w' v f := by
  obtain ⟨A, c, B, k, e, R, S⟩ := h
  exact ⟨A, c, B, k, e, (R.below hb).more hb.size, (S.below hb).more hb.size⟩
/-- a fraction of big integers, as one -/
def ofFrac (z : Int) (d : Nat) : Any := ⟨decide (z < 0), digs z.natAbs, false, digs d⟩
theorem isF_of {w : World} {v : Value} {z : Int} {d : Nat} (h : IsFrac w v z d) : IsF w v (ofFrac z d) := h

/-- one that may be valid is a fraction of numbers -/
theorem Any.parts {f : Any} (h : f.pre = true) (h1 : ok f.l1) (h2 : ok f.l2) : digs f.z.natAbs = f.l1 ∧ decide (f.z < 0) = f.n1 ∧ digs f.d = f.l2 ∧ f.n2 = false ∧ f.l1.length ≤ 256 ∧ f.l2.length ≤ 256 ∧ f.d ≠ 0 ∧ f.z.natAbs = val f.l1 := by
  unfold Any.pre at h
  simp only [Bool.and_eq_true, Bool.not_eq_true'] at h
  obtain ⟨⟨⟨g1, g2⟩, h3⟩, h4⟩ := h
  obtain ⟨a1, a2, a3⟩ := good_digs h1 g1
  obtain ⟨b1, b2, b3⟩ := good_digs h2 g2
  have hz : f.z.natAbs = val f.l1 := by unfold Any.z; exact sgnd_abs _ _
  have hne : f.l2.length ≠ 0 := by simpa using h4
  refine ⟨by rw [hz]; exact a1, a2, b1, h3, a3, b3, fun e => hne ?_, hz⟩
  have : digs f.d = [] := by rw [e]; exact digs_zero
  unfold Any.d at this
  rw [b1] at this
  rw [this]; rfl
theorem IsF.frac {w : World} {v : Value} {f : Any} (h : IsF w v f) (hp : f.pre = true) : IsFrac w v f.z f.d := by
  obtain ⟨A, c, B, k, rfl, R, S⟩ := h
  obtain ⟨e1, e2, e3, e4, _, _, _, _⟩ := Any.parts hp R.ok S.ok
  refine ⟨A, c, B, k, ?_, by rw [e1]; exact R, by rw [e3]; exact S⟩
  unfold Any.cells
  rw [e1, e2, e3, e4]
theorem IsF.oks {w : World} {v : Value} {f : Any} (h : IsF w v f) : ok f.l1 ∧ ok f.l2 := by
  obtain ⟨A, c, B, k, rfl, R, S⟩ := h
  exact ⟨R.ok, S.ok⟩
theorem Any.low {f : Any} (h : f.pre = true) (h1 : ok f.l1) (h2 : ok f.l2) : f.fine = lowB f.z f.d := by
  obtain ⟨_, _, _, _, _, _, _, hz⟩ := Any.parts h h1 h2
  unfold Any.fine lowB
  rw [h, hz]
  rfl

/-- a fraction in a box -/
structure FA (W : World) (g : Nat) (f : Any) (A : Option Addr) (c : Nat) (B : Option Addr) (k : Nat) : Prop where
  lt : g < W.heap.size
  c0 : W.cell? ⟨g, 0, none⟩ = some (.bool f.n1)
  c1 : W.cell? ⟨g, 1, none⟩ = some (.slice A f.l1.length c)
  c2 : W.cell? ⟨g, 2, none⟩ = some (.bool f.n2)
  c3 : W.cell? ⟨g, 3, none⟩ = some (.slice B f.l2.length k)
  R : Rd W W.heap.size A c f.l1
  S : Rd W W.heap.size B k f.l2
theorem FA.after {W W' : World} {g : Nat} {f : Any} {A B : Option Addr} {c k : Nat} (F : FA W g f A c B k) (h : Below W.heap.size W W') : FA W' g f A c B k :=
  ⟨Nat.lt_of_lt_of_le F.lt h.size, (h.cell F.lt).trans F.c0, (h.cell F.lt).trans F.c1, (h.cell F.lt).trans F.c2, (h.cell F.lt).trans F.c3, (F.R.below h).more h.size, (F.S.below h).more h.size⟩
theorem fa_new {W : World} {f : Any} {A B : Option Addr} {c k : Nat} (R : Rd W W.heap.size A c f.l1) (S : Rd W W.heap.size B k f.l2) (t : TypeId) : FA (W.alloc (.cells (f.cells A c B k) t)) W.heap.size f A c B k := by
  have h := (Below.refl W.heap.size W).alloc (Nat.le_refl _) (.cells (f.cells A c B k) t)
  refine ⟨by simp, ?_, ?_, ?_, ?_, (R.below h).more h.size, (S.below h).more h.size⟩
  all_goals (rw [World.cell?_alloc_new]; rfl)

set_option maxRecDepth 100000 in
set_option maxHeartbeats 4000000 in
theorem rvalid_bad (w : World) (a : Value) (f : Any) (ha : IsF w a f) (hs : f.l1.length ≤ 1000000) (hs' : f.l2.length ≤ 1000000) (hp : f.pre = false) :
    Calls Tryz.prog 23 #[a] w fun e w' => e = .returned (.bool false) ∧ Below w.heap.size w w' := by
  obtain ⟨A, c, B, k, rfl, R, S⟩ := ha
  go_enter Tryz.func23, Tryz.ntmps23
  have hF := fa_new R S 30
  have hB : Below w.heap.size w (w.alloc (.cells (f.cells A c B k) 30)) := (Below.refl _ _).alloc (Nat.le_refl _) _
  obtain ⟨W, hW⟩ : ∃ W, W = w.alloc (.cells (f.cells A c B k) 30) := ⟨_, rfl⟩
  rw [← hW] at hF hB
  obtain ⟨n1, l1, n2, l2⟩ := f
  unfold Any.cells at hW
  dsimp only at hW hs hs'
  have H := Lib.hid (And.intro hB hF)
  have c0 := hF.c0
  have c1 := hF.c1
  dsimp only at c0 c1
  unfold Any.pre at hp
  dsimp only at hp
  have HP := Lib.hid hp
  unfold Any.cells
  clear hF hB R S hp
  go_upto_region 1 with fail
  rw [← hW]
  clear hW
  go_wp2_with fail
  refine (rvalidBig_gen W n1 l1 A c H.out.2.R hs).mono ?_
  rintro _ W1 ⟨rfl, hb1⟩
  have H1 := Lib.hid (And.intro (H.out.1.trans (hb1.mono H.out.1.size)) (H.out.2.after hb1))
  clear hb1 c0 c1 H
  cases hg1 : good n1 l1
  · go_wp2_with fail
    go_ret
    exact ⟨rfl, H1.out.1⟩
  have c2 := H1.out.2.c2
  have c3 := H1.out.2.c3
  dsimp only at c2 c3
  go_wp2_with fail
  refine (rvalidBig_gen W1 n2 l2 B k H1.out.2.S hs').mono ?_
  rintro _ W2 ⟨rfl, hb2⟩
  have H2 := Lib.hid (And.intro (H1.out.1.trans (hb2.mono H1.out.1.size)) (H1.out.2.after hb2))
  clear hb2 c2 c3 H1
  cases hg2 : good n2 l2
  · go_wp2_with fail
    go_ret
    exact ⟨rfl, H2.out.1⟩
  have c2 := H2.out.2.c2
  have c3 := H2.out.2.c3
  dsimp only at c2 c3
  cases n2
  · have h0 : ((l2.length : Int) == 0) = true := by
      have := HP.out
      rw [hg1, hg2] at this
      simpa using this
    go_wp2_with fail
    go_ret
    exact ⟨rfl, H2.out.1⟩
  · go_wp2_with fail
    go_ret
    exact ⟨rfl, H2.out.1⟩

theorem rvalidF (w : World) (a : Value) (f : Any) (ha : IsF w a f) (hs : f.l1.length ≤ 1000000) (hs' : f.l2.length ≤ 1000000) :
    Calls Tryz.prog 23 #[a] w fun e w' => e = .returned (.bool f.fine) ∧ Below w.heap.size w w' := by
  cases hp : f.pre
  · have e : f.fine = false := by unfold Any.fine; rw [hp]; rfl
    rw [e]
    exact rvalid_bad w a f ha hs hs' hp
  · obtain ⟨o1, o2⟩ := ha.oks
    obtain ⟨e1, _, e3, _, b1, b2, d0, _⟩ := Any.parts hp o1 o2
    rw [Any.low hp o1 o2]
    exact rvalid_any w a f.z f.d (ha.frac hp) (by rw [e1]; exact b1) (by rw [e3]; exact b2) d0
end Go.Proofs.YtbeidpeoichakaaGreatDoor.ua

/- Fractions of any signs and words: the program's validAll. -/
set_option linter.unusedSimpArgs false
set_option linter.unusedVariables false
namespace Go.Proofs.YtbeidpeoichakaaGreatDoor.ub
open Go.RowKit Go.Proofs.YtbeidpeoichakaaGreatDoor.fm Go.Proofs.YtbeidpeoichakaaGreatDoor.mem Go.Proofs.YtbeidpeoichakaaGreatDoor.fa Go.Proofs.YtbeidpeoichakaaGreatDoor.fb Go.Proofs.YtbeidpeoichakaaGreatDoor.fs Go.Proofs.YtbeidpeoichakaaGreatDoor.ft Go.Proofs.YtbeidpeoichakaaGreatDoor.fu Go.Proofs.YtbeidpeoichakaaGreatDoor.fv Go.Proofs.YtbeidpeoichakaaGreatDoor.fw Go.Proofs.YtbeidpeoichakaaGreatDoor.fy Go.Proofs.YtbeidpeoichakaaGreatDoor.ga Go.Proofs.YtbeidpeoichakaaGreatDoor.gb Go.Proofs.YtbeidpeoichakaaGreatDoor.gc Go.Proofs.YtbeidpeoichakaaGreatDoor.gd Go.Proofs.YtbeidpeoichakaaGreatDoor.fj Go.Proofs.YtbeidpeoichakaaGreatDoor.gg Go.Proofs.YtbeidpeoichakaaGreatDoor.ja Go.Proofs.YtbeidpeoichakaaGreatDoor.jb Go.Proofs.YtbeidpeoichakaaGreatDoor.jg Go.Proofs.YtbeidpeoichakaaGreatDoor.jh Go.Proofs.YtbeidpeoichakaaGreatDoor.pa Go.Proofs.YtbeidpeoichakaaGreatDoor.pb Go.Proofs.YtbeidpeoichakaaGreatDoor.pc Go.Proofs.YtbeidpeoichakaaGreatDoor.nb Go.Proofs.YtbeidpeoichakaaGreatDoor.hc Go.Proofs.YtbeidpeoichakaaGreatDoor.hd Go.Proofs.YtbeidpeoichakaaGreatDoor.ra Go.Proofs.YtbeidpeoichakaaGreatDoor.re Go.Proofs.YtbeidpeoichakaaGreatDoor.rb Go.Proofs.YtbeidpeoichakaaGreatDoor.rg Go.Proofs.YtbeidpeoichakaaGreatDoor.sa Go.Proofs.YtbeidpeoichakaaGreatDoor.sb Go.Proofs.YtbeidpeoichakaaGreatDoor.sc Go.Proofs.YtbeidpeoichakaaGreatDoor.ta Go.Proofs.YtbeidpeoichakaaGreatDoor.tb Go.Proofs.YtbeidpeoichakaaGreatDoor.ua

/-- a fraction in a row of fractions -/
def Ent (w : World) (g k : Nat) (f : Any) : Prop := ∃ A c B l, w.cell? ⟨g, k * 4, none⟩ = some (.bool f.n1) ∧ w.cell? ⟨g, k * 4 + 1, none⟩ = some (.slice A f.l1.length c) ∧ w.cell? ⟨g, k * 4 + 2, none⟩ = some (.bool f.n2) ∧ w.cell? ⟨g, k * 4 + 3, none⟩ = some (.slice B f.l2.length l) ∧
  Rd w w.heap.size A c f.l1 ∧ Rd w w.heap.size B l f.l2
theorem all_no {fs : List Any} {k : Nat} {f : Any} (h : fs[k]? = some f) (hf : f.fine = false) : fs.all Any.fine = false := by
  rw [List.all_eq_false]
  exact ⟨f, List.mem_of_getElem? h, by rw [hf]; simp⟩
theorem one_val {l : List Nat} {d : Nat} (h : digs d = l) (h1 : ¬ l = [1]) : d ≠ 1 := fun e => h1 (by rw [← h, e]; rfl)

set_option maxRecDepth 100000 in
set_option maxHeartbeats 4000000 in
theorem validAllF (w : World) (g cap : Nat) (fs : List Any) (hg : g < w.heap.size) (hes : fs.length ≤ 100) (h : ∀ k f, fs[k]? = some f → Ent w g k f) (hT : Tabs w) :
    Calls Tryz.prog 38 #[.slice (some ⟨g, 0, none⟩) fs.length cap] w fun e w' => e = .returned (.bool (fs.all Any.fine)) ∧ Below w.heap.size w w' := by
  have H := Lib.hid h
  clear h
  go_enter Tryz.func38, Tryz.ntmps38
  go_wp2
  go_loopw [7] (fun i wr => ∃ k : Nat, k ≤ fs.length ∧ i = .int .i64 k ∧ Hid (Below w.heap.size w wr ∧ (fs.take k).all Any.fine = true)) (fun i _ => fs.length - (intOf i).toNat)
  case atStart => exact ⟨0, Nat.zero_le _, rfl, Lib.hid ⟨Below.refl _ _, by simp⟩⟩
  case round =>
    obtain ⟨k, hk, rfl, HB⟩ := hrel
    by_cases hkx : k < fs.length
    · obtain ⟨f, hf⟩ : ∃ f, fs[k]? = some f := ⟨_, List.getElem?_eq_getElem hkx⟩
      obtain ⟨A, c, A', c', c1, c2, c3, c4, R, R'⟩ := H.out k f hf
      have hno : f.fine = false → fs.all Any.fine = false := all_no hf
      have hyes : f.fine = true → (fs.take (k + 1)).all Any.fine = true := by
        intro h
        rw [List.take_add_one, hf]
        simp only [Option.toList_some, List.all_append, List.all_cons, List.all_nil, Bool.and_true, Bool.and_eq_true]
        exact ⟨HB.out.2, h⟩
      have hb0 := HB.out.1
      have HB := Lib.hid hb0
      clear hb0
      have c1' := (HB.out.cell (p := ⟨g, k * 4, none⟩) hg).trans c1
      have c2' := (HB.out.cell (p := ⟨g, k * 4 + 1, none⟩) hg).trans c2
      have c3' := (HB.out.cell (p := ⟨g, k * 4 + 2, none⟩) hg).trans c3
      have c4' := (HB.out.cell (p := ⟨g, k * 4 + 3, none⟩) hg).trans c4
      clear c1 c2 c3 c4 hf
      obtain ⟨n1, l1, n2, l2⟩ := f
      dsimp only at c1' c2' c3' c4' R R'
      have hfine : Any.fine ⟨n1, l1, n2, l2⟩ = (good n1 l1 && good n2 l2 && !n2 && !(l2.length == 0) && (Nat.gcd (val l1) (val l2) == 1)) := rfl
      rw [hfine] at hno hyes
      have o1 := R.ok
      have o2 := R'.ok
      have HY := Lib.hid (And.intro hno (And.intro hyes (And.intro o1 o2)))
      clear hno hyes hfine o1 o2
      have lb := R.fit
      have lb' := R'.fit
      have hA := HB.out.alloc HB.out.size (.cells #[.bool n1, .slice A l1.length c, .bool n2, .slice A' l2.length c'] 30)
      have HA := Lib.hid hA
      clear hA
      have RA := (R.below HA.out).more HA.out.size
      have RA' := (R'.below HA.out).more HA.out.size
      obtain ⟨Wa, hWa⟩ : ∃ Wa, Wa = wr.alloc (.cells #[.bool n1, .slice A l1.length c, .bool n2, .slice A' l2.length c'] 30) := ⟨_, rfl⟩
      have hsz : Wa.heap.size = wr.heap.size + 1 := by rw [hWa]; simp
      have k0 : Wa.cell? ⟨wr.heap.size, 0, none⟩ = some (.bool n1) := by rw [hWa]; simp [go_sem]
      have k1 : Wa.cell? ⟨wr.heap.size, 1, none⟩ = some (.slice A l1.length c) := by rw [hWa]; simp [go_sem]
      have k2 : Wa.cell? ⟨wr.heap.size, 2, none⟩ = some (.bool n2) := by rw [hWa]; simp [go_sem]
      have k3 : Wa.cell? ⟨wr.heap.size, 3, none⟩ = some (.slice A' l2.length c') := by rw [hWa]; simp [go_sem]
      rw [← hWa] at HA RA RA'
      have HC := Lib.hid (And.intro (And.intro RA RA') (And.intro hsz (And.intro k0 (And.intro k1 (And.intro k2 k3)))))
      clear RA RA' hsz k0 k1 k2 k3 R R'
      go_wp2_with fail
      rw [← hWa]
      clear hWa
      refine (validTwo (Wa.alloc _) (wr.heap.size + 1) 2 n1 n2 l1 l2 A A' c c' 28 (0, 0) _ rfl (by rw [← HC.out.2.1]; exact heap_alloc_new Wa _) ?_ ?_).mono ?_
      · exact (HC.out.1.1.below ((Below.refl _ _).alloc (Nat.le_refl _) _)).more (by simp)
      · exact (HC.out.1.2.below ((Below.refl _ _).alloc (Nat.le_refl _) _)).more (by simp)
      rintro _ W1 ⟨rfl, hb1⟩
      have hc : Below Wa.heap.size Wa W1 := ((Below.refl _ _).alloc (Nat.le_refl _) _).trans (hb1.mono (by simp))
      have hlt : wr.heap.size < Wa.heap.size := by have := HC.out.2.1; omega
      have k0 := (hc.cell (p := ⟨wr.heap.size, 0, none⟩) hlt).trans HC.out.2.2.1
      have k1 := (hc.cell (p := ⟨wr.heap.size, 1, none⟩) hlt).trans HC.out.2.2.2.1
      have k2 := (hc.cell (p := ⟨wr.heap.size, 2, none⟩) hlt).trans HC.out.2.2.2.2.1
      have k3 := (hc.cell (p := ⟨wr.heap.size, 3, none⟩) hlt).trans HC.out.2.2.2.2.2
      have R1 := (HC.out.1.1.below hc).more hc.size
      have R2 := (HC.out.1.2.below hc).more hc.size
      have H1 := Lib.hid (And.intro R1 (And.intro R2 (HA.out.trans (hc.mono HA.out.size))))
      clear hb1 hc hlt HC HA R1 R2 c1' c2' c3' c4'
      cases hgg : (good n1 l1 && good n2 l2)
      · have HN := Lib.hid (HY.out.1 (by rw [hgg]; rfl))
        go_wp2_with fail
        go_returns
        exact ⟨by first | (rw [HN.out]; done) | (rw [HN.out]; rfl), H1.out.2.2⟩
      rw [Bool.and_eq_true] at hgg
      obtain ⟨hg1, hg2⟩ := hgg
      obtain ⟨a1, a2, a3⟩ := good_digs HY.out.2.2.1 hg1
      obtain ⟨b1, b2, b3⟩ := good_digs HY.out.2.2.2 hg2
      cases n2
      · by_cases h0 : l2.length = 0
        · have HN := Lib.hid (HY.out.1 (by rw [h0]; simp))
          have h0' : ((l2.length : Int) == 0) = true := by rw [h0]; rfl
          clear h0 a1 a2 a3 b1 b2 b3 hg1 hg2
          go_wp2_with fail
          go_returns
          exact ⟨by first | (rw [HN.out]; done) | (rw [HN.out]; rfl), H1.out.2.2⟩
        have h0' : ((l2.length : Int) == 0) = false := beq_eq_false_iff_ne.2 (by omega)
        have h0b : (l2.length == 0) = false := beq_eq_false_iff_ne.2 h0
        have HH := Lib.hid (And.intro hg1 (And.intro hg2 h0b))
        clear hg1 hg2 h0b h0
        obtain ⟨m, hm⟩ : ∃ m, m = val l1 := ⟨_, rfl⟩
        obtain ⟨d, hd⟩ : ∃ d, d = val l2 := ⟨_, rfl⟩
        rw [← hm] at a1
        rw [← hd] at b1
        have HD := Lib.hid (And.intro a1 (And.intro b1 (And.intro hm hd)))
        clear hm hd a1 b1 a2 b2
        go_wp2_with fail
        refine (isOne_any W1 _ A' c' l2 H1.out.2.1 (by omega)).mono ?_
        rintro _ _ ⟨rfl, rfl⟩
        by_cases hd1 : l2 = [1]
        · have HN := Lib.hid (HY.out.2.1 (by rw [HH.out.1, HH.out.2.1, HH.out.2.2, hd1]; simp [val]))
          rw [decide_eq_true hd1]
          clear hd1
          go_wp2_with fail
          exact ⟨⟨k + 1, by omega, by go_num, Lib.hid ⟨H1.out.2.2, HN.out⟩⟩, by simp [intOf]; omega⟩
        · have hd2 := one_val HD.out.2.1 hd1
          rw [decide_eq_false hd1]
          clear hd1
          by_cases hz : l1.length = 0
          · have HN := Lib.hid (HY.out.1 (by
              have e1 : l1 = [] := List.length_eq_zero_iff.1 hz
              have e2 : val l1 = 0 := by rw [e1]; rfl
              rw [e2, Nat.gcd_zero_left, ← HD.out.2.2.2, beq_eq_false_iff_ne.2 hd2]
              simp))
            have z2 : ((l1.length : Int) == 0) = true := by rw [hz]; rfl
            clear hz
            go_wp2_with fail
            go_returns
            exact ⟨by first | (rw [HN.out]; done) | (rw [HN.out]; rfl), H1.out.2.2⟩
          · have z2 : ((l1.length : Int) == 0) = false := beq_eq_false_iff_ne.2 (by omega)
            have hm0 : m ≠ 0 := fun e => hz (by rw [← HD.out.1, e, digs_zero]; rfl)
            have hd0 : d ≠ 0 := fun e => by
              have h1 := HD.out.2.1
              rw [e, digs_zero] at h1
              rw [← h1] at h0'
              exact absurd h0' (by decide)
            have HZ := Lib.hid (And.intro hm0 hd0)
            clear hz hm0 hd0
            have hgc : Calls Tryz.prog 68 #[.slice A l1.length c, .slice A' l2.length c'] W1 fun e w' => ∃ v, e = .returned v ∧ Owns W1.heap.size w' v (digs (Nat.gcd m d)) ∧ Below W1.heap.size W1 w' := by
              have h := gcdWords_any W1 A A' c c' m d (by rw [HD.out.1]; exact H1.out.1) (by rw [HD.out.2.1]; exact H1.out.2.1) (by rw [HD.out.1]; omega) (by rw [HD.out.2.1]; omega) HZ.out.1 HZ.out.2 (hT.below H1.out.2.2)
              rw [HD.out.1, HD.out.2.1] at h
              exact h
            have HGC := Lib.hid hgc
            have hlen : (digs (Nat.gcd m d)).length ≤ 256 := Nat.le_trans (len_mono (Nat.gcd_le_right m (by have := HZ.out.2; omega))) (by rw [HD.out.2.1]; exact b3)
            clear hgc
            go_wp2_with fail
            refine HGC.out.mono ?_
            rintro _ W2 ⟨v2, rfl, hO, hb2⟩
            obtain ⟨A2, c2, rfl, R2⟩ := own_rd hO (ok_digs _)
            have H2 := Lib.hid (H1.out.2.2.trans (hb2.mono H1.out.2.2.size))
            clear hO hb2 HGC
            go_wp2_with fail
            refine (isOne_any W2 _ A2 c2 (digs (Nat.gcd m d)) R2 (by omega)).mono ?_
            rintro _ _ ⟨rfl, rfl⟩
            by_cases hq : Nat.gcd m d = 1
            · have HN := Lib.hid (HY.out.2.1 (by rw [HH.out.1, HH.out.2.1, HH.out.2.2, ← HD.out.2.2.1, ← HD.out.2.2.2, hq]; rfl))
              rw [decide_eq_true (show digs (Nat.gcd m d) = [1] by rw [hq]; rfl)]
              clear R2 hq
              go_wp2_with fail
              exact ⟨⟨k + 1, by omega, by go_num, Lib.hid ⟨H2.out, HN.out⟩⟩, by simp [intOf]; omega⟩
            · have HN := Lib.hid (HY.out.1 (by rw [← HD.out.2.2.1, ← HD.out.2.2.2, beq_eq_false_iff_ne.2 hq]; simp))
              rw [decide_eq_false (show ¬ digs (Nat.gcd m d) = [1] from fun e => hq (by rw [← val_digs (Nat.gcd m d), e]; rfl))]
              clear R2 hq
              go_wp2_with fail
              go_returns
              exact ⟨by first | (rw [HN.out]; done) | (rw [HN.out]; rfl), H2.out⟩
      · have HN := Lib.hid (HY.out.1 (by simp))
        clear a1 a2 a3 b1 b2 b3 hg1 hg2
        go_wp2_with fail
        go_returns
        exact ⟨by first | (rw [HN.out]; done) | (rw [HN.out]; rfl), H1.out.2.2⟩
    · obtain rfl : k = fs.length := by omega
      have HA := Lib.hid HB.out
      go_wp2_with fail
      go_returns
      exact ⟨by first | (rw [← HA.out.2, List.take_length]; done) | (rw [← HA.out.2, List.take_length]; rfl), HA.out.1⟩
end Go.Proofs.YtbeidpeoichakaaGreatDoor.ub
