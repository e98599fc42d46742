/- Big integers and what is none: the program's functions and the reference's give the same. -/
import Derived.Test.YtbeidpeoichakaaGreatDoorRc
import Derived.Test.YtbeidpeoichakaaGreatDoorRd
import Derived.Test.YtbeidpeoichakaaGreatDoorRe
import Derived.Test.YtbeidpeoichakaaGreatDoorGf
set_option linter.unusedSimpArgs false
set_option linter.unusedVariables false
namespace Go.Proofs.YtbeidpeoichakaaGreatDoor.rg
open Go.RowKit Go.Proofs.YtbeidpeoichakaaGreatDoor.fm Go.Proofs.YtbeidpeoichakaaGreatDoor.mem Go.Proofs.YtbeidpeoichakaaGreatDoor.fa Go.Proofs.YtbeidpeoichakaaGreatDoor.fb Go.Proofs.YtbeidpeoichakaaGreatDoor.fu Go.Proofs.YtbeidpeoichakaaGreatDoor.fv Go.Proofs.YtbeidpeoichakaaGreatDoor.fw Go.Proofs.YtbeidpeoichakaaGreatDoor.fx Go.Proofs.YtbeidpeoichakaaGreatDoor.fy Go.Proofs.YtbeidpeoichakaaGreatDoor.fz Go.Proofs.YtbeidpeoichakaaGreatDoor.ga Go.Proofs.YtbeidpeoichakaaGreatDoor.gf Go.Proofs.YtbeidpeoichakaaGreatDoor.hb Go.Proofs.YtbeidpeoichakaaGreatDoor.hc Go.Proofs.YtbeidpeoichakaaGreatDoor.jh Go.Proofs.YtbeidpeoichakaaGreatDoor.ra Go.Proofs.YtbeidpeoichakaaGreatDoor.rb Go.Proofs.YtbeidpeoichakaaGreatDoor.rc Go.Proofs.YtbeidpeoichakaaGreatDoor.rd Go.Proofs.YtbeidpeoichakaaGreatDoor.re

/-- A sign and words as a value, whether a big integer or not. -/
def IsAny (w : World) (v : Value) (n : Bool) (l : List Nat) : Prop := ∃ A c, v = .agg #[.bool n, .slice A l.length c] ∧ Rd w w.heap.size A c l

theorem IsAny.after {w w' : World} {v : Value} {n : Bool} {l : List Nat} (h : IsAny w v n l) (hb : Below w.heap.size w w') : IsAny w' v n l := by
  obtain ⟨A, c, e, R⟩ := h
  exact ⟨A, c, e, (R.below hb).more hb.size⟩

theorem any_of_big {w : World} {v : Value} {z : Int} (h : IsBig w v z) : IsAny w v (decide (z < 0)) (digs z.natAbs) := h

theorem good_digs {n : Bool} {l : List Nat} (hok : ok l) (h : good n l = true) : digs (val l) = l ∧ decide (sgnd n (val l) < 0) = n ∧ l.length ≤ 256 := by
  unfold good at h
  simp only [Bool.and_eq_true, Bool.not_eq_true', decide_eq_true_eq] at h
  obtain ⟨⟨h1, h2⟩, h3⟩ := h
  have hd : digs (val l) = l := by
    have h4 := take_digs (l := l) hok (k := l.length) (Nat.le_refl _) (by
      rcases Nat.eq_zero_or_pos l.length with h0 | h0
      · exact .inl h0
      · right
        intro e
        rw [decide_eq_true h0, decide_eq_true e] at h3
        exact absurd h3 (by decide))
    rwa [List.take_length] at h4
  refine ⟨hd, ?_, h1⟩
  by_cases h0 : val l = 0
  · have hl : l = [] := by rw [← hd, h0, digs_zero]
    subst hl
    cases n with
    | false => rfl
    | true => exact absurd h2 (by decide)
  · exact sgnd_neg n _ h0

theorem any_big {w : World} {v : Value} {n : Bool} {l : List Nat} (h : IsAny w v n l) (hg : good n l = true) : IsBig w v (sgnd n (val l)) ∧ (digs (sgnd n (val l)).natAbs).length ≤ 256 := by
  obtain ⟨A, c, rfl, R⟩ := h
  obtain ⟨h1, h2, h3⟩ := good_digs R.ok hg
  refine ⟨⟨A, c, ?_, ?_⟩, ?_⟩
  · rw [h2, sgnd_abs, h1]
  · rw [sgnd_abs, h1]; exact R
  · rw [sgnd_abs, h1]; exact h3

/-- A big integer and an error. -/
def Ans2 (w : World) (Z k : Int) (e : Ending) (w' : World) : Prop := ∃ v, e = .returned (.tuple #[v, .int .i64 k]) ∧ IsBig w' v Z ∧ Below w.heap.size w w'

theorem lim_len (z : Int) : (digs (lim z).natAbs).length ≤ 256 := by
  unfold lim
  split
  · assumption
  · rw [show (0 : Int).natAbs = 0 from rfl, digs_zero]; decide

theorem ans_bad {w : World} {e : Ending} {w' : World} (h : e = .returned (.tuple #[.agg #[.bool false, .slice none 0 0], .int .i64 1]) ∧ Below w.heap.size w w') : Ans2 w 0 1 e w' :=
  ⟨_, h.1, isBig_zero _, h.2⟩

def Both2 (f g : FuncId) (n : Bool) (l : List Nat) (n' : Bool) (l' : List Nat) : Prop :=
  ∃ Z k : Int, (digs Z.natAbs).length ≤ 256 ∧ ∀ w a b, IsAny w a n l → IsAny w b n' l' → Calls Tryz.prog f #[a, b] w (Ans2 w Z k) ∧ Calls Tryz.prog g #[a, b] w (Ans2 w Z k)

theorem both2 {f g : FuncId} {op : Int → Int → Int} (n : Bool) (l : List Nat) (n' : Bool) (l' : List Nat) (hs : l.length ≤ 1000000) (hs' : l'.length ≤ 1000000)
    (h1 : ∀ (w : World) (a b : Value) (x y : Int), IsBig w a x → IsBig w b y → (digs x.natAbs).length ≤ 256 → (digs y.natAbs).length ≤ 256 → Calls Tryz.prog f #[a, b] w (Limited w (op x y)))
    (h2 : ∀ (w : World) (a b : Value) (x y : Int), IsBig w a x → IsBig w b y → (digs x.natAbs).length ≤ 256 → (digs y.natAbs).length ≤ 256 → Calls Tryz.prog g #[a, b] w (Limited w (op x y)))
    (h3 : ∀ (w : World) (n n' : Bool) (l l' : List Nat) (A A' : Option Addr) (c c' : Nat), Rd w w.heap.size A c l → Rd w w.heap.size A' c' l' → (good n l && good n' l') = false →
      Calls Tryz.prog f #[.agg #[.bool n, .slice A l.length c], .agg #[.bool n', .slice A' l'.length c']] w fun e w' => e = .returned (.tuple #[.agg #[.bool false, .slice none 0 0], .int .i64 1]) ∧ Below w.heap.size w w')
    (h4 : ∀ (w : World) (n n' : Bool) (l l' : List Nat) (A A' : Option Addr) (c c' : Nat), Rd w w.heap.size A c l → Rd w w.heap.size A' c' l' → l.length ≤ 1000000 → l'.length ≤ 1000000 → (good n l && good n' l') = false →
      Calls Tryz.prog g #[.agg #[.bool n, .slice A l.length c], .agg #[.bool n', .slice A' l'.length c']] w fun e w' => e = .returned (.tuple #[.agg #[.bool false, .slice none 0 0], .int .i64 1]) ∧ Below w.heap.size w w') :
    Both2 f g n l n' l' := by
  by_cases hg : (good n l && good n' l') = true
  · rw [Bool.and_eq_true] at hg
    refine ⟨lim (op (sgnd n (val l)) (sgnd n' (val l'))), lerr (op (sgnd n (val l)) (sgnd n' (val l'))), lim_len _, fun w a b ha hb => ?_⟩
    obtain ⟨ia, la⟩ := any_big ha hg.1
    obtain ⟨ib, lb⟩ := any_big hb hg.2
    exact ⟨(h1 w a b _ _ ia ib la lb).mono fun _ _ h => h, (h2 w a b _ _ ia ib la lb).mono fun _ _ h => h⟩
  · have hg : (good n l && good n' l') = false := by simpa using hg
    refine ⟨0, 1, by rw [show (0 : Int).natAbs = 0 from rfl, digs_zero]; decide, fun w a b ha hb => ?_⟩
    obtain ⟨A, c, rfl, R⟩ := ha
    obtain ⟨A', c', rfl, R'⟩ := hb
    exact ⟨(h3 w n n' l l' A A' c c' R R' hg).mono fun _ _ h => ans_bad h, (h4 w n n' l l' A A' c c' R R' hs hs' hg).mono fun _ _ h => ans_bad h⟩

set_option maxRecDepth 100000 in
set_option maxHeartbeats 1000000 in
theorem rtextBig_bad (w : World) (n : Bool) (l : List Nat) (A : Option Addr) (c : Nat) (R : Rd w w.heap.size A c l) (hs : l.length ≤ 1000000) (hg : good n l = false) :
    Calls Tryz.prog 56 #[.agg #[.bool n, .slice A l.length c]] w fun e w' => e = .returned (.string ⟨#[]⟩) ∧ Below w.heap.size w w' := by
  go_enter Tryz.func56, Tryz.ntmps56
  have hb := (Below.refl w.heap.size w).alloc (Nat.le_refl _) (.cells #[.bool n, .slice A l.length c] 28)
  have HB := Lib.hid hb
  have HG := Lib.hid hg
  clear hb hg
  go_wp2_with fail
  refine (rvalidBig_gen _ n l A c ((R.below HB.out).more HB.out.size) hs).mono ?_
  rintro _ W1 ⟨rfl, hb1⟩
  rw [HG.out]
  have H1 := Lib.hid (HB.out.trans (hb1.mono HB.out.size))
  clear hb1
  go_wp2_with fail
  go_ret
  exact ⟨rfl, H1.out⟩

theorem both_text (n : Bool) (l : List Nat) (hs : l.length ≤ 1000000) :
    ∃ s : ByteArray, ∀ w a, IsAny w a n l → Pow w → Calls Tryz.prog 33 #[a] w (fun e w' => e = .returned (.string s) ∧ Below w.heap.size w w') ∧ Calls Tryz.prog 56 #[a] w (fun e w' => e = .returned (.string s) ∧ Below w.heap.size w w') := by
  by_cases hg : good n l = true
  · refine ⟨ba (Lib.itoa (sgnd n (val l))), fun w a ha hP => ?_⟩
    obtain ⟨ia, la⟩ := any_big ha hg
    exact ⟨textBig_any w a _ ia la hP, rtextBig_any w a _ ia la⟩
  · have hg : good n l = false := by simpa using hg
    refine ⟨⟨#[]⟩, fun w a ha hP => ?_⟩
    obtain ⟨A, c, rfl, R⟩ := ha
    exact ⟨textBig_bad w n l A c R hg, rtextBig_bad w n l A c R hs hg⟩

/-- Two big integers and an error. -/
def Ans3 (w : World) (Q R k : Int) (e : Ending) (w' : World) : Prop := ∃ v u, e = .returned (.tuple #[v, u, .int .i64 k]) ∧ IsBig w' v Q ∧ IsBig w' u R ∧ Below w.heap.size w w'

end Go.Proofs.YtbeidpeoichakaaGreatDoor.rg
