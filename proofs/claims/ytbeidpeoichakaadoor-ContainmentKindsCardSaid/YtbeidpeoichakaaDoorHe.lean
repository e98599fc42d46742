/- fraction: Decimal. -/
import Derived.Test.YtbeidpeoichakaaDoorGe
import Derived.Test.YtbeidpeoichakaaDoorGc
import Derived.Test.YtbeidpeoichakaaDoorShelf2
import Derived.Deep.DeepCutAuto
set_option linter.unusedSimpArgs false
namespace Go.Proofs.YtbeidpeoichakaaDoor.he
open Go.RowKit Go.Proofs.YtbeidpeoichakaaDoor.fm Go.Proofs.YtbeidpeoichakaaDoor.mem Go.Proofs.YtbeidpeoichakaaDoor.fa Go.Proofs.YtbeidpeoichakaaDoor.fb Go.Proofs.YtbeidpeoichakaaDoor.fj Go.Proofs.YtbeidpeoichakaaDoor.fu Go.Proofs.YtbeidpeoichakaaDoor.fv Go.Proofs.YtbeidpeoichakaaDoor.fw Go.Proofs.YtbeidpeoichakaaDoor.fx Go.Proofs.YtbeidpeoichakaaDoor.gb Go.Proofs.YtbeidpeoichakaaDoor.gc Go.Proofs.YtbeidpeoichakaaDoor.ge

/-- The first byte is c. -/
def headIs (s : ByteArray) (c : UInt8) : Bool := s.data.toList.head? == some c
/-- A text without its sign. -/
def bodyB (s : ByteArray) : ByteArray := if headIs s 45 || headIs s 43 then s.extract 1 s.size else s

/-- What cut answers. -/
def CutAns (s f b : ByteArray) (p : Bool) : Prop :=
  (p = false ∧ f = s ∧ b = ByteArray.empty ∧ (46 : UInt8) ∉ s.data.toList) ∨ (p = true ∧ ∃ k, k < s.size ∧ s.data.toList[k]? = some 46 ∧ (46 : UInt8) ∉ s.data.toList.take k ∧ f = s.extract 0 k ∧ b = s.extract (k + 1) s.size)

/-- Whether a text, and its fraction. -/
def DecIs (s : ByteArray) (o : Bool) (z : Int) (d : Nat) : Prop :=
  (26 < s.size ∧ o = false ∧ z = 0 ∧ d = 0) ∨ (s.size ≤ 26 ∧ ∃ f b p, CutAns (bodyB s) f b p ∧ o = (isNum f 15 && (!p || isNum b 9)) ∧ (o = false → z = 0 ∧ d = 0) ∧
    (o = true → z = (sgnd (headIs s 45) (dval f.data.toList * 10 ^ b.size + dval b.data.toList)).tdiv (Nat.gcd (dval f.data.toList * 10 ^ b.size + dval b.data.toList) (10 ^ b.size) : Nat) ∧
      d = 10 ^ b.size / Nat.gcd (dval f.data.toList * 10 ^ b.size + dval b.data.toList) (10 ^ b.size)))

def Dec (s : ByteArray) (w : World) (e : Ending) (w' : World) : Prop :=
  ∃ v o z d, e = .returned (.tuple #[v, .bool o]) ∧ IsFrac w' v z d ∧ Below w.heap.size w w' ∧ Hid (DecIs s o z d)

theorem loop_len (s : ByteArray) : ∀ (n i : Nat) (r : List UInt8), s.size - i = n → r.length ≤ (ByteArray.toList.loop s i r).length := by
  intro n
  induction n with
  | zero => intro i r h; rw [ByteArray.toList.loop, if_neg (by omega)]; simp
  | succ n ih => intro i r h; rw [ByteArray.toList.loop, if_pos (by omega)]; have := ih (i+1) (s.get! i :: r) (by omega); simp at this; omega

theorem toList_ne {s : ByteArray} (h : s.size ≠ 0) : ¬ s.toList = [] := by
  intro e
  have h1 := loop_len s (s.size - 1) 1 [s.get! 0] rfl
  rw [ByteArray.toList, ByteArray.toList.loop, if_pos (by omega)] at e
  rw [e] at h1
  simp at h1

theorem head_at {s : ByteArray} (hin : 0 < s.size) (c : UInt8) : headIs s c = decide (s[0] = c) := by
  have h := Lib.data_getElem? s 0 hin
  unfold headIs
  rw [List.head?_eq_getElem?, h]
  by_cases e : s[0] = c <;> simp [e]

theorem body_size (s : ByteArray) : (bodyB s).size ≤ s.size := by
  unfold bodyB
  split
  · rw [ByteArray.size_extract]; omega
  · exact Nat.le_refl _

theorem isFrac_none (w : World) : IsFrac w (.agg #[.bool false, .slice none 0 0, .bool false, .slice none 0 0]) 0 0 :=
  ⟨none, 0, none, 0, by rw [show (0 : Int).natAbs = 0 from rfl, digs_zero]; rfl, by rw [show (0 : Int).natAbs = 0 from rfl, digs_zero]; exact Rd.nil _ _ _ _, by rw [digs_zero]; exact Rd.nil _ _ _ _⟩

theorem results_dec {fn : Func} {p u : Tmp} (h : fn.results = #[.cell p 27, .tmp u]) (tmps : Array Value) (w : World) (g : Nat) {v0 v1 v2 v3 : Value} (hp : tmps.getD p undef = .pointer (some ⟨g, 0, none⟩))
    (c0 : w.cell? ⟨g, 0, none⟩ = some v0) (c1 : w.cell? ⟨g, 1, none⟩ = some v1) (c2 : w.cell? ⟨g, 2, none⟩ = some v2) (c3 : w.cell? ⟨g, 3, none⟩ = some v3) : (results fn tmps).run Tryd.prog w = .ok (.tuple #[.agg #[v0, v1, v2, v3], tmps.getD u undef]) w :=
  results_frac h tmps w g hp c0 c1 c2 c3

end Go.Proofs.YtbeidpeoichakaaDoor.he
