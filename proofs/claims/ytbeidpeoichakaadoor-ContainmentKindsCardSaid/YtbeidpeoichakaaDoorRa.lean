/- fraction: what the functions of big integers answer where an argument is none. -/
import Derived.Test.YtbeidpeoichakaaDoorFy
import Derived.Test.YtbeidpeoichakaaDoorHa
set_option linter.unusedSimpArgs false
namespace Go.Proofs.YtbeidpeoichakaaDoor.ra
open Go.RowKit Go.Proofs.YtbeidpeoichakaaDoor.fm Go.Proofs.YtbeidpeoichakaaDoor.mem Go.Proofs.YtbeidpeoichakaaDoor.fa Go.Proofs.YtbeidpeoichakaaDoor.fb Go.Proofs.YtbeidpeoichakaaDoor.fu Go.Proofs.YtbeidpeoichakaaDoor.fv Go.Proofs.YtbeidpeoichakaaDoor.fw Go.Proofs.YtbeidpeoichakaaDoor.fx Go.Proofs.YtbeidpeoichakaaDoor.fy Go.Proofs.YtbeidpeoichakaaDoor.fz

theorem validTwo (W : World) (g cap : Nat) (n n' : Bool) (l l' : List Nat) (A A' : Option Addr) (c c' : Nat) (ty : TypeId) (fr : Nat × Nat) (v : Bool) (hv : (good n l && good n' l') = v)
    (hg : W.heap[g]? = some (.cells #[.bool n, .slice A l.length c, .bool n', .slice A' l'.length c'] ty fr)) (R : Rd W W.heap.size A c l) (R' : Rd W W.heap.size A' c' l') :
    Calls Tryd.prog 69 #[.slice (some ⟨g, 0, none⟩) 2 cap] W fun e w' => e = .returned (.bool v) ∧ Below W.heap.size W w' := by
  have hlt : g < W.heap.size := (Array.getElem?_eq_some_iff.1 hg).1
  have h := validBigs_any W g cap [(n, l), (n', l')] hlt (by simp) (fun k hk => by
    obtain rfl | rfl : k = 0 ∨ k = 1 := by simp at hk; omega
    · exact ⟨A, c, by rw [cell_of_row W g (0 * 2) _ ty fr hg]; rfl, by rw [cell_of_row W g (0 * 2 + 1) _ ty fr hg]; rfl, R⟩
    · exact ⟨A', c', by rw [cell_of_row W g (1 * 2) _ ty fr hg]; rfl, by rw [cell_of_row W g (1 * 2 + 1) _ ty fr hg]; rfl, R'⟩)
  refine h.mono fun e w' he => ⟨?_, he.2⟩
  rw [he.1, ← hv]
  simp

theorem validOne (W : World) (g cap : Nat) (n : Bool) (l : List Nat) (A : Option Addr) (c : Nat) (ty : TypeId) (fr : Nat × Nat) (v : Bool) (hv : good n l = v)
    (hg : W.heap[g]? = some (.cells #[.bool n, .slice A l.length c] ty fr)) (R : Rd W W.heap.size A c l) :
    Calls Tryd.prog 69 #[.slice (some ⟨g, 0, none⟩) 1 cap] W fun e w' => e = .returned (.bool v) ∧ Below W.heap.size W w' := by
  have hlt : g < W.heap.size := (Array.getElem?_eq_some_iff.1 hg).1
  have h := validBigs_any W g cap [(n, l)] hlt (by simp) (fun k hk => by
    obtain rfl : k = 0 := by simp at hk; omega
    exact ⟨A, c, by rw [cell_of_row W g (0 * 2) _ ty fr hg]; rfl, by rw [cell_of_row W g (0 * 2 + 1) _ ty fr hg]; rfl, R⟩)
  refine h.mono fun e w' he => ⟨?_, he.2⟩
  rw [he.1, ← hv]
  simp

end Go.Proofs.YtbeidpeoichakaaDoor.ra
