/- The reference: CmpBig, DivBig. -/
import Derived.Test.YtbeidpeoichakaaGreatDoorRb
import Derived.Test.YtbeidpeoichakaaGreatDoorJf
set_option linter.unusedSimpArgs false
namespace Go.Proofs.YtbeidpeoichakaaGreatDoor.rc
open Go.RowKit Go.Proofs.YtbeidpeoichakaaGreatDoor.fm Go.Proofs.YtbeidpeoichakaaGreatDoor.mem Go.Proofs.YtbeidpeoichakaaGreatDoor.fa Go.Proofs.YtbeidpeoichakaaGreatDoor.fb Go.Proofs.YtbeidpeoichakaaGreatDoor.fu Go.Proofs.YtbeidpeoichakaaGreatDoor.fv Go.Proofs.YtbeidpeoichakaaGreatDoor.fw Go.Proofs.YtbeidpeoichakaaGreatDoor.fx Go.Proofs.YtbeidpeoichakaaGreatDoor.fy Go.Proofs.YtbeidpeoichakaaGreatDoor.fz Go.Proofs.YtbeidpeoichakaaGreatDoor.gf Go.Proofs.YtbeidpeoichakaaGreatDoor.jh Go.Proofs.YtbeidpeoichakaaGreatDoor.ja Go.Proofs.YtbeidpeoichakaaGreatDoor.jf Go.Proofs.YtbeidpeoichakaaGreatDoor.pb Go.Proofs.YtbeidpeoichakaaGreatDoor.rb

/-- Two parameters in boxes of their own. -/
structure Duo (w W : World) (n n' : Bool) (s s' : Value) : Prop where
  bel : Below w.heap.size w W
  size : w.heap.size + 2 ≤ W.heap.size
  a0 : W.cell? ⟨w.heap.size, 0, none⟩ = some (.bool n)
  a1 : W.cell? ⟨w.heap.size, 1, none⟩ = some s
  b0 : W.cell? ⟨w.heap.size + 1, 0, none⟩ = some (.bool n')
  b1 : W.cell? ⟨w.heap.size + 1, 1, none⟩ = some s'

theorem duo_made (w : World) (n n' : Bool) (s s' : Value) : Duo w ((w.alloc (.cells #[.bool n, s] 28)).alloc (.cells #[.bool n', s'] 28)) n n' s s' := by
  refine ⟨((Below.refl _ _).alloc (Nat.le_refl _) _).alloc (by simp) _, by simp, ?_, ?_, ?_, ?_⟩
  all_goals simp [go_sem]

theorem Duo.after {w W W' : World} {n n' : Bool} {s s' : Value} (D : Duo w W n n' s s') (h : Below W.heap.size W W') : Duo w W' n n' s s' := by
  have hs := D.size
  have h0 : w.heap.size < W.heap.size := by omega
  have h1 : w.heap.size + 1 < W.heap.size := by omega
  exact ⟨D.bel.trans (h.mono D.bel.size), Nat.le_trans hs h.size, (h.cell (p := ⟨w.heap.size, 0, none⟩) h0).trans D.a0, (h.cell (p := ⟨w.heap.size, 1, none⟩) h0).trans D.a1, (h.cell (p := ⟨w.heap.size + 1, 0, none⟩) h1).trans D.b0, (h.cell (p := ⟨w.heap.size + 1, 1, none⟩) h1).trans D.b1⟩

theorem Duo.rd {w W : World} {n n' : Bool} {s s' : Value} (D : Duo w W n n' s s') {A : Option Addr} {c : Nat} {l : List Nat} (R : Rd w w.heap.size A c l) : Rd W W.heap.size A c l := (R.below D.bel).more D.bel.size

end Go.Proofs.YtbeidpeoichakaaGreatDoor.rc
