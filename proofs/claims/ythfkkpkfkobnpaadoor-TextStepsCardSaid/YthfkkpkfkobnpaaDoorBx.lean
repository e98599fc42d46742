/- The examples of the chapter hold: sane. -/
import Derived.Test.YthfkkpkfkobnpaaDoorBw
import Derived.Test.YthfkkpkfkobnpaaDoorBl
set_option linter.unusedVariables false
set_option linter.unusedSimpArgs false
namespace Go.Proofs.YthfkkpkfkobnpaaDoor.tx
open Go.RowKit Go.Proofs.YthfkkpkfkobnpaaDoor.txt

theorem utf_below {w w' : World} {B : Nat} (h : sane.Utf w) (hb : Below B w w') (h2 : 2 ≤ B) : sane.Utf w' :=
  ⟨(hb.cell (p := ⟨0, 195, none⟩) (by show (0 : Nat) < B; omega)).trans h.f,
   (hb.cell (p := ⟨1, 0, none⟩) (by show (1 : Nat) < B; omega)).trans h.a,
   (hb.cell (p := ⟨1, 1, none⟩) (by show (1 : Nat) < B; omega)).trans h.b⟩

set_option maxRecDepth 100000 in
theorem tokens_x : tok.tokens ((⟨#[85, 110, 105, 116, 32, 55, 44, 32, 66, 108, 111, 99, 107, 45, 66]⟩ : ByteArray).data.toList.map fold.low) = [[117, 110, 105, 116], [55], [98, 108, 111, 99, 107], [98]] := by decide
set_option maxRecDepth 100000 in
theorem pattern_x : pat.pattern ⟨#[65, 66, 45, 50, 48, 50, 54, 32, 120]⟩ = [65, 43, 45, 57, 43, 32, 97] := by decide

set_option maxRecDepth 100000 in
theorem valid_text (w : World) (hU : sane.Utf w) :
    Calls Tryd.prog 11 #[.string ⟨#[195, 169]⟩] w fun e w' => e = .returned (.bool true) ∧ Below w.heap.size w w' := by
  go_enter Tryd.func11, Tryd.ntmps11
  go_wp2_with fail
  refine (sane.valid_e _ hU).mono ?_
  rintro _ w1 ⟨rfl, hb⟩
  go_wp2
  go_ret
  exact ⟨rfl, hb⟩

set_option maxRecDepth 100000 in
set_option maxHeartbeats 1000000 in
theorem sane_any (w : World) (hU : sane.Utf w) (h2 : 2 ≤ w.heap.size) :
    Calls Tryd.prog 7 #[] w fun e w' => e = .returned (.bool true) ∧ Below w.heap.size w w' := by
  go_enter Tryd.func7, Tryd.ntmps7
  go_wp2_with fail
  refine (tok.tokens_any _ _ (by decide)).mono ?_
  rintro _ w1 ⟨v, rfl, hown, hb1⟩
  rw [tokens_x] at hown
  obtain ⟨g, cap, cur, rfl, hg, hgb, hnc, hcm, hcs, ht⟩ : ∃ g cap cur, v = .slice (some ⟨g, 0, none⟩) 4 cap ∧ w.heap.size ≤ g ∧ w1.heap[g]? = some (.cells cur 9 (0, 0)) ∧ 4 ≤ cap ∧ cap ≤ maxLen ∧ cur.size = cap * 1 ∧ cur.toList.take (4 * 1) = [encStr [117, 110, 105, 116], encStr [55], encStr [98, 108, 111, 99, 107], encStr [98]] := by
    rcases hown.2 with ⟨_, hz⟩ | ⟨g, cap, cur, hv, r⟩
    · exact absurd hz (by decide)
    · exact ⟨g, cap, cur, hv, r⟩
  have hc2 : w1.cell? ⟨g, 2, none⟩ = some (.string ⟨#[98, 108, 111, 99, 107]⟩) := hown.cells (g := g) rfl 2 _ rfl
  have hgl : g < w1.heap.size := (Array.getElem?_eq_some_iff.1 hgb).1
  have h1s := hb1.size
  clear hown hgb ht hcs hcm
  go_wp2_with fail
  refine (callsIn_wide.1 (pat.pattern_any _ (by decide) _)).mono ?_
  rintro _ w2 ⟨rfl, hb2⟩
  rw [pattern_x]
  have hc2' := (hb2.cell (p := ⟨g, 2, none⟩) hgl).trans hc2
  have h2s := hb2.size
  have hU2 : sane.Utf w2 := utf_below (utf_below hU hb1 h2) hb2 (by omega)
  have hb12 := hb1.trans (hb2.mono h1s)
  clear hc2 hb1 hb2 hU
  go_wp2_with fail
  refine (sane.trim_a _).mono ?_
  rintro _ w3 ⟨rfl, hb3⟩
  have hU3 := utf_below hU2 hb3 (by omega)
  have h3s := hb3.size
  have hb13 := hb12.trans (hb3.mono (by omega))
  clear hU2 hb3 hb12
  go_wp2_with fail
  refine (valid_text _ hU3).mono ?_
  rintro _ w4 ⟨rfl, hb4⟩
  have h4s := hb4.size
  have hb14 := hb13.trans (hb4.mono (by omega))
  clear hb4 hb13
  go_wp2_with fail
  refine (lines_x _).mono ?_
  rintro _ w5 ⟨⟨a, cap5, rfl⟩, hb5⟩
  have hb15 := hb14.trans (hb5.mono (by omega))
  go_wp2
  go_ret
  exact ⟨rfl, hb15⟩
end Go.Proofs.YthfkkpkfkobnpaaDoor.tx
