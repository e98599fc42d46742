/- The mill's Date and Field (kinds 0 to 5 bear no end of a line). -/
import Derived.Test.YthfkkpkfkobnpaaDoorBn
set_option linter.unusedVariables false
set_option linter.unusedSimpArgs false
namespace Go.Proofs.YthfkkpkfkobnpaaDoor.bn
open Go.RowKit Go.Proofs.YthfkkpkfkobnpaaDoor.mill

/-- a text of a literal: short, and with no end of a line where p says so -/
def okV (p : Bool) : Value → Bool
  | .string s => decide (s.size ≤ 20) && (!p || s.data.toList.all (fun b => b != 10 && b != 13))
  | _ => false
theorem lit_at (p : Bool) (cs : Array Value) (h : cs.toList.all (okV p) = true) (v : Nat) (hv : v < cs.size) : ∃ s : ByteArray, cs[v]? = some (.string s) ∧ s.size ≤ 20 ∧ (p = true → Pl s) := by
  have h1 := List.all_eq_true.1 h cs[v] (by simp)
  rw [Array.getElem?_eq_getElem hv]
  cases e : cs[v] with
  | string s =>
    rw [e] at h1
    simp only [okV, Bool.and_eq_true, decide_eq_true_eq, Bool.or_eq_true, Bool.not_eq_true'] at h1
    refine ⟨s, rfl, h1.1, fun hp b hb => ?_⟩
    have h2 := h1.2.resolve_left (by rw [hp]; simp)
    have := List.all_eq_true.1 h2 b hb
    simpa using this
  | _ => rw [e] at h1; simp [okV] at h1
theorem lit_kept {w W : World} {g : Nat} {cs : Array Value} {T : TypeId} {v : Nat} {x : Value} (K : Kept g (w.alloc (.cells cs T)) W) (hg : g < w.heap.size) (h : cs[v]? = some x) : W.cell? ⟨w.heap.size, v, none⟩ = some x := by
  refine (K.cell (p := ⟨w.heap.size, v, none⟩) (by simp) (by show w.heap.size ≠ g; omega)).trans ?_
  rw [World.cell?_alloc_new]
  exact h
theorem dice_alloc {g : Nat} {l : List Nat} {k : Nat} {w : World} (D : DiceAt w g l k) (o : Obj) : DiceAt (w.alloc o) g l k := D.after ((Below.refl _ _).alloc (Nat.le_refl _) _)
theorem kept_alloc {g : Nat} {w W : World} (hg : g < w.heap.size) {o : Obj} (K : Kept g (w.alloc o) W) : Kept g w W := (Kept.of_below ((Below.refl _ _).alloc (Nat.le_refl _) _) (Nat.le_of_lt hg)).trans K

set_option maxRecDepth 100000 in
set_option maxHeartbeats 4000000 in
theorem date_any (w : World) (g : Nat) (l : List Nat) (k : Nat) (D : DiceAt w g l k) :
    Calls Tryd.prog 35 #[.pointer (some ⟨g, 0, none⟩)] w fun e w' => ∃ (t : ByteArray) (k' : Nat), e = .returned (.string t) ∧ t.size ≤ 70 ∧ Pl t ∧ DiceAt w' g l k' ∧ Kept g w w' := by
  have hg0 := D.lt
  go_enter Tryd.func35, Tryd.ntmps35
  go_wp2_with fail
  refine (pick_some _ g 6 l k (dice_alloc D _) (by decide) (by decide)).mono ?_
  rintro _ W1 ⟨v1, k1, rfl, hv1, D1, K1⟩
  obtain ⟨s1, hs1, hz1, hp1⟩ := lit_at true _ (by rfl : (#[Value.string ⟨#[50, 48, 50, 52]⟩, .string ⟨#[49, 57, 57, 57]⟩, .string ⟨#[50, 48, 50, 54]⟩, .string ⟨#[49, 57, 48, 48]⟩, .string ⟨#[48, 48, 48, 49]⟩, .string ⟨#[57, 57, 57, 57]⟩] : Array Value).toList.all (okV true) = true) v1 hv1
  have c1 := lit_kept K1 hg0 hs1
  have H1 := Lib.hid (And.intro (hp1 rfl) (kept_alloc hg0 K1))
  have hg1 := D1.lt
  clear hp1 K1 hs1
  have i1 : (v1 : Int) < 6 := by omega
  go_wp2_with fail
  refine (pick_some _ g 5 l k1 (dice_alloc D1 _) (by decide) (by decide)).mono ?_
  rintro _ W2 ⟨v2, k2, rfl, hv2, D2, K2⟩
  obtain ⟨s2, hs2, hz2, hp2⟩ := lit_at true _ (by rfl : (#[Value.string ⟨#[48, 49]⟩, .string ⟨#[48, 50]⟩, .string ⟨#[49, 50]⟩, .string ⟨#[49, 49]⟩, .string ⟨#[49, 51]⟩] : Array Value).toList.all (okV true) = true) v2 hv2
  have c2 := lit_kept K2 hg1 hs2
  have H2 := Lib.hid (And.intro (hp2 rfl) (H1.out.2.trans (kept_alloc hg1 K2)))
  have hg2 := D2.lt
  clear hp2 K2 hs2 c1
  have i2 : (v2 : Int) < 5 := by omega
  go_wp2_with fail
  refine (pick_some _ g 5 l k2 (dice_alloc D2 _) (by decide) (by decide)).mono ?_
  rintro _ W3 ⟨v3, k3, rfl, hv3, D3, K3⟩
  obtain ⟨s3, hs3, hz3, hp3⟩ := lit_at true _ (by rfl : (#[Value.string ⟨#[48, 49]⟩, .string ⟨#[50, 56]⟩, .string ⟨#[50, 57]⟩, .string ⟨#[51, 48]⟩, .string ⟨#[51, 49]⟩] : Array Value).toList.all (okV true) = true) v3 hv3
  have c3 := lit_kept K3 hg2 hs3
  have H3 := Lib.hid (And.intro (hp3 rfl) (H2.out.2.trans (kept_alloc hg2 K3)))
  have hg3 := D3.lt
  clear hp3 K3 hs3 c2
  have i3 : (v3 : Int) < 5 := by omega
  go_wp2_with fail
  refine (pick_some _ g 3 l k3 D3 (by decide) (by decide)).mono ?_
  rintro _ W4 ⟨v4, k4, rfl, hv4, D4, K4⟩
  have H4 := Lib.hid (H3.out.2.trans K4)
  clear K4 c3
  have hn : ∀ a b c : ByteArray, ∀ x y : UInt8, a.size ≤ 20 → b.size ≤ 20 → c.size ≤ 20 → Pl a → Pl b → Pl c → (x ≠ 10 ∧ x ≠ 13) → (a ++ ⟨#[x]⟩ ++ b ++ ⟨#[x]⟩ ++ c).size ≤ 70 ∧ Pl (a ++ ⟨#[x]⟩ ++ b ++ ⟨#[x]⟩ ++ c) := by
    intro a b c x y ha hb hc pa pb pc hx
    have px : Pl ⟨#[x]⟩ := by intro z hz; simp at hz; rw [hz]; exact hx
    have sx : (⟨#[x]⟩ : ByteArray).size = 1 := rfl
    exact ⟨by simp only [ByteArray.size_append, sx]; omega, pl_append (pl_append (pl_append (pl_append pa px) pb) px) pc⟩
  have HN := Lib.hid hn
  clear hn
  rcases (by omega : v4 = 0 ∨ v4 = 1 ∨ v4 = 2) with rfl | rfl | rfl
  · rw [show ((0 : Nat) : Int) = 0 from rfl]
    go_wp2
    go_ret
    obtain ⟨n1, n2⟩ := HN.out s1 s2 s3 45 45 hz1 hz2 hz3 H1.out.1 H2.out.1 H3.out.1 (by decide)
    exact ⟨_, k4, rfl, n1, n2, D4, H4.out⟩
  · rw [show ((1 : Nat) : Int) = 1 from rfl]
    go_wp2
    go_ret
    obtain ⟨n1, n2⟩ := HN.out s1 s2 s3 47 47 hz1 hz2 hz3 H1.out.1 H2.out.1 H3.out.1 (by decide)
    exact ⟨_, k4, rfl, n1, n2, D4, H4.out⟩
  · rw [show ((2 : Nat) : Int) = 2 from rfl]
    go_wp2
    go_ret
    obtain ⟨n1, n2⟩ := HN.out s3 s2 s1 46 46 hz3 hz2 hz1 H3.out.1 H2.out.1 H1.out.1 (by decide)
    exact ⟨_, k4, rfl, n1, n2, D4, H4.out⟩
end Go.Proofs.YthfkkpkfkobnpaaDoor.bn
