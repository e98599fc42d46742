/- tablefinderkit.Rules: a few permissions, in new memory. -/
import Derived.Test.YtlionnncmgiifaaAc
import Derived.Test.YtlionnncmgiifaaAd
import Derived.Test.YtlionnncmgiifaaAe
import Derived.Deep.RegionHeld3
import Derived.Outline
set_option linter.unusedVariables false
set_option linter.unusedSimpArgs false
namespace Go.Proofs.Ytlionnncmgiifaa.acc
open Go.RowKit Go.Proofs.Ytlionnncmgiifaa.dice Go.Proofs.Ytlionnncmgiifaa.full

/-- the cells of permissions, one behind the other -/
def Perm.cs (p : Perm) : List Value := [.string p.u, .bool p.a, .int .i64 p.t, .int .i64 p.c]
def cells (ps : List Perm) : List Value := ps.flatMap Perm.cs

theorem cells_append (a b : List Perm) : cells (a ++ b) = cells a ++ cells b := by simp [cells]
theorem cells_length (ps : List Perm) : (cells ps).length = ps.length * 4 := by
  induction ps with
  | nil => rfl
  | cons p l ih => simp only [cells, List.flatMap_cons, List.length_append, List.length_cons] at ih ⊢; simp only [Perm.cs, List.length_cons, List.length_nil]; omega

theorem cells_get (ps : List Perm) (j : Nat) (p : Perm) (h : ps[j]? = some p) (i : Nat) (hi : i < 4) : (cells ps)[4 * j + i]? = p.cs[i]? := by
  induction ps generalizing j with
  | nil => cases h
  | cons q l ih =>
    cases j with
    | zero =>
      obtain rfl : q = p := by simpa using h
      rw [show cells (q :: l) = q.cs ++ cells l from by simp [cells], List.getElem?_append_left (by simp [Perm.cs]; omega)]
      simp
    | succ j =>
      simp only [List.getElem?_cons_succ] at h
      rw [show cells (q :: l) = q.cs ++ cells l from by simp [cells], List.getElem?_append_right (by simp [Perm.cs]; omega), ← ih j h]
      congr 1
      simp [Perm.cs]
      omega

theorem cells_one (ps : List Perm) : ∀ u ∈ cells ps, u.oneCell' = true := by
  intro u hu
  obtain ⟨p, _, hp⟩ := List.mem_flatMap.1 hu
  simp only [Perm.cs, List.mem_cons, List.not_mem_nil, or_false] at hp
  rcases hp with rfl | rfl | rfl | rfl <;> rfl

theorem at4_of {w : World} {b : Nat} {ps : List Perm} {o : Nat} (h : ∀ j u, (cells ps)[j]? = some u → w.cell? ((⟨b, o, none⟩ : Addr).add j) = some u) (j : Nat) (p : Perm) (hp : ps[j]? = some p) : At4 w b (o + 4 * j) p := by
  have key : ∀ i v, i < 4 → p.cs[i]? = some v → w.cell? ⟨b, o + 4 * j + i, none⟩ = some v := by
    intro i v hi hv
    have := h (4 * j + i) v ((cells_get ps j p hp i hi).trans hv)
    have hadd : (⟨b, o, none⟩ : Addr).add (4 * j + i) = ⟨b, o + 4 * j + i, none⟩ := by unfold Addr.add; split <;> simp_all <;> omega
    rwa [hadd] at this
  exact ⟨key 0 _ (by omega) rfl, key 1 _ (by omega) rfl, key 2 _ (by omega) rfl, key 3 _ (by omega) rfl⟩

theorem perms_of_row {w : World} {base : Nat} {v : Value} {ps : List Perm} (h : w.ownsRow base 32 4 v ps.length (cells ps)) (hs : ps.length ≤ 3000) : Perms w.heap.size w v ps := by
  refine ⟨hs, ?_⟩
  rcases Nat.eq_zero_or_pos ps.length with h0 | h0
  · rcases h.2 with ⟨hv, _⟩ | ⟨g, cap, cur, hv, hb, hg, _⟩
    · exact .inl ⟨hv, List.eq_nil_of_length_eq_zero h0⟩
    · obtain rfl := List.eq_nil_of_length_eq_zero h0
      exact .inr ⟨g, 0, cap, hv, (Array.getElem?_eq_some_iff.1 hg).1, fun j p hj => by cases hj⟩
  · obtain ⟨g, cap, hv, hb, hlt⟩ := h.form h0
    subst hv
    exact .inr ⟨g, 0, cap, rfl, hlt, fun j p hj => at4_of (h.cells rfl) j p hj⟩

theorem info_perm : (Try.prog.info? 32).map (fun i => (i.zero, i.size, i.bytes)) = some (some (.agg #[.string ⟨#[]⟩, .bool false, .int .i64 0, .int .i64 0]), 4, 40) := by kernel_rfl

theorem _root_.Go.Proofs.Ytlionnncmgiifaa.dice.Kept.low {g : Nat} {w w1 w2 : World} (h : Kept g w w1) (hb : Below w.heap.size w1 w2) (hg : g ≤ w.heap.size) : Kept g w w2 :=
  ⟨h.bel.trans (hb.mono hg), fun b hl hn => (hb.block b hl).trans (h.other b hl hn)⟩

set_option maxRecDepth 100000 in
set_option maxHeartbeats 1000000 in
theorem rules_any (g : Nat) (l : List Int) (k : Nat) (w : World) (D : DiceK w g l k) :
    Calls Try.prog 6 #[.pointer (some ⟨g, 0, none⟩)] w fun e w' => ∃ v ps, e = .returned v ∧ 0 < ps.length ∧ ps.length ≤ 5 ∧ w'.ownsRow w.heap.size 32 4 v ps.length (cells ps) ∧ Kept g w w' := by
  obtain ⟨i0, hi, hz0, hz1, hz2⟩ := info_parts info_perm
  have hlt := D.lt
  go_enter Try.func6, Try.ntmps6
  go_wp2_with fail
  obtain ⟨w1, hw1⟩ : ∃ w1, w1 = w.alloc (.cells #[.string ⟨#[117]⟩, .bool true, .int .i64 0, .int .i64 (-1)] 32) := ⟨_, rfl⟩
  have hb1 : Below w.heap.size w w1 := by rw [hw1]; exact (Below.refl _ w).alloc (Nat.le_refl _) _
  have hs1 : w1.heap.size = w.heap.size + 1 := by rw [hw1]; simp
  have ho1 : w1.ownsRow w.heap.size 32 4 (.slice (some ⟨w.heap.size, 0, none⟩) 1 1) 1 (cells [⟨⟨#[117]⟩, true, 0, -1⟩]) := by
    rw [hw1]
    exact ⟨rfl, .inr ⟨w.heap.size, 1, _, rfl, Nat.le_refl _, World.alloc_heap_new w _, Nat.le_refl _, by simp [maxLen], rfl, rfl⟩⟩
  rw [← hw1]
  have D1 := D.high hb1 hlt
  refine (next_any w1 g 5 l k D1 (by omega) (by omega)).mono ?_
  rintro _ w2 ⟨v, k2, rfl, hv, D2, hK2, hsz2⟩
  have hK : Kept g w w2 := (Kept.of_below hb1 (Nat.le_of_lt hlt)).trans hK2
  have ho2 := hK2.own (by omega) ho1
  clear ho1 hw1
  go_wp2_with fail
  go_loopw [3, 4] (fun s i wr => ∃ (q : Nat) (ps : List Perm) (kk : Nat), i = .int .i64 (q : Int) ∧ q ≤ 4 ∧ 0 < ps.length ∧ ps.length + q ≤ 5 ∧ wr.ownsRow w.heap.size 32 4 s ps.length (cells ps) ∧ DiceK wr g l kk ∧ Kept g w wr)
    (fun _ i _ => (intOf i).toNat)
  case atStart => exact ⟨v, [⟨⟨#[117]⟩, true, 0, -1⟩], k2, rfl, by omega, by simp, by simp; omega, ho2, D2, hK⟩
  case round =>
    obtain ⟨q, ps, kk, rfl, hq, hp0, hp5, hown, DD, hKK⟩ := hrel
    by_cases hq0 : q = 0
    · subst hq0
      go_wp2_with fail
      go_ret
      exact ⟨_, ps, rfl, hp0, by omega, hown, hKK⟩
    · have hq1 : 0 < (q : Int) := by omega
      obtain ⟨gg, cap, rfl, hgg, hlt2⟩ := hown.form hp0
      go_wp2_with fail
      have hgl : g < wr.heap.size := DD.lt
      obtain ⟨wa, hwa⟩ : ∃ wa, wa = wr.alloc (.cells #[.string ⟨#[117]⟩, .string ⟨#[118]⟩, .string ⟨#[117]⟩] 9) := ⟨_, rfl⟩
      have hba : Below wr.heap.size wr wa := by rw [hwa]; exact (Below.refl _ wr).alloc (Nat.le_refl _) _
      have hsa : wa.heap.size = wr.heap.size + 1 := by rw [hwa]; simp
      have hx := World.alloc_heap_new wr (.cells #[.string ⟨#[117]⟩, .string ⟨#[118]⟩, .string ⟨#[117]⟩] 9)
      rw [← hwa] at hx ⊢
      have x0 : wa.cell? ⟨wr.heap.size, 0, none⟩ = some (.string ⟨#[117]⟩) := by simp only [World.cell?, hx]; rfl
      have x1 : wa.cell? ⟨wr.heap.size, 1, none⟩ = some (.string ⟨#[118]⟩) := by simp only [World.cell?, hx]; rfl
      have x2 : wa.cell? ⟨wr.heap.size, 2, none⟩ = some (.string ⟨#[117]⟩) := by simp only [World.cell?, hx]; rfl
      have Da := DD.high hba hgl
      refine (word_any wa g wr.heap.size 3 _ _ _ l kk Da x0 x1 x2 (by omega) (by omega)).mono ?_
      rintro _ w3 ⟨us, k3, rfl, hus, D3, K3, z3⟩
      clear hwa hx x0 x1 x2
      go_wp2_with fail
      refine (next_any w3 g 3 l k3 D3 (by omega) (by omega)).mono ?_
      rintro _ w4 ⟨v4, k4, rfl, hv4, D4, K4, z4⟩
      go_wp2_with fail
      refine (next_any w4 g 5 l k4 D4 (by omega) (by omega)).mono ?_
      rintro _ w5 ⟨v5, k5, rfl, hv5, D5, K5, z5⟩
      go_wp2_with fail
      refine (next_any w5 g 4 l k5 D5 (by omega) (by omega)).mono ?_
      rintro _ w6 ⟨v6, k6, rfl, hv6, D6, K6, z6⟩
      have KK := (((Kept.of_below hba (Nat.le_of_lt hgl)).trans K3).trans K4).trans (K5.trans K6)
      have hown6 := KK.own hlt hown
      have e1 : IntKind.i64.wrap ((v6 : Int) - 1) = (v6 : Int) - 1 := IntWalk.i64_in _ (by omega)
      clear D3 D4 D5 K3 K4 K5 K6 hown hba
      obtain ⟨pn, hpn⟩ : ∃ pn : Perm, pn = ⟨us, (v4 : Int) == 0, (v5 : Int), (v6 : Int) - 1⟩ := ⟨_, rfl⟩
      go_wp2_with (at_builtin; refine wpList_append_lies _ (by rfl) _ _ 25 (by rfl) w.heap.size 32 i0 _ 4 40 Try.underlying25 hi hz0 hz1 hz2 rfl (by omega) _ ps.length (cells ps) (by rfl) (hown6.alloc _) ⟨w6.heap.size, 0, none⟩ 1 1 pn.cs (by rfl) (by rfl) (by rw [hpn]; exact World.news_of_block (cs := #[.string us, .bool ((v4 : Int) == 0), .int .i64 (v5 : Int), .int .i64 ((v6 : Int) - 1)]) (t := 32) (fr := (0, 0)) (World.alloc_heap_new w6 _)) (by intro u hu; exact cells_one [pn] u (by simpa [cells] using hu)) (by omega) (by unfold maxLen; omega) (by omega) (by have := KK.bel.size; have := hKK.bel.size; simp; omega) (w6.heap.size + 1) (by simp) ?_; intro g2 cap2 w7 hown7 hgrow hat hlt7)
      have hsz6 : w.heap.size ≤ w6.heap.size := Nat.le_trans hKK.bel.size KK.bel.size
      have hb7 : Below w.heap.size w6 w7 := ((Below.refl w.heap.size w6).alloc hsz6 _).grown hgrow (by simp; omega) (fun k e => by have := Option.some.inj e; simp only at this; omega)
      have hK7 : Kept g w w7 := (hKK.trans KK).low hb7 (Nat.le_of_lt hlt)
      have D7 := D6.high hb7 hlt
      rw [show cells ps ++ pn.cs = cells (ps ++ [pn]) by rw [cells_append]; simp [cells]] at hown7
      have e2 : IntKind.i64.wrap ((q : Int) - 1) = (q : Int) - 1 := IntWalk.i64_in _ (by omega)
      clear hown6 hgrow hat hb7 KK hKK D6 e1
      go_wp2_with fail
      go_roundw
      case rel => exact ⟨q - 1, ps ++ [pn], k6, by exact congrArg _ (by omega), by omega, by simp, by simp; omega, by simpa using hown7, D7, hK7⟩
      case measure => simp [intOf]; omega
end Go.Proofs.Ytlionnncmgiifaa.acc
