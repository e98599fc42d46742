/- access.Visible at the example of chapter 42. -/
import Derived.Test.YtlionnncmgiifaaAi
import Derived.Deep.RegionLaw
import Derived.Deep.DeepCutAuto
import Derived.Deep.CutBlock
set_option linter.unusedVariables false
set_option linter.unusedSimpArgs false
namespace Go.Proofs.Ytlionnncmgiifaa.acc
open Go.RowKit Go.Proofs.Ytlionnncmgiifaa.dice

theorem heap_cell {w : World} {b o : Nat} {cs : Array Value} {t : TypeId} {fr : Nat × Nat} {v : Value} (h : w.heap[b]? = some (.cells cs t fr)) (hv : cs[o]? = some v) : w.cell? ⟨b, o, none⟩ = some v := by
  simp only [World.cell?, h]
  exact hv

theorem info_table : (Try.prog.info? 45).map (fun i => (i.zero, i.size, i.bytes)) = some (some (.agg #[.int .i64 0, .string ⟨#[]⟩, .slice none 0 0]), 3, 48) := by kernel_rfl
theorem info_column : (Try.prog.info? 40).map (fun i => (i.zero, i.size, i.bytes)) = some (some (.agg #[.string ⟨#[]⟩, .slice none 0 0]), 2, 40) := by kernel_rfl

set_option maxRecDepth 100000 in
set_option maxHeartbeats 400000 in
/-- table.Rows of a table with columns -/
theorem rows_any (id : Int) (nm : ByteArray) (cb k c n cp : Nat) (A : Option Addr) (w : World) (hk : 0 < k) (h : w.cell? ⟨cb, 1, none⟩ = some (.slice A n cp)) :
    Calls Try.prog 16 #[.agg #[.int .i64 id, .string nm, .slice (some ⟨cb, 0, none⟩) k c]] w fun e w' => e = .returned (.int .i64 (n : Int)) ∧ Below w.heap.size w w' := by
  have hk' : (0 : Int) < (k : Int) := by omega
  have hk2 : ((k : Int) == 0) = false := beq_eq_false_iff_ne.2 (by omega)
  have h' : (w.alloc (.cells #[.int .i64 id, .string nm, .slice (some ⟨cb, 0, none⟩) k c] 45)).cell? ⟨cb, 1, none⟩ = some (.slice A n cp) := cell_alloc _ h
  go_enter Try.func16, Try.ntmps16
  go_wp2
  go_ret
  exact ⟨rfl, (Below.refl _ w).alloc (Nat.le_refl _) _⟩

/-- behind the first column: the table that is seen has one column, of one cell that is null -/
def Mid (S : Nat) (w2 wx : World) : Prop :=
  ∃ g cap xg xc, wx.heap[S]? = some (.cells #[.int .i64 7, .string ⟨#[]⟩, .slice (some ⟨g, 0, none⟩) 1 cap] 45) ∧
    wx.ownsRow (S + 1) 40 2 (.slice (some ⟨g, 0, none⟩) 1 cap) 1 [.string ⟨#[]⟩, .slice (some ⟨xg, 0, none⟩) 1 xc] ∧ wx.cell? ⟨xg, 0, none⟩ = some (.bool true) ∧ S < xg ∧ xg ≠ g ∧ Kept S w2 wx

/-- behind both columns -/
def End (S : Nat) (nm : ByteArray) (w2 wx : World) : Prop :=
  ∃ g cap xg xc xg2 xc2, wx.heap[S]? = some (.cells #[.int .i64 7, .string ⟨#[]⟩, .slice (some ⟨g, 0, none⟩) 2 cap] 45) ∧
    wx.ownsRow (S + 1) 40 2 (.slice (some ⟨g, 0, none⟩) 2 cap) 2 [.string ⟨#[]⟩, .slice (some ⟨xg, 0, none⟩) 1 xc, .string nm, .slice (some ⟨xg2, 0, none⟩) 1 xc2] ∧ wx.cell? ⟨xg, 0, none⟩ = some (.bool true) ∧ S < xg ∧ Kept S w2 wx

theorem set_heap {W : World} {b o : Nat} {cs : Array Value} {t : TypeId} (h : W.heap[b]? = some (.cells cs t)) (v : Value) : (W.setCell ⟨b, o, none⟩ v).heap[b]? = some (.cells (cs.setIfInBounds o v) t) := by
  obtain ⟨hlt, hk⟩ := Array.getElem?_eq_some_iff.1 h
  show (W.heap.modify b _)[b]? = _
  rw [Array.getElem?_eq_getElem (by rw [Array.size_modify]; exact hlt), Array.getElem_modify_self, hk]
  rfl

theorem lt_of_cell {W : World} {p : Addr} {v : Value} (h : W.cell? p = some v) : p.block < W.heap.size := by
  obtain ⟨o, ho, _⟩ := cells_of_cell h
  exact (Array.getElem?_eq_some_iff.1 ho).1

theorem mid_put {S g cap xg xc : Nat} {w2 W8 : World} {v : Value} (hS : W8.heap[S]? = some (.cells #[.int .i64 7, .string ⟨#[]⟩, v] 45))
    (ho : W8.ownsRow (S + 1) 40 2 (.slice (some ⟨g, 0, none⟩) 1 cap) 1 [.string ⟨#[]⟩, .slice (some ⟨xg, 0, none⟩) 1 xc]) (hx : W8.cell? ⟨xg, 0, none⟩ = some (.bool true)) (hg : S < xg) (hne : xg ≠ g) (hK : Kept S w2 W8) :
    Mid S w2 (W8.setCell ⟨S, 2, none⟩ (.slice (some ⟨g, 0, none⟩) 1 cap)) := by
  have hown : (W8.setCell ⟨S, 2, none⟩ (.slice (some ⟨g, 0, none⟩) 1 cap)).ownsRow (S + 1) 40 2 (.slice (some ⟨g, 0, none⟩) 1 cap) 1 [.string ⟨#[]⟩, .slice (some ⟨xg, 0, none⟩) 1 xc] := by
    obtain ⟨h1, h2⟩ := ho
    refine ⟨h1, ?_⟩
    rcases h2 with ⟨e, _⟩ | ⟨b, cp, cur, hv, hb, hgg, r⟩
    · cases e
    · exact Or.inr ⟨b, cp, cur, hv, hb, (Below.heap_setCell _ _ _ _ (by show b ≠ S; omega)).trans hgg, r⟩
  refine ⟨g, cap, xg, xc, set_heap hS _, hown, (World.cell?_of_block (Below.heap_setCell _ _ _ _ (by show xg ≠ S; omega))).trans hx, hg, hne, ⟨hK.bel.setCell (p := ⟨S, 2, none⟩) (Nat.le_refl _) _, fun b hb hn => (Below.heap_setCell _ _ _ _ (by show b ≠ S; exact hn)).trans (hK.other b hb hn)⟩⟩

theorem end_put {S g cap xg xc xg2 xc2 : Nat} {nm : ByteArray} {w2 W8 : World} {v : Value} (hS : W8.heap[S]? = some (.cells #[.int .i64 7, .string ⟨#[]⟩, v] 45))
    (ho : W8.ownsRow (S + 1) 40 2 (.slice (some ⟨g, 0, none⟩) 2 cap) 2 [.string ⟨#[]⟩, .slice (some ⟨xg, 0, none⟩) 1 xc, .string nm, .slice (some ⟨xg2, 0, none⟩) 1 xc2]) (hx : W8.cell? ⟨xg, 0, none⟩ = some (.bool true)) (hg : S < xg) (hK : Kept S w2 W8) :
    End S nm w2 (W8.setCell ⟨S, 2, none⟩ (.slice (some ⟨g, 0, none⟩) 2 cap)) := by
  have hown : (W8.setCell ⟨S, 2, none⟩ (.slice (some ⟨g, 0, none⟩) 2 cap)).ownsRow (S + 1) 40 2 (.slice (some ⟨g, 0, none⟩) 2 cap) 2 [.string ⟨#[]⟩, .slice (some ⟨xg, 0, none⟩) 1 xc, .string nm, .slice (some ⟨xg2, 0, none⟩) 1 xc2] := by
    obtain ⟨h1, h2⟩ := ho
    refine ⟨h1, ?_⟩
    rcases h2 with ⟨e, _⟩ | ⟨b, cp, cur, hv, hb, hgg, r⟩
    · cases e
    · exact Or.inr ⟨b, cp, cur, hv, hb, (Below.heap_setCell _ _ _ _ (by show b ≠ S; omega)).trans hgg, r⟩
  exact ⟨g, cap, xg, xc, xg2, xc2, set_heap hS _, hown, (World.cell?_of_block (Below.heap_setCell _ _ _ _ (by show xg ≠ S; omega))).trans hx, hg, ⟨hK.bel.setCell (p := ⟨S, 2, none⟩) (Nat.le_refl _) _, fun b hb hn => (Below.heap_setCell _ _ _ _ (by show b ≠ S; exact hn)).trans (hK.other b hb hn)⟩⟩

set_option maxRecDepth 100000 in
set_option maxHeartbeats 2000000 in
theorem visible_two (v : Value) (ps : List Perm) (u nm : ByteArray) (tb cb xb : Nat) (w : World) (hI : Perms w.heap.size w v ps) (m0 : may ps u 7 0 = false) (m1 : may ps u 7 1 = true)
    (ht : w.heap[tb]? = some (.cells #[.int .i64 7, .string ⟨#[]⟩, .slice (some ⟨cb, 0, none⟩) 2 2] 45))
    (hc : w.heap[cb]? = some (.cells #[.string nm, .slice (some ⟨xb, 0, none⟩) 1 1, .string nm, .slice (some ⟨xb, 0, none⟩) 1 1] 40))
    (hx : w.heap[xb]? = some (.cells #[.bool false, .string ⟨#[120]⟩] 37)) :
    Calls Try.prog 9 #[v, .string u, .slice (some ⟨tb, 0, none⟩) 1 1] w fun e w' => ∃ tb' c1 cb' c2 xb' c3, e = .returned (.slice (some ⟨tb', 0, none⟩) 1 c1) ∧
      w'.cell? ⟨tb', 2, none⟩ = some (.slice (some ⟨cb', 0, none⟩) 2 c2) ∧ w'.cell? ⟨cb', 1, none⟩ = some (.slice (some ⟨xb', 0, none⟩) 1 c3) ∧ w'.cell? ⟨xb', 0, none⟩ = some (.bool true) ∧ w'.cell? ⟨cb', 2, none⟩ = some (.string nm) ∧ Below w.heap.size w w' := by
  obtain ⟨a, len, cap, rfl⟩ : ∃ a len cap, v = .slice a len cap := by
    obtain ⟨_, ⟨rfl, _⟩ | ⟨b, off, cap, rfl, _⟩⟩ := hI
    · exact ⟨_, _, _, rfl⟩
    · exact ⟨_, _, _, rfl⟩
  have t0 := heap_cell (o := 0) ht rfl
  have t1 := heap_cell (o := 1) ht rfl
  have t2 := heap_cell (o := 2) ht rfl
  have q0 := heap_cell (o := 0) hc rfl
  have q1 := heap_cell (o := 1) hc rfl
  have q2 := heap_cell (o := 2) hc rfl
  have q3 := heap_cell (o := 3) hc rfl
  go_enter Try.func9, Try.ntmps9
  go_wp2_with fail
  refine wp_loop_rounds 2 ?_
  rw [rounds_succ]
  go_wp2_with fail
  obtain ⟨w1, hw1⟩ : ∃ w1, w1 = (w.alloc (.cells #[.int .i64 7, .string ⟨#[]⟩, .slice (some ⟨cb, 0, none⟩) 2 2] 45)).alloc (.cells #[.int .i64 7, .string ⟨#[]⟩, .slice none 0 0] 45) := ⟨_, rfl⟩
  have hs1 : w1.heap.size = w.heap.size + 2 := by rw [hw1]; simp
  have hb1 : Below w.heap.size w w1 := by rw [hw1]; exact ((Below.refl _ w).alloc (Nat.le_refl _) _).alloc (by simp) _
  have hT : w1.heap[w.heap.size]? = some (.cells #[.int .i64 7, .string ⟨#[]⟩, .slice (some ⟨cb, 0, none⟩) 2 2] 45) := by
    rw [hw1]; exact (Below.heap_alloc _ _ _ (by simp)).trans (World.alloc_heap_new w _)
  have hS : w1.heap[w.heap.size + 1]? = some (.cells #[.int .i64 7, .string ⟨#[]⟩, .slice none 0 0] 45) := by
    rw [hw1]
    have := World.alloc_heap_new (w.alloc (.cells #[.int .i64 7, .string ⟨#[]⟩, .slice (some ⟨cb, 0, none⟩) 2 2] 45)) (.cells #[.int .i64 7, .string ⟨#[]⟩, .slice none 0 0] 45)
    rwa [World.size_alloc] at this
  have hcb : cb < w.heap.size := (Array.getElem?_eq_some_iff.1 hc).1
  have hxb : xb < w.heap.size := (Array.getElem?_eq_some_iff.1 hx).1
  have hI1 := hI.below hb1
  have hc1 := (hb1.block cb hcb).trans hc
  have hx1 := (hb1.block xb hxb).trans hx
  rw [← hw1]
  clear hw1 hI hc hx ht t0 t1 t2 q0 q1 q2 q3
  -- the first column
  refine wp_loop_rounds 3 ?_
  rw [rounds_succ]
  go_upto_block 3 with fail
  go_cut [11] (fun s11 wx => s11 = .bool false ∧ Mid (w.heap.size + 1) w1 wx)
  case first =>
    have T0 : w1.cell? ⟨w.heap.size, 0, none⟩ = some (.int .i64 7) := heap_cell hT rfl
    have Q0 : w1.cell? ⟨cb, 0, none⟩ = some (.string nm) := heap_cell hc1 rfl
    have Q1 : w1.cell? ⟨cb, 1, none⟩ = some (.slice (some ⟨xb, 0, none⟩) 1 1) := heap_cell hc1 rfl
    have T0' := cell_alloc (.cells #[.string nm, .slice (some ⟨xb, 0, none⟩) 1 1] 40) T0
    go_wp2_with fail
    obtain ⟨wa, hwa⟩ : ∃ wa, wa = w1.alloc (.cells #[.string nm, .slice (some ⟨xb, 0, none⟩) 1 1] 40) := ⟨_, rfl⟩
    have hsa : wa.heap.size = w.heap.size + 3 := by rw [hwa]; simp; omega
    have hba : Below w1.heap.size w1 wa := by rw [hwa]; exact (Below.refl _ w1).alloc (Nat.le_refl _) _
    rw [← hwa]
    clear hwa T0' T0 Q0 Q1
    refine (may_any _ ps u 7 0 wa ((hI1.below (hba.mono (by omega))).more (by omega))).mono ?_
    rintro _ w2 ⟨rfl, hb2⟩
    rw [m0]
    have hb12 : Below w1.heap.size w1 w2 := hba.trans (hb2.mono (by omega))
    have hT2 := (hb12.block _ (by omega)).trans hT
    have hS2 := (hb12.block _ (by omega)).trans hS
    have hc2 := (hb12.block _ (by omega)).trans hc1
    have hx2 := (hb12.block _ (by omega)).trans hx1
    have hs2 : w.heap.size + 3 ≤ w2.heap.size := by have := hb2.size; omega
    clear hT hS hc1 hx1 hba
    have T0 : w2.cell? ⟨w.heap.size, 0, none⟩ = some (.int .i64 7) := heap_cell hT2 rfl
    have T1 : w2.cell? ⟨w.heap.size, 1, none⟩ = some (.string ⟨#[]⟩) := heap_cell hT2 rfl
    have T2 : w2.cell? ⟨w.heap.size, 2, none⟩ = some (.slice (some ⟨cb, 0, none⟩) 2 2) := heap_cell hT2 rfl
    have S2 : w2.cell? ⟨w.heap.size + 1, 2, none⟩ = some (.slice none 0 0) := heap_cell hS2 rfl
    have Q1 : w2.cell? ⟨cb, 1, none⟩ = some (.slice (some ⟨xb, 0, none⟩) 1 1) := heap_cell hc2 rfl
    obtain ⟨i0, hi, hz0, hz1, hz2⟩ := info_parts info_column
    have S2f : w2.frozen? ⟨w.heap.size + 1, 2, none⟩ = false := by simp [World.frozen?, hS2]
    go_wp2_with fail
    go_region_law (first
      | (go_simp; go_at_call 16; refine (rows_any 7 ⟨#[]⟩ cb 2 2 1 1 _ _ (by decide) (by exact Q1)).mono ?_; rintro _ W5 ⟨rfl, hb5⟩
         have S5 := (hb5.cell (p := ⟨w.heap.size + 1, 2, none⟩) (by simp; omega)).trans S2)
      | (go_simp; go_at_call 15; refine (hidden_one W5).mono ?_; rintro _ W6 ⟨xg, xc, rfl, hxg, x0, x1, hb6⟩
         have hb26 : Below w2.heap.size w2 W6 := (Below.refl w2.heap.size w2).drew.trans (hb5.trans (hb6.mono hb5.size))
         have hS6 := (hb26.block (w.heap.size + 1) (by omega)).trans hS2
         have S6 : W6.cell? ⟨w.heap.size + 1, 2, none⟩ = some (.slice none 0 0) := heap_cell hS6 rfl
         have S7 := cell_alloc (.cells #[.string ⟨#[]⟩, .slice (some ⟨xg, 0, none⟩) 1 xc] 40) S6
         clear S5)
      | (refine step_append_lies _ (by rfl) _ _ 43 (by rfl) (w.heap.size + 1 + 1) 40 i0 _ 2 40 Try.underlying43 hi hz0 hz1 hz2 rfl (by omega) _ 0 [] (by rfl) (World.ownsRow_nil _ _ _ _) ⟨W6.heap.size, 0, none⟩ 1 1 [.string ⟨#[]⟩, .slice (some ⟨xg, 0, none⟩) 1 xc] (by rfl) (by rfl) (World.news_of_block (cs := #[.string ⟨#[]⟩, .slice (some ⟨xg, 0, none⟩) 1 xc]) (t := 40) (fr := (0, 0)) (World.alloc_heap_new W6 _)) (by simp [Value.oneCell']) (by omega) (by unfold maxLen; omega) (by omega) (by have := hb26.size; simp; omega) (W6.heap.size + 1) (by simp) ?_
         intro g8 cap8 W8 hown8 hgrow8 hat8 hlt8
         have hb8 : Below w2.heap.size w2 W8 := (hb26.alloc hb26.size _).grown hgrow8 (by have := hb26.size; simp; omega) (fun k e => by simp [Value.ownBlock] at e)
         have hS8 := (hb8.block (w.heap.size + 1) (by omega)).trans hS2
         have S8 : W8.cell? ⟨w.heap.size + 1, 2, none⟩ = some (.slice none 0 0) := heap_cell hS8 rfl
         have F8 : W8.frozen? ⟨w.heap.size + 1, 2, none⟩ = false := by simp [World.frozen?, hS8]
         clear S6 S7))
    all_goals (go_wp2_with fail; go_meet)
    all_goals (
      have hb68 : Below W6.heap.size W6 W8 := ((Below.refl W6.heap.size W6).alloc (Nat.le_refl _) _).grown hgrow8 (by simp) (fun k e => by simp [Value.ownBlock] at e)
      have hxlt : xg < W6.heap.size := lt_of_cell x0
      have hszW5 := hb5.size
      have hne8 : xg ≠ g8 := by
        rcases hat8 with e | e
        · simp [Value.ownBlock] at e
        · omega
      exact ⟨rfl, mid_put hS8 hown8 ((hb68.cell (p := ⟨xg, 0, none⟩) hxlt).trans x0) (by simp at hszW5; omega) hne8 (Kept.of_below (hb12.trans (hb8.mono hb12.size)) (by omega))⟩)
  case rest =>
  obtain ⟨rfl, g8, cap8, xg, xc, hS3, ho3, hx3, hxg, hxne, hK3⟩ := hcut
  go_wp2_with fail
  rw [rounds_succ]
  have hT3 := (hK3.other _ (by omega) (by omega)).trans hT
  have hc3 := (hK3.other _ (by omega) (by omega)).trans hc1
  have hx4 := (hK3.other _ (by omega) (by omega)).trans hx1
  have hs3 : w.heap.size + 2 ≤ wc.heap.size := by have := hK3.bel.size; omega
  have hb3 : Below w.heap.size w wc := hb1.trans (hK3.bel.mono (by omega))
  have hI3 := hI1.below (hK3.bel.mono (by omega))
  clear hT hS hc1 hx1 hI1
  -- the second column
  go_upto_block 3 with fail
  go_cut [11] (fun s11 wx => s11 = .bool true ∧ End (w.heap.size + 1) nm w1 wx)
  case first =>
    have T0 : wc.cell? ⟨w.heap.size, 0, none⟩ = some (.int .i64 7) := heap_cell hT3 rfl
    have Q0 : wc.cell? ⟨cb, 2, none⟩ = some (.string nm) := heap_cell hc3 rfl
    have Q1 : wc.cell? ⟨cb, 3, none⟩ = some (.slice (some ⟨xb, 0, none⟩) 1 1) := heap_cell hc3 rfl
    have T0' := cell_alloc (.cells #[.string nm, .slice (some ⟨xb, 0, none⟩) 1 1] 40) T0
    go_wp2_with fail
    obtain ⟨wa, hwa⟩ : ∃ wa, wa = wc.alloc (.cells #[.string nm, .slice (some ⟨xb, 0, none⟩) 1 1] 40) := ⟨_, rfl⟩
    have hsa : wa.heap.size = wc.heap.size + 1 := by rw [hwa]; simp
    have hba : Below wc.heap.size wc wa := by rw [hwa]; exact (Below.refl _ wc).alloc (Nat.le_refl _) _
    have hbox : wa.heap[wc.heap.size]? = some (.cells #[.string nm, .slice (some ⟨xb, 0, none⟩) 1 1] 40) := by rw [hwa]; exact World.alloc_heap_new wc _
    rw [← hwa]
    clear hwa T0' T0 Q0 Q1
    refine (may_any _ ps u 7 1 wa ((hI3.below (hba.mono (by omega))).more (by omega))).mono ?_
    rintro _ w2 ⟨rfl, hb2⟩
    rw [m1]
    have hb12 : Below wc.heap.size wc w2 := hba.trans (hb2.mono (by omega))
    have hbox2 := (hb2.block _ (by omega)).trans hbox
    have hS2 := (hb12.block _ (by omega)).trans hS3
    have hx2 := (hb12.block _ (by omega)).trans hx4
    have hs2 : wc.heap.size + 1 ≤ w2.heap.size := by have := hb2.size; omega
    have ho2 := ho3.kept (row := none) (w' := w2) ⟨hb12.os, hb12.tape, hb12.output, hb12.size, fun k hk _ => hb12.block k hk⟩ (by simp [Value.ownBlock])
    have hxlt3 : xg < wc.heap.size := lt_of_cell hx3
    have hxc2 := (hb12.cell (p := ⟨xg, 0, none⟩) hxlt3).trans hx3
    clear hbox hba hT3 hc3 ho3
    have N0 : w2.cell? ⟨wc.heap.size, 0, none⟩ = some (.string nm) := heap_cell hbox2 rfl
    have N1 : w2.cell? ⟨wc.heap.size, 1, none⟩ = some (.slice (some ⟨xb, 0, none⟩) 1 1) := heap_cell hbox2 rfl
    have S2 : w2.cell? ⟨w.heap.size + 1, 2, none⟩ = some (.slice (some ⟨g8, 0, none⟩) 1 cap8) := heap_cell hS2 rfl
    have S2f : w2.frozen? ⟨w.heap.size + 1, 2, none⟩ = false := by simp [World.frozen?, hS2]
    obtain ⟨i0, hi, hz0, hz1, hz2⟩ := info_parts info_column
    go_wp2_with fail
    go_region_law (first
      | (go_simp; go_at_call 14; refine (cloneColumn nm ⟨xb, 0, none⟩ 1 1 [.bool false, .string ⟨#[120]⟩] _ (by decide) rfl (by decide) (by exact World.news_of_block (cs := #[.bool false, .string ⟨#[120]⟩]) hx2) (by show xb < w2.heap.size; omega) (by simp [Value.oneCell'])).mono ?_; rintro _ W6 ⟨ng, rfl, hng, hcl, hb6⟩
         have hb26 : Below w2.heap.size w2 W6 := (Below.refl w2.heap.size w2).drew.trans hb6
         have hS6 := (hb26.block (w.heap.size + 1) (by omega)).trans hS2
         have S6 : W6.cell? ⟨w.heap.size + 1, 2, none⟩ = some (.slice (some ⟨g8, 0, none⟩) 1 cap8) := heap_cell hS6 rfl
         have S7 := cell_alloc (.cells #[.string nm, .slice (some ⟨ng, 0, none⟩) 1 1] 40) S6
         have ho6 := ho2.kept (row := none) (w' := W6) ⟨hb26.os, hb26.tape, hb26.output, hb26.size, fun k hk _ => hb26.block k hk⟩ (by simp [Value.ownBlock])
         clear hcl)
      | (refine step_append_lies _ (by rfl) _ _ 43 (by rfl) (w.heap.size + 1 + 1) 40 i0 _ 2 40 Try.underlying43 hi hz0 hz1 hz2 rfl (by omega) _ 1 _ (by rfl) (ho6.alloc _) ⟨W6.heap.size, 0, none⟩ 1 1 [.string nm, .slice (some ⟨ng, 0, none⟩) 1 1] (by rfl) (by rfl) (World.news_of_block (cs := #[.string nm, .slice (some ⟨ng, 0, none⟩) 1 1]) (t := 40) (fr := (0, 0)) (World.alloc_heap_new W6 _)) (by simp [Value.oneCell']) (by omega) (by unfold maxLen; omega) (by omega) (by have := hb26.size; simp; omega) (W6.heap.size + 1) (by simp) ?_
         intro g9 cap9 W8 hown8 hgrow8 hat8 hlt8
         have hg8 : w.heap.size + 1 + 1 ≤ g8 := (ho6.lt g8 rfl).1
         have hb48 : Below w1.heap.size w2 W8 := ((hb26.mono (by have := hb12.size; omega)).alloc (by have := hb12.size; have := hb26.size; omega) _).grown hgrow8 (by have := hb12.size; have := hb26.size; simp; omega) (fun k e => by have := Option.some.inj e; simp only at this; omega)
         have hK8 : Kept (w.heap.size + 1) w1 W8 := hK3.low ((hb12.mono (by omega)).trans hb48) (by omega)
         have hS8 : W8.heap[w.heap.size + 1]? = _ := ((hgrow8.block (w.heap.size + 1) (by have := hb26.size; simp; omega) (fun e => by have := Option.some.inj e; simp only at this; omega)).trans (Below.heap_alloc W6 _ (w.heap.size + 1) (by have := hb26.size; omega))).trans hS6
         have S8 : W8.cell? ⟨w.heap.size + 1, 2, none⟩ = some (.slice (some ⟨g8, 0, none⟩) 1 cap8) := heap_cell hS8 rfl
         have F8 : W8.frozen? ⟨w.heap.size + 1, 2, none⟩ = false := by simp [World.frozen?, hS8]
         have hx8 : W8.cell? ⟨xg, 0, none⟩ = some (.bool true) := ((World.cell?_of_block ((hgrow8.block xg (by have := hb12.size; have := hb26.size; simp; omega) (fun e => by have := Option.some.inj e; simp only at this; omega)).trans (Below.heap_alloc W6 _ xg (by have := hb12.size; have := hb26.size; omega)))).trans (hb26.cell (p := ⟨xg, 0, none⟩) (by show xg < w2.heap.size; have := hb12.size; omega))).trans hxc2
         clear S6 S7))
    all_goals (go_wp2_with fail; go_meet)
    all_goals exact ⟨rfl, end_put hS8 hown8 hx8 hxg hK8⟩
  case rest =>
  obtain ⟨rfl, g9, cap9, yg, yc, zg, zc, hS9, ho9, hx9, hyg, hK9⟩ := hcut
  clear hK3 hx4 hI3 hS3 hx3 hb3 hT3 hc3 ho3 hs3
  have S0 : wc.cell? ⟨w.heap.size + 1, 0, none⟩ = some (.int .i64 7) := heap_cell hS9 rfl
  have S1 : wc.cell? ⟨w.heap.size + 1, 1, none⟩ = some (.string ⟨#[]⟩) := heap_cell hS9 rfl
  have S2 : wc.cell? ⟨w.heap.size + 1, 2, none⟩ = some (.slice (some ⟨g9, 0, none⟩) 2 cap9) := heap_cell hS9 rfl
  have C1 := ho9.cells (g := g9) rfl 1 _ rfl
  have C2 := ho9.cells (g := g9) rfl 2 _ rfl
  rw [show ((⟨g9, 0, none⟩ : Addr).add 1) = ⟨g9, 1, none⟩ from rfl] at C1
  rw [show ((⟨g9, 0, none⟩ : Addr).add 2) = ⟨g9, 2, none⟩ from rfl] at C2
  have hg9 := ho9.lt g9 rfl
  have hylt : yg < wc.heap.size := lt_of_cell hx9
  have hslt : w.heap.size + 1 < wc.heap.size := by have := hK9.bel.size; omega
  have hB9 : Below w.heap.size w wc := hb1.trans (hK9.bel.mono (by omega))
  obtain ⟨i1, hj, hz3, hz4, hz5⟩ := info_parts info_table
  have HC := Lib.hid (And.intro C1 (And.intro C2 hx9))
  clear C1 C2 hx9 hS9 ho9 hK9
  go_wp2_with fail
  rw [rounds_succ]
  go_wp2_with (at_builtin; refine wpList_append_lies _ (by rfl) _ _ 41 (by rfl) wc.heap.size 45 i1 _ 3 48 Try.underlying41 hj hz3 hz4 hz5 rfl (by omega) _ 0 [] (by rfl) (World.ownsRow_nil _ _ _ _) ⟨wc.heap.size, 0, none⟩ 1 1 [.int .i64 7, .string ⟨#[]⟩, .slice (some ⟨g9, 0, none⟩) 2 cap9] (by rfl) (by rfl) (World.news_of_block (cs := #[.int .i64 7, .string ⟨#[]⟩, .slice (some ⟨g9, 0, none⟩) 2 cap9]) (t := 45) (fr := (0, 0)) (World.alloc_heap_new wc _)) (by simp [Value.oneCell']) (by omega) (by unfold maxLen; omega) (by omega) (by simp) (wc.heap.size + 1) (by simp) ?_; intro tg tcap W9 hown9 hgrow9 hat9 hlt9)
  have hb9 : Below wc.heap.size wc W9 := ((Below.refl wc.heap.size wc).alloc (Nat.le_refl _) _).grown hgrow9 (by simp) (fun k e => by simp [Value.ownBlock] at e)
  have T2 := hown9.cells (g := tg) rfl 2 _ rfl
  rw [show ((⟨tg, 0, none⟩ : Addr).add 2) = ⟨tg, 2, none⟩ from rfl] at T2
  have HT := Lib.hid (And.intro T2 hb9)
  clear hown9 hgrow9 hat9 T2 hb9
  go_wp2_with fail
  rw [rounds_succ]
  go_wp2_with fail
  go_ret
  obtain ⟨T2, hb9⟩ := HT.out
  obtain ⟨C1, C2, hx9⟩ := HC.out
  exact ⟨tg, tcap, g9, cap9, yg, yc, rfl, T2, (hb9.cell (p := ⟨g9, 1, none⟩) hg9.2).trans C1, (hb9.cell (p := ⟨yg, 0, none⟩) hylt).trans hx9, (hb9.cell (p := ⟨g9, 2, none⟩) hg9.2).trans C2, hB9.trans (hb9.mono hB9.size)⟩
end Go.Proofs.Ytlionnncmgiifaa.acc
