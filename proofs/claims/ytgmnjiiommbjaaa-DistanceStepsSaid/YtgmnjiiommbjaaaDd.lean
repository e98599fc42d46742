/- distance.distance: the edit distance of two lists, or more than the limit. -/
import Derived.Test.YtgmnjiiommbjaaaDc
import Derived.Laws.MakeOwn
import Derived.Laws.Cover1
import Derived.Laws.OwnMore
import Derived.Deep.Cut
import Derived.Deep.DeepCutAuto
set_option linter.unusedVariables false
set_option linter.unusedSimpArgs false
namespace Go.Proofs.Ytgmnjiiommbjaaa.dist
open Go.RowKit Go.Proofs.Ytgmnjiiommbjaaa.lev

/-- the costs at block g -/
def Costs (w : World) (g n : Nat) (c : Nat → Nat) : Prop := ∀ j, j ≤ n → w.cell? ⟨g, j, none⟩ = some (.int .i64 (c j : Int)) ∧ w.frozen? ⟨g, j, none⟩ = false

theorem Costs.store {w : World} {g n : Nat} {c : Nat → Nat} (h : Costs w g n c) (k v : Nat) (hk : k ≤ n) : Costs (w.setCell ⟨g, k, none⟩ (.int .i64 (v : Int))) g n (upd c k v) := by
  intro j hj
  refine ⟨?_, by rw [World.frozen?_setCell]; exact (h j hj).2⟩
  unfold upd
  by_cases e : j = k
  · subst e
    rw [if_pos rfl]
    exact World.cell?_setCell_same _ _ _ (h j hj).1
  · rw [if_neg e, World.cell?_setCell_other _ _ _ _ (by intro h; injection h with _ h; omega)]
    exact (h j hj).1
theorem Costs.make (w : World) (n : Nat) : Costs (w.alloc (.cells (madeCells #[.int .i64 0] (n + 1)) 3)) w.heap.size n (fun _ => 0) := by
  intro j hj
  constructor
  · rw [World.cell?_alloc_new]
    have := toList_madeCells_one (.int .i64 0) (n + 1)
    rw [← Array.getElem?_toList, this, List.getElem?_replicate, if_pos (by omega)]
    rfl
  · simp only [World.frozen?, heap_alloc_new]
    simp

theorem run_mk (n : Nat) (hn : n ≤ 1000000) (W : World) : (Instr.makeSlice 33 (.int .i64 ((n : Int) + 1)) (.int .i64 ((n : Int) + 1))).run Try.prog W = .ok (.slice (some ⟨W.heap.size, 0, none⟩) (n + 1) (n + 1)) (W.alloc (.cells (madeCells #[.int .i64 0] (n + 1)) 3)) := by
  obtain ⟨i0, hi, hz0, hz1, hz2⟩ := info_parts pts.info_int
  have h := run_make (P := Try.prog) W 33 3 i0 _ Try.underlying33 hi hz0 .i64 .i64 ((n : Int) + 1) ((n : Int) + 1) (by omega) (Int.le_refl _) (by rw [hz2]; omega) (by omega)
  rw [hz1, show ((n : Int) + 1).toNat = n + 1 by omega, Nat.mul_one] at h
  exact h

set_option maxRecDepth 100000 in
set_option maxHeartbeats 4000000 in
theorem distance_any (v0 u0 : Value) (xs ys : List Int) (l : Nat) (w : World) (h : Nums w w.heap.size v0 xs) (h' : Nums w w.heap.size u0 ys) (hl : xs.length ≤ 1000000) (hl' : ys.length ≤ 1000000) (hlim : l ≤ 1000000) :
    Calls Try.prog 35 #[v0, u0, .int .i64 (l : Int)] w fun e w' => e = .returned (.int .i64 ((min (lev xs ys) (l + 1) : Nat) : Int)) ∧ Below w.heap.size w w' := by
  go_enter Try.func35, Try.ntmps35
  go_wp2_with fail
  refine (differing_any v0 u0 xs ys w _ h h' hl hl').mono ?_
  rintro _ w1 ⟨⟨v, u, p, q, rfl, hS⟩, m, rfl⟩
  clear h h'
  obtain ⟨a, cap, rfl⟩ := hS.a.len
  obtain ⟨a', cap', rfl⟩ := hS.b.len
  have hpl := hS.la
  have hql := hS.lb
  have HS := Lib.hid hS
  clear hS
  have e1 : IntKind.i64.wrap ((l : Int) + 1) = (l : Int) + 1 := IntWalk.i64_in _ (by omega)
  go_upto_if 28 with fail
  go_cut [0, 1] (fun s0 s1 wx => ∃ (A A' : Option Addr) (C C' : Nat) (b c : List Int), s0 = .slice A b.length C ∧ s1 = .slice A' c.length C' ∧ Hid (Nums w w.heap.size (.slice A b.length C) b ∧ Nums w w.heap.size (.slice A' c.length C') c ∧ lev b c = lev xs ys) ∧ b.length ≤ c.length ∧ c.length ≤ 1000000 ∧ w.drewN m = wx)
  case first =>
    by_cases hgt : q.length < p.length
    · go_wp2_with fail
      go_meet
      exact ⟨a', a, cap', cap, q, p, rfl, rfl, Lib.hid ⟨HS.out.b, HS.out.a, by rw [lev_symm]; exact HS.out.lev⟩, by omega, by omega, rfl⟩
    · go_wp2_with fail
      go_meet
      exact ⟨a, a', cap, cap', p, q, rfl, rfl, Lib.hid ⟨HS.out.a, HS.out.b, HS.out.lev⟩, by omega, by omega, rfl⟩
  case rest =>
  obtain ⟨A, A', C, C', b, c, rfl, rfl, HB, hbc, hcl, rfl⟩ := hcut
  clear HS hpl hql
  by_cases hfar : l < c.length - b.length
  · have hf : (l : Int) < (c.length : Int) - (b.length : Int) := by omega
    have HF := Lib.hid (far b c l hfar)
    go_wp2_with fail
    go_ret
    exact ⟨by rw [← HB.out.2.2, HF.out]; rfl, sane.below_q (Below.refl _ w) m⟩
  have hf : ¬ (l : Int) < (c.length : Int) - (b.length : Int) := by omega
  have hmk := fun W => run_mk c.length hcl W
  go_wp2_with fail
  obtain ⟨V, hV⟩ : ∃ V, V = (w.drewN m).alloc (.cells (madeCells #[.int .i64 0] (c.length + 1)) 3) := ⟨_, rfl⟩
  have hVc : Costs V w.heap.size c.length (fun _ => 0) := by rw [hV]; exact Costs.make (w.drewN m) c.length
  have hVb : Below w.heap.size w V := by rw [hV]; exact (sane.below_q (Below.refl _ w) m).alloc (Nat.le_refl _) _
  rw [← hV]
  obtain ⟨G, hG⟩ : ∃ G, G = w.heap.size := ⟨_, rfl⟩
  rw [← hG] at hVc hVb HB ⊢
  have HV := Lib.hid (And.intro hVc (And.intro hVb hG))
  have HGE := Lib.hid hG
  clear hV hVc hVb hmk hG hf hl hl'
  go_loopw [46] (fun i wx => ∃ k : Nat, k ≤ c.length + 1 ∧ i = .int .i64 (k : Int) ∧ Costs wx G c.length (fun j => if j < k then min j (l + 1) else 0) ∧ Below G w wx) (fun i _ => c.length + 1 - (intOf i).toNat)
  case atStart => exact ⟨0, Nat.zero_le _, rfl, HV.out.1, HV.out.2.1⟩
  case round =>
    obtain ⟨k, hk, rfl, hC, hb⟩ := hrel
    have e2 : IntKind.i64.wrap ((k : Int) + 1) = (k : Int) + 1 := IntWalk.i64_in _ (by omega)
    by_cases hlt : k < c.length + 1
    · obtain ⟨c1, f1⟩ := hC k (by omega)
      have HC := Lib.hid (And.intro hC hb)
      clear hC hb
      go_wp2_with fail
      have hm : (if (l : Int) + 1 < (k : Int) then (l : Int) + 1 else (k : Int)) = ((min k (l + 1) : Nat) : Int) := by split <;> omega
      rw [hm]
      refine ⟨⟨k + 1, by omega, by simp, fun j hj => ?_, HC.out.2.setCell (p := ⟨G, k, none⟩) (Nat.le_refl _) _⟩, by simp [intOf] <;> omega⟩
      have h2 := HC.out.1.store k (min k (l + 1)) (by omega) j hj
      refine ⟨h2.1.trans ?_, h2.2⟩
      have e0 : (if j = k then min k (l + 1) else if j < k then min j (l + 1) else 0) = (if j < k + 1 then min j (l + 1) else 0) := by
        by_cases e : j = k
        · subst e
          rw [if_pos rfl, if_pos (by omega)]
        · rw [if_neg e]
          by_cases e2 : j < k
          · rw [if_pos e2, if_pos (by omega)]
          · rw [if_neg e2, if_neg (by omega)]
      exact congrArg (fun n : Nat => some (Value.int IntKind.i64 (n : Int))) e0
    · obtain rfl : k = c.length + 1 := by omega
      have HC := Lib.hid (And.intro hC hb)
      clear hC hb HV hk
      go_wp2_with fail
      have hC0 : Costs wr G c.length (fun j => min j (l + 1)) := fun j hj => by
        have h2 := HC.out.1 j hj
        have e0 : (if j < c.length + 1 then min j (l + 1) else 0) = min j (l + 1) := if_pos (by omega)
        exact ⟨h2.1.trans (congrArg (fun n : Nat => some (Value.int IntKind.i64 (n : Int))) e0), h2.2⟩
      have HC0 := Lib.hid (And.intro hC0 HC.out.2)
      clear HC hC0
      go_loopw [59] (fun i wx => ∃ (k : Nat) (cc : Nat → Nat), k ≤ b.length ∧ i = .int .i64 (k : Int) ∧ Row b c l k cc ∧ Costs wx G c.length cc ∧ Below G w wx) (fun i _ => b.length - (intOf i).toNat)
      case atStart => exact ⟨0, _, Nat.zero_le _, rfl, row_start b c l, HC0.out.1, HC0.out.2⟩
      case round =>
        obtain ⟨i, cc, hi, rfl, hRow, hC, hb⟩ := hrel
        clear HC0 e2 hlt
        by_cases hlt : i < b.length
        · obtain ⟨x, hx⟩ : ∃ x, b[i]? = some x := ⟨_, List.getElem?_eq_getElem hlt⟩
          have hA : ∃ g1 o1, A = some ⟨g1, o1, none⟩ ∧ wr.cell? ⟨g1, o1 + i, none⟩ = some (.int .i64 x) := by
            obtain ⟨a2, cap2, hv, hp⟩ := HB.out.1.parts
            injection hv with hv
            obtain ⟨g1, o1, ha, hlt1, hc1⟩ := hp (by omega)
            exact ⟨g1, o1, by rw [hv, ha], (hb.cell (p := ⟨g1, o1 + i, none⟩) hlt1).trans (hc1 i x hx)⟩
          obtain ⟨g1, o1, rfl, cx⟩ := hA
          have HR := Lib.hid (And.intro hRow (And.intro hC (And.intro hb hx)))
          clear hRow hC hb hx
          have e2 : IntKind.i64.wrap ((i : Int) + 1) = (i : Int) + 1 := IntWalk.i64_in _ (by omega)
          go_upto_region 15 with fail
          go_cut [11, 12] (fun s11 s12 wx => s11 = .int .i64 ((i + 1 - l : Nat) : Int) ∧ s12 = .int .i64 ((min c.length (i + 1 + l) : Nat) : Int) ∧ wr = wx)
          case first =>
            go_wp2_with fail
            all_goals (go_meet; exact ⟨congrArg (Value.int IntKind.i64) (by omega), congrArg (Value.int IntKind.i64) (by omega), rfl⟩)
          case rest =>
          obtain ⟨rfl, rfl, rfl⟩ := hcut
          obtain ⟨lo, hlo⟩ : ∃ lo, lo = i + 1 - l := ⟨_, rfl⟩
          obtain ⟨hi2, hhi⟩ : ∃ h, h = min c.length (i + 1 + l) := ⟨_, rfl⟩
          rw [← hlo, ← hhi]
          have q1 : lo ≤ i + 1 := by omega
          have q2 : hi2 ≤ c.length := by omega
          have HM := Lib.hid (mid_start HR.out.1 hlt hbc)
          rw [← hlo] at HM
          have HLH := Lib.hid (And.intro hlo hhi)
          clear hlo hhi
          go_upto_region 16 with fail
          go_cut [13] (fun s13 wx => s13 = .int .i64 (cc (lo - 1) : Int) ∧ wr = wx)
          case first =>
            obtain ⟨c1, f1⟩ := HR.out.2.1 (lo - 1) (by omega)
            by_cases h0 : lo = 0
            · subst h0
              rw [show 0 - 1 = 0 from rfl] at c1
              rw [show ((0 : Nat) : Int) = 0 from rfl]
              go_wp2_with fail
              all_goals (go_meet; exact ⟨rfl, rfl⟩)
            · obtain ⟨d, rfl⟩ : ∃ d, lo = d + 1 := ⟨lo - 1, by omega⟩
              rw [Nat.add_sub_cancel] at c1
              have e3 : ((d + 1 : Nat) : Int) = (d : Int) + 1 := by omega
              have e4 : IntKind.i64.wrap (d : Int) = (d : Int) := IntWalk.i64_in _ (by omega)
              rw [e3]
              go_wp2_with fail
              all_goals (go_meet; exact ⟨rfl, rfl⟩)
          case rest =>
          obtain ⟨rfl, rfl⟩ := hcut
          go_upto_if 83 with fail
          obtain ⟨V0, hV0⟩ : ∃ V0 : Nat, V0 = if lo = 0 then i + 1 else l + 1 := ⟨_, rfl⟩
          rw [← hV0] at HM
          have hst := HR.out.2.1.store (lo - 1) V0 (by omega)
          have hbst := HR.out.2.2.1.setCell (p := ⟨G, lo - 1, none⟩) (Nat.le_refl _) (.int .i64 (V0 : Int))
          obtain ⟨c2, hc2⟩ : ∃ c2 : Nat → Nat, c2 = upd cc (lo - 1) V0 := ⟨_, rfl⟩
          have HM2 : Mid b c l i (max lo 1) c2 (cc (lo - 1)) (l + 1) := by rw [hc2]; exact HM.out
          rw [← hc2] at hst
          have hcor := HR.out.1.bd (lo - 1)
          have HC := Lib.hid (And.intro hst (And.intro hbst HM2))
          clear hst hbst hc2 HM HM2
          have k1 := (HR.out.2.1 (lo - 1) (by omega)).1
          have f1 := (HR.out.2.1 (lo - 1) (by omega)).2
          go_cut [] (fun wx => Costs wx G c.length c2 ∧ Below G w wx)
          case first =>
            by_cases h0 : lo = 0
            · subst h0
              rw [if_pos rfl] at hV0
              rw [show 0 - 1 = 0 from rfl] at k1 f1 HC
              rw [show ((0 : Nat) : Int) = 0 from rfl]
              have e5 : ((V0 : Nat) : Int) = (i : Int) + 1 := by omega
              rw [e5] at HC
              clear hV0 e5
              go_wp2_with fail
              all_goals (go_meet; exact ⟨HC.out.1, HC.out.2.1⟩)
            · rw [if_neg h0] at hV0
              obtain ⟨d, rfl⟩ : ∃ d, lo = d + 1 := ⟨lo - 1, by omega⟩
              rw [Nat.add_sub_cancel] at k1 f1 HC
              have e3 : ((d + 1 : Nat) : Int) = (d : Int) + 1 := by omega
              have e4 : IntKind.i64.wrap (d : Int) = (d : Int) := IntWalk.i64_in _ (by omega)
              have e5 : ((V0 : Nat) : Int) = (l : Int) + 1 := by omega
              have e6 : ((d : Int) + 1 == 0) = false := by rw [beq_eq_false_iff_ne]; omega
              rw [e5] at HC
              rw [e3]
              clear hV0 e5
              go_wp2_with fail
              all_goals (go_meet; exact ⟨HC.out.1, HC.out.2.1⟩)
          case rest =>
          obtain ⟨hC2, hB2⟩ := hcut
          have HC2 := Lib.hid (And.intro hC2 (And.intro hB2 HC.out.2.2))
          clear hC2 hB2 HC k1 f1 hV0 cx
          go_upto_region 21 with fail
          go_cut [15] (fun s15 wx => s15 = .int .i64 ((max lo 1 : Nat) : Int) ∧ wc = wx)
          case first =>
            go_wp2_with fail
            all_goals (go_meet; exact ⟨congrArg (Value.int IntKind.i64) (by omega), rfl⟩)
          case rest =>
          obtain ⟨rfl, rfl⟩ := hcut
          go_wp2_with fail
          go_loopw [13, 14, 15] (fun co be jj wx => ∃ (j : Nat) (c3 : Nat → Nat) (corner best : Nat), co = .int .i64 (corner : Int) ∧ be = .int .i64 (best : Int) ∧ jj = .int .i64 (j : Int) ∧ 1 ≤ j ∧ i + 1 ≤ j + l ∧ j ≤ c.length + 1 ∧ Mid b c l i j c3 corner best ∧ Costs wx G c.length c3 ∧ Below G w wx) (fun _ _ jj _ => c.length + 1 - (intOf jj).toNat)
          case atStart => exact ⟨max lo 1, c2, cc (lo - 1), l + 1, rfl, congrArg (Value.int IntKind.i64) (by omega), rfl, by omega, by have := HLH.out.1; omega, by omega, HC2.out.2.2, HC2.out.1, HC2.out.2.1⟩
          case round =>
            obtain ⟨j, c3, corner, best, rfl, rfl, rfl, hj1, hj3, hj4, hMid, hC3, hB3⟩ := hrel
            by_cases hj : j ≤ hi2
            · obtain ⟨m, rfl⟩ : ∃ m, j = m + 1 := ⟨j - 1, by omega⟩
              have hj2 : m + 1 ≤ i + 1 + l := by have := HLH.out.2; omega
              obtain ⟨y, hy⟩ : ∃ y, c[m]? = some y := ⟨_, List.getElem?_eq_getElem (by omega)⟩
              have hA : ∃ g2 o2, A' = some ⟨g2, o2, none⟩ ∧ wr.cell? ⟨g2, o2 + m, none⟩ = some (.int .i64 y) := by
                obtain ⟨a2, cap2, hv, hp⟩ := HB.out.2.1.parts
                injection hv with hv
                obtain ⟨g2, o2, ha, hlt1, hc1⟩ := hp (by omega)
                exact ⟨g2, o2, by rw [hv, ha], (hB3.cell (p := ⟨g2, o2 + m, none⟩) hlt1).trans (hc1 m y hy)⟩
              obtain ⟨g2, o2, rfl, cy⟩ := hA
              have hstep := mid_step hMid hlt hj1 (by omega) hj2 hj3 HR.out.2.2.2 hy
              have cj := (hC3 (m + 1) (by omega)).1
              have fj := (hC3 (m + 1) (by omega)).2
              have cm := (hC3 m (by omega)).1
              have bd1 := hMid.bd (m + 1)
              have bd2 := hMid.bd m
              have bd3 := hMid.bd3
              have bd4 := hMid.bst
              have hst := hC3.store (m + 1) (cost l i (m + 1) c3 corner (decide (x = y))) (by omega)
              have hbs := hB3.setCell (p := ⟨G, m + 1, none⟩) (Nat.le_refl _) (.int .i64 ((cost l i (m + 1) c3 corner (decide (x = y)) : Nat) : Int))
              have HS3 := Lib.hid (And.intro hstep (And.intro hst hbs))
              clear hstep hst hbs hMid hC3 hB3 hy
              have e3 : ((m + 1 : Nat) : Int) = (m : Int) + 1 := by omega
              rw [e3]
              go_upto_if 112 with fail
              go_cut [16] (fun s16 wx => s16 = .int .i64 ((above l i (m + 1) c3 : Nat) : Int) ∧ wr = wx)
              case first =>
                by_cases ej : m + 1 = i + 1 + l
                · have ej2 : ((m : Int) + 1 == (i : Int) + 1 + (l : Int)) = true := by rw [beq_iff_eq]; omega
                  go_wp2_with fail
                  all_goals (go_meet; refine ⟨?_, rfl⟩; unfold above; rw [if_pos ej]; exact congrArg (Value.int IntKind.i64) (by omega))
                · have ej2 : ((m : Int) + 1 == (i : Int) + 1 + (l : Int)) = false := by rw [beq_eq_false_iff_ne]; omega
                  go_wp2_with fail
                  all_goals (go_meet; refine ⟨?_, rfl⟩; unfold above; rw [if_neg ej])
              case rest =>
              obtain ⟨rfl, rfl⟩ := hcut
              obtain ⟨AB, hAB⟩ : ∃ AB, AB = above l i (m + 1) c3 := ⟨_, rfl⟩
              obtain ⟨CO, hCO⟩ : ∃ CO, CO = cost l i (m + 1) c3 corner (decide (x = y)) := ⟨_, rfl⟩
              have hABl : AB ≤ l + 2 + i := by rw [hAB]; unfold above; split <;> omega
              rw [← hAB]
              rw [← hCO] at HS3
              have hCO2 : CO = if x = y then corner else 1 + min corner (min AB (c3 m)) := by
                rw [hCO, hAB]
                unfold cost
                by_cases e : x = y
                · rw [if_pos e, if_pos (by simpa using e)]
                · rw [if_neg e, if_neg (by simpa using e), Nat.add_sub_cancel]
              have HCO := Lib.hid hCO2
              clear hAB hCO hCO2
              go_upto_if 122 with fail
              go_cut [17] (fun s17 wx => s17 = .int .i64 (CO : Int) ∧ wr = wx)
              case first =>
                by_cases exy : x = y
                · have hne : (x != y) = false := by simpa using exy
                  go_wp2_with fail
                  all_goals (go_meet; refine ⟨?_, rfl⟩; rw [HCO.out, if_pos exy])
                · have hne : (x != y) = true := by simpa using exy
                  have e4 : IntKind.i64.wrap (m : Int) = (m : Int) := IntWalk.i64_in _ (by omega)
                  rcases Nat.lt_or_ge AB corner with h1 | h1
                  · have h1' : (AB : Int) < (corner : Int) := by omega
                    rcases Nat.lt_or_ge (c3 m) AB with h2 | h2
                    · have h2' : (c3 m : Int) < (AB : Int) := by omega
                      go_wp2_with fail
                      all_goals (go_meet; refine ⟨?_, rfl⟩; rw [HCO.out, if_neg exy]; exact congrArg (Value.int IntKind.i64) (by omega))
                    · have h2' : ¬ (c3 m : Int) < (AB : Int) := by omega
                      go_wp2_with fail
                      all_goals (go_meet; refine ⟨?_, rfl⟩; rw [HCO.out, if_neg exy]; exact congrArg (Value.int IntKind.i64) (by omega))
                  · have h1' : ¬ (AB : Int) < (corner : Int) := by omega
                    rcases Nat.lt_or_ge (c3 m) corner with h2 | h2
                    · have h2' : (c3 m : Int) < (corner : Int) := by omega
                      go_wp2_with fail
                      all_goals (go_meet; refine ⟨?_, rfl⟩; rw [HCO.out, if_neg exy]; exact congrArg (Value.int IntKind.i64) (by omega))
                    · have h2' : ¬ (c3 m : Int) < (corner : Int) := by omega
                      go_wp2_with fail
                      all_goals (go_meet; refine ⟨?_, rfl⟩; rw [HCO.out, if_neg exy]; exact congrArg (Value.int IntKind.i64) (by omega))
              case rest =>
              obtain ⟨rfl, rfl⟩ := hcut
              have hCOl : CO ≤ l + 3 + i := by
                have := HCO.out
                rw [this]
                split <;> omega
              have e5 : IntKind.i64.wrap ((m : Int) + 1 + 1) = (m : Int) + 1 + 1 := IntWalk.i64_in _ (by omega)
              obtain ⟨W2, hW2⟩ : ∃ W2, W2 = wr.setCell ⟨G, m + 1, none⟩ (.int .i64 (CO : Int)) := ⟨_, rfl⟩
              have HW2 := Lib.hid hW2
              rw [← hW2] at HS3
              clear hW2
              rcases Nat.lt_or_ge CO best with h1 | h1
              · have h1' : (CO : Int) < (best : Int) := by omega
                go_wp2_with fail
                rw [← HW2.out]
                exact ⟨⟨m + 1 + 1, upd c3 (m + 1) CO, c3 (m + 1), min best CO, rfl, congrArg (Value.int IntKind.i64) (by omega), by simp, by omega, by omega, by omega, HS3.out.1, HS3.out.2.1, HS3.out.2.2⟩, by simp [intOf] <;> omega⟩
              · have h1' : ¬ (CO : Int) < (best : Int) := by omega
                go_wp2_with fail
                rw [← HW2.out]
                exact ⟨⟨m + 1 + 1, upd c3 (m + 1) CO, c3 (m + 1), min best CO, rfl, congrArg (Value.int IntKind.i64) (by omega), by simp, by omega, by omega, by omega, HS3.out.1, HS3.out.2.1, HS3.out.2.2⟩, by simp [intOf] <;> omega⟩
            · have hjj : ¬ (j ≤ c.length ∧ j ≤ i + 1 + l) := by have := HLH.out.2; omega
              have hjz : ¬ (j : Int) ≤ (hi2 : Int) := by omega
              have HH := Lib.hid (And.intro (mid_end hMid hjj) (And.intro hC3 (And.intro hB3 (fun h1 h2 => mid_stop hMid hlt hjj h1 h2))))
              have bd4 := hMid.bst
              clear hMid hC3 hB3
              have e6 : IntKind.i64.wrap ((i : Int) + 1) = (i : Int) + 1 := IntWalk.i64_in _ (by omega)
              have hlo := HLH.out.1
              obtain ⟨ST, hST⟩ : ∃ ST : Bool, ST = decide (l < best ∧ (0 < lo ∨ l < i + 1)) := ⟨_, rfl⟩
              have HST := Lib.hid (And.intro hST hlo)
              clear hlo hST
              go_upto_region 33 with fail
              go_cut [155] (fun s155 wx => s155 = .bool ST ∧ wr = wx)
              case first =>
                by_cases hb1 : l < best
                · have g1' : (l : Int) < (best : Int) := by omega
                  by_cases hl0 : 0 < lo
                  · have g2' : (0 : Int) < (lo : Int) := by omega
                    go_wp2_with fail
                    all_goals (go_meet; exact ⟨congrArg Value.bool (by rw [HST.out.1]; exact (decide_eq_true ⟨hb1, .inl hl0⟩).symm), rfl⟩)
                  · have g2' : ¬ (0 : Int) < (lo : Int) := by omega
                    by_cases hl1 : l < i + 1
                    · have g3' : (l : Int) < (i : Int) + 1 := by omega
                      go_wp2_with fail
                      all_goals (go_meet; exact ⟨congrArg Value.bool (by rw [HST.out.1]; exact (decide_eq_true ⟨hb1, .inr hl1⟩).symm), rfl⟩)
                    · have g3' : ¬ (l : Int) < (i : Int) + 1 := by omega
                      go_wp2_with fail
                      all_goals (go_meet; exact ⟨congrArg Value.bool (by rw [HST.out.1]; exact (decide_eq_false (fun h => h.2.elim hl0 hl1)).symm), rfl⟩)
                · have g1' : ¬ (l : Int) < (best : Int) := by omega
                  go_wp2_with fail
                  all_goals (go_meet; exact ⟨congrArg Value.bool (by rw [HST.out.1]; exact (decide_eq_false (fun h => hb1 h.1)).symm), rfl⟩)
              case rest =>
              obtain ⟨rfl, rfl⟩ := hcut
              cases ST
              · go_wp2_with fail
                exact ⟨⟨i + 1, c3, by omega, by simp, HH.out.1, HH.out.2.1, HH.out.2.2.1⟩, by simp [intOf] <;> omega⟩
              · have hstop := of_decide_eq_true HST.out.1.symm
                have hlev := HH.out.2.2.2 hstop.1 (by rw [← HST.out.2]; exact hstop.2)
                have HF := Lib.hid (show min (lev xs ys) (l + 1) = l + 1 by rw [← HB.out.2.2]; omega)
                clear hstop hlev
                go_wp2_with fail
                go_ret
                exact ⟨by rw [HF.out]; rfl, by rw [← HGE.out]; exact HH.out.2.2.1⟩
        · obtain rfl : i = b.length := by omega
          have hfin := row_full hRow hbc (by omega)
          have ck := (hC c.length (Nat.le_refl _)).1
          have hbk := hRow.bd c.length
          have HF := Lib.hid (And.intro hfin hb)
          clear hRow hC hb hfin
          rcases Nat.lt_or_ge (l + 1) (cc c.length) with h1 | h1
          · have h1' : (l : Int) + 1 < (cc c.length : Int) := by omega
            go_wp2_with fail
            go_ret
            refine ⟨?_, by rw [← HGE.out]; exact HF.out.2⟩
            rw [← HB.out.2.2, ← HF.out.1]
            exact congrArg (fun z => Ending.returned (Value.int IntKind.i64 z)) (by omega)
          · have h1' : ¬ (l : Int) + 1 < (cc c.length : Int) := by omega
            go_wp2_with fail
            go_ret
            refine ⟨?_, by rw [← HGE.out]; exact HF.out.2⟩
            rw [← HB.out.2.2, ← HF.out.1]
            exact congrArg (fun z => Ending.returned (Value.int IntKind.i64 z)) (by omega)
end Go.Proofs.Ytgmnjiiommbjaaa.dist
