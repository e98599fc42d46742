/- The reference's Edit. -/
import Derived.Test.YtgmnjiiommbjaaaDr
import Derived.Test.YtgmnjiiommbjaaaDd
set_option linter.unusedVariables false
set_option linter.unusedSimpArgs false
namespace Go.Proofs.Ytgmnjiiommbjaaa.dist
open Go.RowKit Go.Proofs.Ytgmnjiiommbjaaa.txt Go.Proofs.Ytgmnjiiommbjaaa.tx Go.Proofs.Ytgmnjiiommbjaaa.lev Go.Proofs.Ytgmnjiiommbjaaa.fold

theorem D_step (a b : List Int) (i j : Nat) (x y : Int) (ha : a[i]? = some x) (hb : b[j]? = some y) :
    D a b (i + 1) (j + 1) = min (D a b i j + if x = y then 0 else 1) (min (D a b i (j + 1) + 1) (D a b (i + 1) j + 1)) := by
  unfold D
  rw [← lev_reverse (a.take (i + 1)) (b.take (j + 1)), take_rev a i x ha, take_rev b j y hb, lev_cons, ← take_rev a i x ha, ← take_rev b j y hb, lev_reverse, lev_reverse, lev_reverse]

theorem Costs.congr {w : World} {g n : Nat} {c c' : Nat → Nat} (h : Costs w g n c) (e : ∀ j, j ≤ n → c j = c' j) : Costs w g n c' := fun j hj => by rw [← e j hj]; exact h j hj

theorem edit_put {wr w2 : World} {G n i m : Nat} {xs ys : List Int} (h : Costs wr G n (fun t => if t ≤ m then D xs ys (i + 1) t else D xs ys i t)) (hb : Below G w2 wr) (hm : m < n) (nq : Nat) (v : Int) (hv : v = (D xs ys (i + 1) (m + 1) : Nat)) :
    Costs ((wr.drewN nq).setCell ⟨G, m + 1, none⟩ (.int .i64 v)) G n (fun t => if t ≤ m + 1 then D xs ys (i + 1) t else D xs ys i t) ∧ Below G w2 ((wr.drewN nq).setCell ⟨G, m + 1, none⟩ (.int .i64 v)) := by
  subst hv
  have h' : Costs (wr.drewN nq) G n (fun t => if t ≤ m then D xs ys (i + 1) t else D xs ys i t) := fun j hj => h j hj
  refine ⟨(h'.store (m + 1) _ (by omega)).congr (fun t ht => ?_), (mill.below_drewN hb nq).setCell (p := ⟨G, m + 1, none⟩) (Nat.le_refl _) _⟩
  unfold upd
  by_cases e : t = m + 1
  · rw [if_pos e, if_pos (by omega), e]
  · rw [if_neg e]
    show (if t ≤ m then _ else _) = _
    by_cases e2 : t ≤ m
    · rw [if_pos e2, if_pos (by omega)]
    · rw [if_neg e2, if_neg (by omega)]

theorem refNums (X : List UInt8) (w : World) (hs : X.length ≤ 1000000) :
    Calls Try.prog 30 #[.string ⟨X.toArray⟩] w fun e w' => ∃ v, e = .returned v ∧ Nums w' w'.heap.size v (P X) ∧ Below w.heap.size w w' :=
  (pts.refPoints_any ⟨X.toArray⟩ (by simpa [ByteArray.size] using hs) w).mono fun _ _ ⟨v, h1, h2, h3⟩ => ⟨v, h1, nums_of_own h2, h3⟩

set_option maxRecDepth 100000 in
set_option maxHeartbeats 4000000 in
theorem refEdit_any (a b : List UInt8) (w : World) (ha : a.length ≤ 1000000) (hb : b.length ≤ 1000000) :
    Calls Try.prog 12 #[.string ⟨a.toArray⟩, .string ⟨b.toArray⟩] w fun e w' => e = .returned (.int .i64 (E a b : Int)) ∧ Below w.heap.size w w' := by
  go_enter Try.func12, Try.ntmps12
  go_wp2_with fail
  refine (refNums a w ha).mono ?_
  rintro _ w1 ⟨v1, rfl, n1, b1⟩
  go_wp2_with fail
  refine (refNums b w1 hb).mono ?_
  rintro _ w2 ⟨v2, rfl, n2, b2⟩
  have n1' := (n1.below b2).more b2.size
  have hB := b1.trans (b2.mono b1.size)
  have hs2 := hB.size
  have hpa := P_len a
  have hpb := P_len b
  obtain ⟨xs, hxs⟩ : ∃ xs, xs = P a := ⟨_, rfl⟩
  obtain ⟨ys, hys⟩ : ∃ ys, ys = P b := ⟨_, rfl⟩
  have HXY := Lib.hid (And.intro hxs hys)
  rw [← hxs] at hpa n1'
  rw [← hys] at hpb n2
  obtain ⟨A1, C1, rfl, p1⟩ := n1'.parts
  obtain ⟨A2, C2, rfl, p2⟩ := n2.parts
  have HP := Lib.hid (And.intro p1 (And.intro p2 hB))
  clear n1 n1' n2 p1 p2 hB b1 b2 hxs hys
  have hmk := fun W => run_mk ys.length (by omega) W
  have e0 : IntKind.i64.wrap ((ys.length : Int) + 1) = (ys.length : Int) + 1 := IntWalk.i64_in _ (by omega)
  go_wp2_with fail
  obtain ⟨V, hV⟩ : ∃ V, V = w2.alloc (.cells (madeCells #[.int .i64 0] (ys.length + 1)) 3) := ⟨_, rfl⟩
  have hVc : Costs V w2.heap.size ys.length (fun _ => 0) := by rw [hV]; exact Costs.make w2 ys.length
  have hVb : Below w2.heap.size w2 V := by rw [hV]; exact (Below.refl _ w2).alloc (Nat.le_refl _) _
  rw [← hV]
  obtain ⟨G, hG⟩ : ∃ G, G = w2.heap.size := ⟨_, rfl⟩
  rw [← hG] at hVc hVb HP hs2 ⊢
  have HV := Lib.hid (And.intro hVc hVb)
  clear hV hVc hVb hmk hG e0
  go_loopw [23] (fun i wx => ∃ k : Nat, k ≤ ys.length + 1 ∧ i = .int .i64 (k : Int) ∧ Hid (Costs wx G ys.length (fun j => if j < k then j else 0) ∧ Below G w2 wx)) (fun i _ => ys.length + 1 - (intOf i).toNat)
  case atStart => exact ⟨0, Nat.zero_le _, rfl, Lib.hid ⟨HV.out.1.congr (by simp), HV.out.2⟩⟩
  case round =>
    obtain ⟨k, hk, rfl, HC⟩ := hrel
    by_cases hlt : k < ys.length + 1
    · have hlt2 : (k : Int) < (ys.length : Int) + 1 := by omega
      obtain ⟨ck, fk⟩ := HC.out.1 k (by omega)
      have e1 : IntKind.i64.wrap ((k : Int) + 1) = (k : Int) + 1 := IntWalk.i64_in _ (by omega)
      go_wp2_with fail
      exact ⟨⟨k + 1, by omega, by simp, Lib.hid ⟨(HC.out.1.store k k (by omega)).congr (fun j hj => by
        unfold upd
        by_cases e : j = k
        · rw [if_pos e, if_pos (by omega), e]
        · rw [if_neg e]
          show (if j < k then _ else _) = _
          by_cases e2 : j < k
          · rw [if_pos e2, if_pos (by omega)]
          · rw [if_neg e2, if_neg (by omega)]), HC.out.2.setCell (p := ⟨G, k, none⟩) (Nat.le_refl _) _⟩⟩, by simp [intOf] <;> omega⟩
    · obtain rfl : k = ys.length + 1 := by omega
      have hlt2 : ¬ ((ys.length + 1 : Nat) : Int) < (ys.length : Int) + 1 := by omega
      have HC0 : Hid (Costs wr G ys.length (D xs ys 0) ∧ Below G w2 wr) := Lib.hid ⟨HC.out.1.congr (fun j hj => by rw [if_pos (by omega), D_zero _ _ _ hj]), HC.out.2⟩
      clear HC HV
      go_wp2_with fail
      go_loopw [33] (fun i wx => ∃ k : Nat, k ≤ xs.length ∧ i = .int .i64 (k : Int) ∧ Hid (Costs wx G ys.length (D xs ys k) ∧ Below G w2 wx)) (fun i _ => xs.length - (intOf i).toNat)
      case atStart => exact ⟨0, Nat.zero_le _, rfl, HC0⟩
      case round =>
        obtain ⟨i, hi, rfl, HD⟩ := hrel
        by_cases hil : i < xs.length
        · obtain ⟨x, hx⟩ : ∃ x, xs[i]? = some x := ⟨_, List.getElem?_eq_getElem hil⟩
          obtain ⟨g1, o1, rfl, hg1, hc1⟩ := HP.out.1 (by omega)
          have cx0 := hc1 i x hx
          have hilt : (i : Int) < (xs.length : Int) := by omega
          obtain ⟨c0, f0⟩ := HD.out.1 0 (Nat.zero_le _)
          rw [D_zero' _ _ _ (by omega)] at c0
          have e1 : IntKind.i64.wrap ((i : Int) + 1) = (i : Int) + 1 := IntWalk.i64_in _ (by omega)
          have HX := Lib.hid (And.intro hx cx0)
          clear hc1 hx cx0
          go_wp2_with fail
          have HE : Hid (Costs (wr.setCell ⟨G, 0, none⟩ (.int .i64 ((i : Int) + 1))) G ys.length (fun t => if t ≤ 0 then D xs ys (i + 1) t else D xs ys i t) ∧ Below G w2 (wr.setCell ⟨G, 0, none⟩ (.int .i64 ((i : Int) + 1)))) :=
            Lib.hid ⟨(HD.out.1.store 0 (i + 1) (Nat.zero_le _)).congr (fun t ht => by
              unfold upd
              by_cases e : t = 0
              · rw [if_pos e, if_pos (by omega), e, D_zero' _ _ _ (by omega)]
              · rw [if_neg e, if_neg (by omega)]), HD.out.2.setCell (p := ⟨G, 0, none⟩) (Nat.le_refl _) _⟩
          obtain ⟨W3, hW3⟩ : ∃ W3, W3 = wr.setCell ⟨G, 0, none⟩ (.int .i64 ((i : Int) + 1)) := ⟨_, rfl⟩
          rw [← hW3] at HE ⊢
          clear hW3 c0 f0
          go_loopw [10, 45] (fun s10 j wx => ∃ m : Nat, m ≤ ys.length ∧ s10 = .int .i64 (D xs ys i m : Int) ∧ j = .int .i64 (m : Int) ∧ Hid (Costs wx G ys.length (fun t => if t ≤ m then D xs ys (i + 1) t else D xs ys i t) ∧ Below G w2 wx)) (fun _ j _ => ys.length - (intOf j).toNat)
          case atStart => exact ⟨0, Nat.zero_le _, by rw [D_zero' _ _ _ (by omega)], rfl, HE⟩
          case round =>
            obtain ⟨m, hm, rfl, rfl, HF⟩ := hrel
            by_cases hml : m < ys.length
            · obtain ⟨y, hy⟩ : ∃ y, ys[m]? = some y := ⟨_, List.getElem?_eq_getElem hml⟩
              obtain ⟨g2, o2, rfl, hg2, hc2⟩ := HP.out.2.1 (by omega)
              have cy := (HF.out.2.cell (p := ⟨g2, o2 + m, none⟩) hg2).trans (hc2 m y hy)
              have cx := (HF.out.2.cell (p := ⟨g1, o1 + i, none⟩) hg1).trans HX.out.2
              have hDs := D_step xs ys i m x y HX.out.1 hy
              have bD : ∀ i j, D xs ys i j ≤ 1000000 := fun i j => by
                have h1 := lev_max (xs.take i) (ys.take j)
                have h2 : (xs.take i).length ≤ xs.length := by rw [List.length_take]; omega
                have h3 : (ys.take j).length ≤ ys.length := by rw [List.length_take]; omega
                show lev _ _ ≤ _
                omega
              have cm : wr.cell? ⟨G, m, none⟩ = some (.int .i64 ((if m ≤ m then D xs ys (i + 1) m else D xs ys i m : Nat) : Int)) := (HF.out.1 m (by omega)).1
              have cm1 : wr.cell? ⟨G, m + 1, none⟩ = some (.int .i64 ((if m + 1 ≤ m then D xs ys (i + 1) (m + 1) else D xs ys i (m + 1) : Nat) : Int)) := (HF.out.1 (m + 1) (by omega)).1
              have fm1 := (HF.out.1 (m + 1) (by omega)).2
              rw [if_pos (Nat.le_refl _)] at cm
              rw [if_neg (by omega)] at cm1
              have hb0 := bD i m
              have hb1 := bD i (m + 1)
              have hb2 := bD (i + 1) m
              have hput := fun nq v hv => edit_put (w2 := w2) (i := i) HF.out.1 HF.out.2 hml nq v hv
              obtain ⟨d0, hd0⟩ : ∃ d, d = D xs ys i m := ⟨_, rfl⟩
              obtain ⟨d1, hd1⟩ : ∃ d, d = D xs ys i (m + 1) := ⟨_, rfl⟩
              obtain ⟨d2, hd2⟩ : ∃ d, d = D xs ys (i + 1) m := ⟨_, rfl⟩
              obtain ⟨d3, hd3⟩ : ∃ d, d = D xs ys (i + 1) (m + 1) := ⟨_, rfl⟩
              rw [← hd0] at hb0 hDs ⊢
              rw [← hd1] at hb1 hDs cm1
              rw [← hd2] at hb2 hDs cm
              rw [← hd3] at hDs hput
              have HQ := Lib.hid (And.intro hput hd1)
              have hmlt : (m : Int) < (ys.length : Int) := by omega
              have e2 : IntKind.i64.wrap ((m : Int) + 1) = (m : Int) + 1 := IntWalk.i64_in _ (by omega)
              have e3 : IntKind.i64.wrap ((d0 : Int) + 1) = (d0 : Int) + 1 := IntWalk.i64_in _ (by omega)
              have e4 : IntKind.i64.wrap ((d1 : Int) + 1) = (d1 : Int) + 1 := IntWalk.i64_in _ (by omega)
              have e5 : IntKind.i64.wrap ((d2 : Int) + 1) = (d2 : Int) + 1 := IntWalk.i64_in _ (by omega)
              clear hput hd0 hd1 hd2 hd3 bD hc2 hy
              by_cases hxy : x = y
              · have hne : (x != y) = false := by simpa using hxy
                rw [if_pos hxy] at hDs
                have HDS := Lib.hid hDs
                clear hDs hxy
                go_wp2_with fail
                go_quiet (fail)
                go_wp2_with fail
                refine ⟨⟨m + 1, by omega, by rw [HQ.out.2], congrArg (Value.int IntKind.i64) (by omega), Lib.hid (HQ.out.1 _ _ ?_)⟩, by simp [intOf] <;> omega⟩
                have hf := HDS.out
                clear HQ HF HP HE HD HX
                repeat' split
                all_goals omega
              · have hne : (x != y) = true := by simpa using hxy
                rw [if_neg hxy] at hDs
                have HDS := Lib.hid hDs
                clear hDs hxy
                go_wp2_with fail
                go_quiet (fail)
                go_wp2_with fail
                refine ⟨⟨m + 1, by omega, by rw [HQ.out.2], congrArg (Value.int IntKind.i64) (by omega), Lib.hid (HQ.out.1 _ _ ?_)⟩, by simp [intOf] <;> omega⟩
                have hf := HDS.out
                clear HQ HF HP HE HD HX
                repeat' split
                all_goals omega
            · obtain rfl : m = ys.length := by omega
              have hmlt : ¬ ((ys.length : Nat) : Int) < (ys.length : Int) := by omega
              go_wp2_with fail
              exact ⟨⟨i + 1, by omega, by simp, Lib.hid ⟨HF.out.1.congr (fun t ht => by rw [if_pos ht]), HF.out.2⟩⟩, by simp [intOf] <;> omega⟩
        · obtain rfl : i = xs.length := by omega
          obtain ⟨cn, fn⟩ := HD.out.1 ys.length (Nat.le_refl _)
          rw [D_full, show lev xs ys = E a b by rw [HXY.out.1, HXY.out.2]] at cn
          go_wp2_with fail
          go_ret
          exact ⟨rfl, HP.out.2.2.trans (HD.out.2.mono hs2)⟩
end Go.Proofs.Ytgmnjiiommbjaaa.dist
