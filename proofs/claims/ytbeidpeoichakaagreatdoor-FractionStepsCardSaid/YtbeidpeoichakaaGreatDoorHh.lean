/- The mill's Big. -/
import Derived.Test.YtbeidpeoichakaaGreatDoorMill
import Derived.Test.YtbeidpeoichakaaGreatDoorFu
import Derived.Test.YtbeidpeoichakaaGreatDoorFy
set_option linter.unusedSimpArgs false
namespace Go.Proofs.YtbeidpeoichakaaGreatDoor.hh
open Go.RowKit Go.Proofs.YtbeidpeoichakaaGreatDoor.fm Go.Proofs.YtbeidpeoichakaaGreatDoor.mem Go.Proofs.YtbeidpeoichakaaGreatDoor.fu Go.Proofs.YtbeidpeoichakaaGreatDoor.fv Go.Proofs.YtbeidpeoichakaaGreatDoor.fy Go.Proofs.YtbeidpeoichakaaGreatDoor.fz Go.Proofs.YtbeidpeoichakaaGreatDoor.mill

theorem Rd.kept {g : Nat} {w w' : World} {A : Option Addr} {c : Nat} {l : List Nat} (R : Rd w w.heap.size A c l) (h : Kept g w w') : Rd w' w'.heap.size A c l :=
  ⟨R.ok, R.fit, fun hn => by
    obtain ⟨b, off, e, hb, hc⟩ := R.cells hn
    exact ⟨b, off, e, Nat.lt_of_lt_of_le hb h.bel.size, fun j hj => h.words _ _ hb (hc j hj)⟩⟩

theorem isBig_kept {g : Nat} {w w' : World} {v : Value} {z : Int} (hI : IsBig w v z) (h : Kept g w w') : IsBig w' v z := by
  obtain ⟨A, c, e, R⟩ := hI
  exact ⟨A, c, e, Rd.kept R h⟩

/-- What holds while the mill makes a big integer. -/
structure BState (w W : World) (g : Nat) (l : List Nat) (v : Value) (L : List Nat) : Prop where
  D : ∃ k, DiceAt W g l k
  K : Kept g w W
  lt : g < w.heap.size
  size : w.heap.size < W.heap.size
  r0 : W.cell? ⟨w.heap.size, 0, none⟩ = some (.bool false)
  r1 : W.cell? ⟨w.heap.size, 1, none⟩ = some (.slice none 0 0)
  fr : ∀ k, W.frozen? ⟨w.heap.size, k, none⟩ = false
  own : Owns (w.heap.size + 1) W v L
  okL : ok L

/-- after a pick -/
theorem BState.pick {w W W' : World} {g : Nat} {l : List Nat} {v : Value} {L : List Nat} {k : Nat} (S : BState w W g l v L) (hD : DiceAt W' g l k) (hK : Kept g W W') : BState w W' g l v L := by
  have hne : w.heap.size ≠ g := by have := S.lt; omega
  exact ⟨⟨k, hD⟩, S.K.trans hK, S.lt, Nat.lt_of_lt_of_le S.size hK.bel.size, (hK.cell S.size hne).trans S.r0, (hK.cell S.size hne).trans S.r1, fun k => (hK.fr S.size hne).trans (S.fr k), hK.own (by have := S.lt; omega) S.own, S.okL⟩

/-- after what lies behind the box -/
theorem BState.high {w W W' : World} {g : Nat} {l : List Nat} {v : Value} {L : List Nat} {v' : Value} {L' : List Nat} (S : BState w W g l v L) (h : Below (w.heap.size + 1) W W') (hown : Owns (w.heap.size + 1) W' v' L') (hok : ok L') : BState w W' g l v' L' := by
  have hb : w.heap.size < w.heap.size + 1 := by omega
  have hlt := S.lt
  obtain ⟨k, hD⟩ := S.D
  exact ⟨⟨k, DiceAt.high hD h (by omega)⟩, S.K.then_below (h.mono (by omega)) (by omega), S.lt, Nat.lt_of_lt_of_le S.size h.size, (h.cell hb).trans S.r0, (h.cell hb).trans S.r1, fun k => (below_frozen h hb).trans (S.fr k), hown, hok⟩

theorem own_alloc {base : Nat} {w : World} {v : Value} {l : List Nat} (h : Owns base w v l) (o : Obj) : Owns base (w.alloc o) v l := by
  obtain ⟨h1, h2⟩ := h
  refine ⟨h1, ?_⟩
  rcases h2 with h2 | ⟨b, cap, cur, hv, hbb, hg, r⟩
  · exact Or.inl h2
  · exact Or.inr ⟨b, cap, cur, hv, hbb, by rw [Below.heap_alloc w o b (Array.getElem?_eq_some_iff.1 hg).1]; exact hg, r⟩

theorem BState.alloc {w W : World} {g : Nat} {l : List Nat} {v : Value} {L : List Nat} (S : BState w W g l v L) (o : Obj) : BState w (W.alloc o) g l v L :=
  S.high ((Below.refl _ _).alloc S.size o) (own_alloc S.own o) S.okL

/-- the box, filled -/
theorem big_end {w W : World} {g : Nat} {l : List Nat} {v : Value} {L : List Nat} {A : Option Addr} {c n : Nat} {neg : Bool} (S : BState w W g l v L) (R : Rd W W.heap.size A c L) (hn : n ≤ L.length) (hz : n = 0 ∨ L.getD (n - 1) 0 ≠ 0) (hneg : n = 0 → neg = false) (hL : L.length ≤ 4)
    (w' : World) (hw : w' = (W.setCell ⟨w.heap.size, 0, none⟩ (.bool neg)).setCell ⟨w.heap.size, 1, none⟩ (.slice A n c)) :
    ∃ z k, IsBig w' (.agg #[.bool neg, .slice A n c]) z ∧ (digs z.natAbs).length ≤ 4 ∧ DiceAt w' g l k ∧ Kept g w w' ∧ w'.cell? ⟨w.heap.size, 0, none⟩ = some (.bool neg) ∧ w'.cell? ⟨w.heap.size, 1, none⟩ = some (.slice A n c) := by
  subst hw
  obtain ⟨k, hD⟩ := S.D
  have hlt := S.lt
  have hd := take_digs S.okL hn hz
  have hlen : (L.take n).length = n := by rw [List.length_take]; omega
  have hb : Below w.heap.size W ((W.setCell ⟨w.heap.size, 0, none⟩ (.bool neg)).setCell ⟨w.heap.size, 1, none⟩ (.slice A n c)) :=
    ((Below.refl _ _).setCell (p := ⟨w.heap.size, 0, none⟩) (Nat.le_refl _) _).setCell (p := ⟨w.heap.size, 1, none⟩) (Nat.le_refl _) _
  have e1 : (W.setCell ⟨w.heap.size, 0, none⟩ (.bool neg)).cell? ⟨w.heap.size, 1, none⟩ = some (.slice none 0 0) := (World.cell?_setCell_other _ _ _ _ (by intro h; cases h)).trans S.r1
  have R1 : Rd (W.setCell ⟨w.heap.size, 0, none⟩ (.bool neg)) W.heap.size A c (L.take n) := rd_set (R.cut n) (ni_bool S.r0)
  have R2 := rd_set (v := .slice A n c) R1 (ni_slice e1)
  refine ⟨sgnd neg (val (L.take n)), k, ⟨A, c, ?_, ?_⟩, ?_, DiceAt.high hD hb hlt, S.K.then_below hb (Nat.le_of_lt hlt), ?_, ?_⟩
  · rw [sgnd_abs, hd, hlen]
    by_cases h0 : n = 0
    · rw [hneg h0, h0]; rfl
    · rw [sgnd_neg]
      intro hv
      have := digs_len_zero.2 hv
      rw [hd, hlen] at this
      exact h0 this
  · rw [sgnd_abs, hd]; exact R2.more (by simp)
  · rw [sgnd_abs, hd, hlen]; omega
  · exact (World.cell?_setCell_other _ _ _ _ (by intro h; cases h)).trans (World.cell?_setCell_same _ _ _ S.r0)
  · exact World.cell?_setCell_same _ _ _ e1

set_option maxRecDepth 100000 in
set_option maxHeartbeats 4000000 in
theorem diceBig_any (w : World) (g : Nat) (l : List Nat) (k : Nat) (D : DiceAt w g l k) :
    Calls Tryz.prog 35 #[.pointer (some ⟨g, 0, none⟩)] w fun e w' => ∃ v z k', e = .returned v ∧ IsBig w' v z ∧ (digs z.natAbs).length ≤ 4 ∧ DiceAt w' g l k' ∧ Kept g w w' := by
  obtain ⟨i0, hi, hz0, hz1, hz2⟩ := info_parts info_u32
  go_enter Tryz.func35, Tryz.ntmps35
  have hA := box1_made w
  have S0 : BState w (w.alloc (.cells #[.bool false, .slice none 0 0] 28)) g l (.slice none 0 0) [] :=
    ⟨⟨k, DiceAt.high D hA.bel D.lt⟩, Kept.of_below hA.bel (Nat.le_of_lt D.lt), D.lt, hA.size, hA.r0, hA.r1, hA.fr, ⟨rfl, Or.inl ⟨rfl, rfl⟩⟩, ok_nil⟩
  obtain ⟨W, hW⟩ : ∃ W, W = w.alloc (.cells #[.bool false, .slice none 0 0] 28) := ⟨_, rfl⟩
  rw [← hW] at S0
  have HS := Lib.hid S0
  clear D hA S0
  go_upto_region 2 with fail
  rw [← hW]
  clear hW
  obtain ⟨k0, hD0⟩ := HS.out.D
  go_wp2_with fail
  refine (pick_some W g 5 l k0 hD0 (by decide) (by decide)).mono ?_
  rintro _ W1 ⟨n0, k1, rfl, hn0, hD1, hK1⟩
  have H1 := Lib.hid (HS.out.pick hD1 hK1)
  clear HS hD0 hD1 hK1
  go_wp2_with fail
  go_loopw [3, 4] (fun s3 s4 wr => ∃ (n : Nat) (L : List Nat), BState w wr g l s3 L ∧ s4 = .int .i64 (n : Int) ∧ L.length + n ≤ 4) (fun _ s4 _ => (intOf s4).toNat)
  case atStart => exact ⟨n0, [], H1.out, rfl, by simp; omega⟩
  case round =>
    obtain ⟨n, L, S, rfl, hLn⟩ := hrel
    have HB := Lib.hid S
    clear S H1 hn0
    by_cases hn : n = 0
    · subst hn
      obtain ⟨A, c, rfl, R⟩ := own_rd HB.out.own HB.out.okL
      have HR := Lib.hid R
      have hL4 : L.length ≤ 4 := by omega
      clear hLn
      go_wp2_with fail
      go_loop [3] (fun s3 => ∃ n : Nat, n ≤ L.length ∧ s3 = .slice A n c) (fun s3 => match s3 with | .slice _ k _ => k | _ => 0)
      case atStart => exact ⟨L.length, Nat.le_refl _, rfl⟩
      case round =>
        obtain ⟨n, hnL, rfl⟩ := hrel
        by_cases hn : n = 0
        · subst hn
          have r0 := HB.out.r0
          have r1 := HB.out.r1
          have f0 := HB.out.fr 0
          have f1 := HB.out.fr 1
          obtain ⟨z, k9, hE⟩ := big_end (neg := false) HB.out HR.out (Nat.zero_le _) (Or.inl rfl) (fun _ => rfl) hL4 _ rfl
          have HE := Lib.hid hE
          clear hE R
          go_wp2_with fail
          (try simp only [Exit.inBlock, Exit.then])
          refine bodyPost_ret (results_big1 rfl _ _ w.heap.size rfl HE.out.2.2.2.2.1 HE.out.2.2.2.2.2) rfl ?_
          exact ⟨_, rfl, z, HE.out.1, HE.out.2.1, ⟨k9, HE.out.2.2.1⟩, HE.out.2.2.2.1⟩
        · have hz : (0 : Int) < (n : Int) := by omega
          obtain ⟨b, off, rfl, hbl, hc⟩ := HR.out.cells (by omega)
          have c1 := hc (n - 1) (by omega)
          have hfit := HR.out.fit
          have HC := Lib.hid hc
          clear hc
          obtain ⟨y, hy⟩ : ∃ y, y = L.getD (n - 1) 0 := ⟨_, rfl⟩
          rw [← hy] at c1
          obtain ⟨m, rfl⟩ : ∃ m, n = m + 1 := ⟨n - 1, by omega⟩
          have i1 : ((m + 1 : Nat) : Int) - 1 = (m : Int) := by omega
          rw [show m + 1 - 1 = m from rfl] at c1 hy
          have HY := Lib.hid hy
          clear hy hn
          by_cases hy0 : y = 0
          · subst hy0
            go_wp2_with fail
            go_round
            case rel => exact ⟨m, by omega, rfl⟩
            case measure => show m < m + 1; omega
          · have z1 : ((y : Int) == 0) = false := beq_eq_false_iff_ne.2 (by omega)
            obtain ⟨k8, hD8⟩ := HB.out.D
            have HYY := Lib.hid hy0
            clear hy0
            go_wp2_with fail
            refine (pick_some wr g 2 l k8 hD8 (by decide) (by decide)).mono ?_
            rintro _ W9 ⟨x9, k9, rfl, hx9, hD9, hK9⟩
            have H9 := Lib.hid (HB.out.pick hD9 hK9)
            have R9 := Rd.kept HR.out hK9
            clear hD9 hK9 c1 hfit i1 hD8 HC R
            have hEE := fun (neg : Bool) => big_end (n := m + 1) (neg := neg) H9.out R9 hnL (Or.inr (by rw [show m + 1 - 1 = m from rfl, ← HY.out]; exact HYY.out)) (fun h => absurd h (by omega)) hL4 _ rfl
            have HEE := Lib.hid hEE
            have r0 := H9.out.r0
            have r1 := H9.out.r1
            have f0 := H9.out.fr 0
            have f1 := H9.out.fr 1
            clear hEE
            go_wp2_with fail
            obtain ⟨z, k10, hE⟩ := HEE.out ((x9 : Int) == 0)
            (try simp only [Exit.inBlock, Exit.then])
            refine bodyPost_ret (results_big1 rfl _ _ w.heap.size rfl hE.2.2.2.2.1 hE.2.2.2.2.2) rfl ?_
            exact ⟨_, z, k10, rfl, hE.1, hE.2.1, hE.2.2.1, hE.2.2.2.1⟩
    · have hz : (0 : Int) < (n : Int) := by omega
      obtain ⟨k1, hD1⟩ := HB.out.D
      go_wp2_with fail
      refine (pick_some wr g 256 l k1 hD1 (by decide) (by decide)).mono ?_
      rintro _ W2 ⟨x1, k2, rfl, hx1, hD2, hK2⟩
      have H2 := Lib.hid (HB.out.pick hD2 hK2)
      have i1 : IntKind.u32.wrap (x1 : Int) = (x1 : Int) := IntWalk.u32_in _ (by omega)
      obtain ⟨x4, hx4⟩ : ∃ x4, x4 = x1 * 16843009 := ⟨_, rfl⟩
      have i2 : IntKind.u32.wrap ((x1 : Int) * 16843009) = (x4 : Int) := by rw [IntWalk.u32_in _ (by omega)]; omega
      have hx4l : x4 < 4294967296 := by omega
      clear hK2 hD1 hx4 HB
      go_wp2_with fail
      clear i1 i2
      refine (pick_some W2 g 20 l _ hD2 (by decide) (by decide)).mono ?_
      rintro _ W3 ⟨x5, k3, rfl, hx5, hD3, hK3⟩
      have H3 := Lib.hid (H2.out.pick hD3 hK3)
      have i1 : IntKind.u32.wrap (x5 : Int) = (x5 : Int) := IntWalk.u32_in _ (by omega)
      clear hK3 hD2 H2
      go_wp2_with fail
      clear i1
      obtain ⟨o6, ho6⟩ : ∃ o6, o6 = (Obj.cells #[.int .u32 0, .int .u32 1, .int .u32 4294967295, .int .u32 2147483648, .int .u32 (x4 : Int), .int .u32 (x5 : Int)] 59) := ⟨_, rfl⟩
      rw [← ho6]
      have H4 := Lib.hid (H3.out.alloc o6)
      have hg6 : (W3.alloc o6).heap[W3.heap.size]? = some (.cells (ws [0, 1, 4294967295, 2147483648, x4, x5]).toArray 59 (0, 0)) := by
        rw [heap_alloc_new W3 o6, ho6]
        rfl
      have hsz6 : W3.heap.size < (W3.alloc o6).heap.size := by simp
      have hne6 : W3.heap.size ≠ g := by have := H3.out.D; obtain ⟨_, h⟩ := this; have := h.lt; omega
      obtain ⟨W4, hW4⟩ : ∃ W4, W4 = W3.alloc o6 := ⟨_, rfl⟩
      rw [← hW4] at H4 hg6 hsz6 ⊢
      obtain ⟨k4, hD4⟩ := H4.out.D
      generalize W3.heap.size = b6 at *
      have HG := Lib.hid (And.intro hg6 (And.intro hsz6 hne6))
      clear hW4 hg6 hsz6 hne6 ho6 H3 hD3
      refine (pick_some W4 g 6 l k4 hD4 (by decide) (by decide)).mono ?_
      rintro _ W5 ⟨x6, k5, rfl, hx6, hD5, hK5⟩
      have H5 := Lib.hid (H4.out.pick hD5 hK5)
      obtain ⟨y, hy⟩ : ∃ y, y = [0, 1, 4294967295, 2147483648, x4, x5].getD x6 0 := ⟨_, rfl⟩
      have c6 : W5.cell? ⟨b6, x6, none⟩ = some (.int .u32 (y : Int)) := by
        rw [hK5.cell (p := ⟨b6, x6, none⟩) HG.out.2.1 HG.out.2.2, cell_of_row W4 b6 x6 _ _ _ HG.out.1, hy]
        simpa using ws_get [0, 1, 4294967295, 2147483648, x4, x5] x6 (by simpa using hx6)
      have hyl : y < 4294967296 := by
        have ho : ok [0, 1, 4294967295, 2147483648, x4, x5] := by intro u hu; simp at hu; omega
        rw [hy]; exact ok_getD ho x6
      clear hK5 hD4 H4 HG hy hD5
      go_wp2_with (first
        | (at_builtin; (refine wpList_append_lies _ rfl _ _ 26 rfl (w.heap.size + 1) 59 i0 (.int .u32 0) 1 4 Tryz.underlying26 hi hz0 hz1 hz2 rfl (by decide) _ L.length (ws L) rfl (own_alloc H5.out.own _) ⟨W5.heap.size, 0, none⟩ 1 1 [.int .u32 (y : Int)] rfl rfl (cell_one_new _ _ _) (fun u hu => by simp at hu; subst hu; rfl) (by decide) (by unfold maxLen; omega) (by omega) (by have := H5.out.size; simp; omega) _ rfl ?_); intro gg cap w6 hown6 hgrow hat hlt6))
      have hb6 : Below (w.heap.size + 1) (W5.alloc (.cells #[.int .u32 (y : Int)] 59)) w6 := (Below.refl _ _).grown hgrow (by have := H5.out.size; simp; omega) (fun j hj => ((own_alloc H5.out.own (.cells #[.int .u32 (y : Int)] 59)).lt j hj).1)
      have hown7 : Owns (w.heap.size + 1) w6 (.slice (some ⟨gg, 0, none⟩) (L.length + 1) cap) (L ++ [y]) := by
        show w6.ownsRow _ _ 1 _ (L ++ [y]).length (ws (L ++ [y]))
        rw [ws_append, List.length_append]
        exact hown6
      have S6 := (H5.out.alloc (.cells #[.int .u32 (y : Int)] 59)).high hb6 hown7 (ok_append.2 ⟨H5.out.okL, by intro u hu; simp at hu; omega⟩)
      have H6 := Lib.hid S6
      clear hown6 hgrow hat hlt6 hb6 hown7 S6 c6 H5
      go_wp2_with fail
      go_roundw
      case rel => exact ⟨n - 1, L ++ [y], H6.out, by go_num, by simp; omega⟩
      case measure => simp [intOf]; omega

end Go.Proofs.YtbeidpeoichakaaGreatDoor.hh
