/- fraction: addWords. -/
import Derived.Test.YtfnfnagdecpobaaDoorFb
namespace Go.Proofs.YtfnfnagdecpobaaDoor.fc
open Go.RowKit Go.Proofs.YtfnfnagdecpobaaDoor.fm Go.Proofs.YtfnfnagdecpobaaDoor.mem Go.Proofs.YtfnfnagdecpobaaDoor.fa Go.Proofs.YtfnfnagdecpobaaDoor.fb

set_option maxRecDepth 100000 in
set_option maxHeartbeats 1000000 in
theorem addWords_any (w : World) (A A' : Option Addr) (c c' : Nat) (x y : List Nat) (h : Rd w w.heap.size A c x) (h' : Rd w w.heap.size A' c' y) (hs : x.length ≤ 1000000) (hs' : y.length ≤ 1000000) :
    Calls Tryd.prog 83 #[.slice A x.length c, .slice A' y.length c'] w fun e w' => ∃ v, e = .returned v ∧ Owns w.heap.size w' v (digs (val x + val y)) ∧ Below w.heap.size w w' := by
  obtain ⟨i0, hi, hz0, hz1, hz2⟩ := info_parts info_u32
  rcases Nat.lt_or_ge x.length y.length with hlt | hlt
  case' inl =>
    obtain ⟨X, rfl⟩ : ∃ X, X = y := ⟨_, rfl⟩
    obtain ⟨Y, rfl⟩ : ∃ Y, Y = x := ⟨_, rfl⟩
    have hX := h'
    have hY := h
    have hsX := hs'
    have hsY := hs
    have hle : Y.length ≤ X.length := by omega
    have hsum : val X + val Y = val Y + val X := Nat.add_comm _ _
    have Hsum := Lib.hid hsum
    clear h h' hs hs' hsum
    go_enter Tryd.func83, Tryd.ntmps83
    go_wp2_with (refine wpList_make_full _ rfl _ _ 26 rfl w.heap.size 66 i0 _ 1 Tryd.underlying26 hi hz0 hz1 .i64 .i64 _ _ (X.length + 1) rfl rfl (by omega) (by omega) (by rw [hz2]; omega) (by unfold maxLen; omega) (Nat.le_refl _) ?_; intro w1 hown hgrow)
  case' inr =>
    obtain ⟨X, rfl⟩ : ∃ X, X = x := ⟨_, rfl⟩
    obtain ⟨Y, rfl⟩ : ∃ Y, Y = y := ⟨_, rfl⟩
    have hX := h
    have hY := h'
    have hsX := hs
    have hsY := hs'
    have hle : Y.length ≤ X.length := by omega
    have Hsum : Hid (val X + val Y = val X + val Y) := rfl
    clear h h' hs hs'
    go_enter Tryd.func83, Tryd.ntmps83
    go_wp2_with (refine wpList_make_full _ rfl _ _ 26 rfl w.heap.size 66 i0 _ 1 Tryd.underlying26 hi hz0 hz1 .i64 .i64 _ _ (X.length + 1) rfl rfl (by omega) (by omega) (by rw [hz2]; omega) (by unfold maxLen; omega) (Nat.le_refl _) ?_; intro w1 hown hgrow)
  all_goals
    rw [zeros_made] at hown
    have hbel : Below w.heap.size w w1 := (Below.refl _ _).grown hgrow (Nat.le_refl _) (by simp)
    clear hgrow hlt
    go_loopw [6, 21] (fun cv i wr => ∃ (k cc : Nat) (S : List Nat), k ≤ X.length ∧ i = .int .i64 k ∧ cv = .int .u64 cc ∧ cc ≤ 1 ∧ ok S ∧ val (S.take k) + 4294967296 ^ k * cc = val (X.take k) + val (Y.take k) ∧
        wr.ownsRow w.heap.size 66 1 (.slice (some ⟨w.heap.size, 0, none⟩) (X.length + 1) (X.length + 1)) (X.length + 1) (ws S) ∧ Below w.heap.size w wr)
      (fun _ i _ => X.length - (intOf i).toNat)
    case atStart => exact ⟨0, 0, _, Nat.zero_le _, rfl, rfl, by omega, ok_replicate _, by simp [val], hown, hbel⟩
    case round =>
      clear hown hbel
      obtain ⟨k, cc, S, hk, rfl, rfl, hcc, hok, hE, hown, hbel⟩ := hrel
      have hl := own_len hown
      by_cases hkx : k < X.length
      · obtain ⟨b, off, rfl, hb, hc⟩ := hX.cells (by omega)
        have c1 := (hbel.cell (p := ⟨b, off + k, none⟩) hb).trans (hc k hkx)
        have c2 := own_cell hown k (by omega)
        have c3 := hown.frozenAt k
        have hE2 := add_step X Y S k cc (by omega) hE
        have b1 := ok_getD hX.ok k
        have b2 := ok_getD hY.ok k
        have ho2 := ok_set hok k (Nat.mod_lt (cc + X.getD k 0 + Y.getD k 0) (show 4294967296 > 0 by decide))
        have H := Lib.hid (And.intro hE2 ho2)
        clear hE2 ho2 hE hc
        by_cases hky : k < Y.length
        · obtain ⟨b', off', rfl, hb', hc'⟩ := hY.cells (by omega)
          have c4 := (hbel.cell (p := ⟨b', off' + k, none⟩) hb').trans (hc' k hky)
          clear hc'
          have own2 := own_set hown k ((cc + X.getD k 0 + Y.getD k 0) % 4294967296) (((cc : Int) + (X.getD k 0 : Nat) + (Y.getD k 0 : Nat)) % 4294967296) (by omega)
          have bel2 := hbel.setCell (p := ⟨w.heap.size, k, none⟩) (Nat.le_refl _) (.int .u32 (((cc : Int) + (X.getD k 0 : Nat) + (Y.getD k 0 : Nat)) % 4294967296))
          have O := Lib.hid (And.intro own2 bel2)
          clear own2 bel2 hown hbel
          generalize X.getD k 0 = xk at *
          generalize Y.getD k 0 = yk at *
          go_wp2
          go_roundw
          case rel => exact ⟨k + 1, (cc + xk + yk) / 4294967296, _, by omega, by go_num, by go_num, by omega, H.out.2, H.out.1, O.out.1, O.out.2⟩
          case measure => simp [intOf]; omega
        · have hy0 : Y.getD k 0 = 0 := getD_ge (by omega)
          have own2 := own_set hown k ((cc + X.getD k 0 + Y.getD k 0) % 4294967296) (((cc : Int) + (X.getD k 0 : Nat)) % 4294967296) (by omega)
          have bel2 := hbel.setCell (p := ⟨w.heap.size, k, none⟩) (Nat.le_refl _) (.int .u32 (((cc : Int) + (X.getD k 0 : Nat)) % 4294967296))
          have O := Lib.hid (And.intro own2 bel2)
          rw [hy0] at O H
          clear own2 bel2 hown hbel hy0 b2
          generalize X.getD k 0 = xk at *
          go_wp2
          go_roundw
          case rel => exact ⟨k + 1, (cc + xk + 0) / 4294967296, _, by omega, by go_num, by go_num, by omega, H.out.2, H.out.1, O.out.1, O.out.2⟩
          case measure => simp [intOf]; omega
      · obtain rfl : k = X.length := by omega
        have c2 := own_cell hown X.length (by omega)
        have c3 := hown.frozenAt X.length
        have own2 := own_set hown X.length cc (cc : Int) rfl
        have bel2 := hbel.setCell (p := ⟨w.heap.size, X.length, none⟩) (Nat.le_refl _) (.int .u32 (cc : Int))
        have hv : val (S.set X.length cc) = val X + val Y := by
          have e1 := val_take_set S X.length cc (by omega)
          rw [List.take_of_length_le (by simp; omega)] at e1
          rw [List.take_length, List.take_of_length_le hle] at hE
          omega
        have ho2 : ok (S.set X.length cc) := ok_set hok _ (by omega)
        have O := Lib.hid (And.intro own2 (And.intro ho2 (And.intro hv bel2)))
        clear own2 bel2 hv ho2 hE
        go_wp2_with fail
        refine (trim_own _ w.heap.size _ _ _ _ _ O.out.1 O.out.2.1 (by omega) O.out.2.2.1).mono ?_
        rintro e w2 ⟨rfl, ho3, rfl⟩
        have O3 := Lib.hid ho3
        clear ho3
        go_wp2
        go_ret
        refine ⟨_, rfl, ?_, O.out.2.2.2⟩
        first | exact O3.out | (rw [← Hsum.out]; exact O3.out)

end Go.Proofs.YtfnfnagdecpobaaDoor.fc
