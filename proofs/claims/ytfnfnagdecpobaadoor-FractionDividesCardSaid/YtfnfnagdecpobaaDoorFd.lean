/- fraction: take, subWords. -/
import Derived.Test.YtfnfnagdecpobaaDoorFc
import Derived.WalkSpells
namespace Go.Proofs.YtfnfnagdecpobaaDoor.fd
open Go.RowKit Go.Proofs.YtfnfnagdecpobaaDoor.fm Go.Proofs.YtfnfnagdecpobaaDoor.mem Go.Proofs.YtfnfnagdecpobaaDoor.fa Go.Proofs.YtfnfnagdecpobaaDoor.fb

/-- a difference of words as a word of 64 bits -/
theorem borrow (x r y : Nat) (hx : x < 4294967296) (hr : r ≤ 1) (hy : y < 4294967296) :
    ∃ E D d r' : Nat, IntKind.u64.wrap ((x : Int) - r) = (E : Int) ∧ IntKind.u64.wrap ((E : Int) - y) = (D : Int) ∧ D % 4294967296 = d ∧ D / 9223372036854775808 = r' ∧ r' ≤ 1 ∧ d < 4294967296 ∧ d + y + r = x + 4294967296 * r' ∧ D < 18446744073709551616 := by
  simp only [IntKind.wrap_u64]
  refine ⟨(((x : Int) - r) % 18446744073709551616).toNat, (((((x : Int) - r) % 18446744073709551616) - y) % 18446744073709551616).toNat, _, _, ?_, ?_, rfl, rfl, ?_, ?_, ?_, ?_⟩ <;> omega

theorem sub_done {x y S : List Nat} (k r : Nat) (hS : ok S) (hle : val y ≤ val x) (hyl : y.length ≤ x.length) (hl : S.length = x.length)
    (E : val (S.take k) + val (y.take k) = val (x.take k) + 4294967296 ^ k * r) (hd : S.drop k = x.drop k) (hk : k ≤ x.length) (hcase : k = x.length ∨ (y.length ≤ k ∧ r = 0)) : val S = val x - val y := by
  rcases hcase with rfl | ⟨h1, rfl⟩
  · rw [List.take_length, List.take_of_length_le (by omega), List.take_of_length_le hyl] at E
    have := val_lt hS
    rw [hl] at this
    rcases Nat.eq_zero_or_pos r with h0 | h0
    · subst h0; omega
    · exfalso
      have : 4294967296 ^ x.length * 1 ≤ 4294967296 ^ x.length * r := Nat.mul_le_mul_left _ h0
      omega
  · have e1 := val_split S k (by omega)
    have e2 := val_split x k hk
    rw [List.take_of_length_le h1] at E
    rw [hd] at e1
    generalize 4294967296 ^ k * val (x.drop k) = t at *
    omega

set_option maxRecDepth 100000 in
set_option maxHeartbeats 1000000 in
theorem take_any (w : World) (base g n cap : Nat) (A' : Option Addr) (c' : Nat) (x y : List Nat) (h : w.ownsRow base 66 1 (.slice (some ⟨g, 0, none⟩) n cap) n (ws x)) (ho : ok x)
    (h' : Rd w w.heap.size A' c' y) (hne : ∀ ad, A' = some ad → 0 < y.length → ad.block ≠ g) (hle : val y ≤ val x) (hyl : y.length ≤ n) (hs : n ≤ 1000000) :
    Calls Tryd.prog 102 #[.slice (some ⟨g, 0, none⟩) n cap, .slice A' y.length c'] w fun e w' =>
      e = .returned (.slice (some ⟨g, 0, none⟩) (digs (val x - val y)).length cap) ∧ w'.ownsRow base 66 1 (.slice (some ⟨g, 0, none⟩) (digs (val x - val y)).length cap) (digs (val x - val y)).length (ws (digs (val x - val y))) ∧ w.grownBy w' (some g) := by
  have hlx := own_len h
  have hg := h.lt g rfl
  go_enter Tryd.func102, Tryd.ntmps102
  go_wp2
  go_loopw [5, 10] (fun rv i wr => ∃ (k r : Nat) (S : List Nat), k ≤ n ∧ i = .int .i64 k ∧ rv = .int .u64 r ∧ r ≤ 1 ∧ ok S ∧ val (S.take k) + val (y.take k) = val (x.take k) + 4294967296 ^ k * r ∧ S.drop k = x.drop k ∧
      wr.ownsRow base 66 1 (.slice (some ⟨g, 0, none⟩) n cap) n (ws S) ∧ w.grownBy wr (some g))
    (fun _ i _ => n - (intOf i).toNat)
  case atStart => exact ⟨0, 0, x, Nat.zero_le _, rfl, rfl, by omega, ho, by simp [val], rfl, h, World.grownBy.refl _ _⟩
  case round =>
    obtain ⟨k, r, S, hk, rfl, rfl, hr, hok, hE, hdr, hown, hgr⟩ := hrel
    have hl := own_len hown
    by_cases hkx : k < n
    · have c1 := own_cell hown k hkx
      have c3 := hown.frozenAt k
      have ex : S.getD k 0 = x.getD k 0 := by
        have e1 : (S.drop k)[0]? = (x.drop k)[0]? := by rw [hdr]
        rw [List.getElem?_drop, List.getElem?_drop, Nat.add_zero] at e1
        rw [List.getD_eq_getElem?_getD, List.getD_eq_getElem?_getD, e1]
      have b1 := ok_getD ho k
      have b2 := ok_getD h'.ok k
      obtain ⟨E, D, d, r', w1, w2, w3, w4, hr', hd, heq, hD⟩ := borrow (x.getD k 0) r (y.getD k 0) b1 hr b2
      have hE2 := sub_step x y S k r d r' (by omega) heq hE
      have hdr2 : (S.set k d).drop (k + 1) = x.drop (k + 1) := by
        rw [List.drop_set_of_lt (by omega), ← List.drop_drop, hdr, List.drop_drop]
      have own2 := own_set hown k d ((D : Int) % 4294967296) (by omega)
      have gr2 : w.grownBy (wr.setCell ⟨g, k, none⟩ (.int .u32 ((D : Int) % 4294967296))) (some g) := hgr.trans (hown.stored k _).2
      have O := Lib.hid (And.intro own2 (And.intro gr2 (And.intro hE2 (And.intro hdr2 (ok_set hok k hd)))))
      rw [ex] at c1
      have W1 := w1
      have V := Lib.hid (And.intro w3 (And.intro w4 (And.intro hr' hd)))
      have P := Lib.hid (And.intro hE (And.intro hdr (And.intro hok hown)))
      clear own2 gr2 hE2 hdr2 hE hdr ex hok heq w3 w4 w1 hr' hd hown
      by_cases hky : k < y.length
      · obtain ⟨b', off', rfl, hb', hc'⟩ := h'.cells (by omega)
        have c4 := (hgr.cell_far ⟨b', off' + k, none⟩ hb' (fun e => hne _ rfl (by omega) (by injection e))).trans (hc' k hky)
        clear hc' hgr
        generalize x.getD k 0 = xk at *
        generalize y.getD k 0 = yk at *
        go_wp2
        go_roundw
        case rel => exact ⟨k + 1, r', _, by omega, by go_num, congrArg (Value.int .u64) (by have := V.out.2.1; omega), V.out.2.2.1, O.out.2.2.2.2, O.out.2.2.1, O.out.2.2.2.1, O.out.1, O.out.2.1⟩
        case measure => simp [intOf]; omega
      · have hy0 : y.getD k 0 = 0 := getD_ge (by omega)
        rw [hy0] at w2
        have w5 : E = D := by
          have h1 := w2
          have h2 := W1
          rw [IntKind.wrap_u64] at h1 h2
          omega
        subst w5
        clear hy0 b2 w2
        generalize x.getD k 0 = xk at *
        rcases (show r = 0 ∨ r = 1 by omega) with rfl | h1
        · obtain ⟨hE, hdr, hok, hown⟩ := P.out
          have hd0 := sub_done k 0 hok hle (by omega) (by omega) hE hdr (by omega) (.inr ⟨by omega, rfl⟩)
          clear W1 hE hdr hr O P V
          go_wp2_with fail
          refine (trim_own _ base _ _ _ _ _ hown hok (by omega) hd0).mono ?_
          rintro e w2 ⟨rfl, ho3, rfl⟩
          have O3 := Lib.hid (And.intro ho3 hgr)
          clear ho3 hgr hown
          go_wp2
          go_ret
          exact ⟨rfl, O3.out.1, O3.out.2⟩
        · have z : ((r : Int) == 0) = false := beq_eq_false_iff_ne.2 (by omega)
          clear h1
          go_wp2
          go_roundw
          case rel => exact ⟨k + 1, r', _, by omega, by go_num, congrArg (Value.int .u64) (by have := V.out.2.1; omega), V.out.2.2.1, O.out.2.2.2.2, O.out.2.2.1, O.out.2.2.2.1, O.out.1, O.out.2.1⟩
          case measure => simp [intOf]; omega
    · obtain rfl : k = n := by omega
      have hd0 := sub_done k r hok hle (by omega) (by omega) hE hdr (by omega) (.inl hlx.symm)
      clear hE hdr hr
      go_wp2_with fail
      refine (trim_own _ base _ _ _ _ _ hown hok (by omega) hd0).mono ?_
      rintro e w2 ⟨rfl, ho3, rfl⟩
      have O3 := Lib.hid (And.intro ho3 hgr)
      clear ho3 hgr hown
      go_wp2
      go_ret
      exact ⟨rfl, O3.out.1, O3.out.2⟩

set_option maxRecDepth 100000 in
set_option maxHeartbeats 1000000 in
theorem clone_any (w : World) (A : Option Addr) (c : Nat) (x : List Nat) (h : Rd w w.heap.size A c x) (hs : x.length ≤ 1000000) :
    Calls Tryd.prog 79 #[.slice A x.length c] w fun e w' => ∃ v, e = .returned v ∧ Owns w.heap.size w' v x ∧ Below w.heap.size w w' := by
  obtain ⟨i0, hi, hz0, hz1, hz2⟩ := info_parts info_u32
  have hnil := fun w => Lib.run_eql_slice_nil (P := Tryd.prog) w 26 66 A x.length c 0 0 Tryd.underlying26
  rcases A with _ | ad
  · have hx : x = [] := by
      rcases Nat.eq_zero_or_pos x.length with h0 | h0
      · exact List.eq_nil_of_length_eq_zero h0
      · obtain ⟨b, off, e, _⟩ := h.cells h0; cases e
    subst hx
    simp only [List.length_nil] at hnil
    go_enter Tryd.func79, Tryd.ntmps79
    go_wp2
    go_ret
    exact ⟨_, rfl, World.ownsRow_nil _ _ _ _, Below.refl _ _⟩
  · go_enter Tryd.func79, Tryd.ntmps79
    go_wp2_with (at_builtin; refine wpList_append_own _ rfl _ _ 26 rfl w.heap.size 66 i0 _ 1 4 Tryd.underlying26 hi hz0 hz1 hz2 rfl (by omega) _ 0 [] rfl ⟨by simp, .inr ⟨w.heap.size, 0, #[], rfl, Nat.le_refl _, heap_alloc_new w _, Nat.le_refl _, by simp [maxLen], by simp, by simp⟩⟩ ad x.length c (ws x) rfl (by simp [ws]) ?hn (ws_oneCell x) (by unfold maxLen; omega) (by omega) (by simp) ?_)
    case hn =>
      intro j u hu
      have hj : j < x.length := by
        have := (List.getElem?_eq_some_iff.1 hu).1
        rwa [ws_length] at this
      obtain ⟨b, off, e, hb, hc⟩ := h.cells (by omega)
      injection e with e
      subst e
      have hadd : (⟨b, off, none⟩ : Addr).add j = ⟨b, off + j, none⟩ := by unfold Addr.add; split <;> simp_all
      rw [hadd, World.cell?_alloc_lt _ _ _ (by simpa using hb), hc j hj, ← ws_get x j hj, hu]
    · intro v' w' hown hgr hnv
      go_wp2
      go_ret
      exact ⟨_, rfl, hown, ((Below.refl _ _).alloc (Nat.le_refl _) _).grown hgr (by simp) (by simp [Value.ownBlock])⟩

set_option maxRecDepth 100000 in
set_option maxHeartbeats 1000000 in
theorem take_nil (w : World) (A' : Option Addr) (c' : Nat) :
    Calls Tryd.prog 102 #[.slice none 0 0, .slice A' 0 c'] w fun e w' => e = .returned (.slice none 0 0) ∧ w = w' := by
  go_enter Tryd.func102, Tryd.ntmps102
  go_wp2
  refine wp_loop_rounds 1 ?_
  rw [rounds_succ]
  go_wp2_with fail
  refine (trim_any w 0 none 0 [] (Rd.nil _ _ _ _) (by simp)).mono ?_
  rintro e w2 ⟨rfl, rfl⟩
  go_wp2
  go_ret
  exact ⟨rfl, rfl⟩

set_option maxRecDepth 100000 in
set_option maxHeartbeats 1000000 in
theorem subWords_any (w : World) (A A' : Option Addr) (c c' : Nat) (x y : List Nat) (h : Rd w w.heap.size A c x) (h' : Rd w w.heap.size A' c' y) (hle : val y ≤ val x) (hyl : y.length ≤ x.length) (hs : x.length ≤ 1000000) :
    Calls Tryd.prog 84 #[.slice A x.length c, .slice A' y.length c'] w fun e w' => ∃ v, e = .returned v ∧ Owns w.heap.size w' v (digs (val x - val y)) ∧ Below w.heap.size w w' := by
  go_enter Tryd.func84, Tryd.ntmps84
  go_wp2_with fail
  refine (clone_any w A c x h hs).mono ?_
  rintro e w1 ⟨v, rfl, hown, hbel⟩
  rcases hown.2 with ⟨hv, h0⟩ | ⟨g, cap, cur, hv, hbg, hcur, _⟩
  · have hx : x = [] := List.eq_nil_of_length_eq_zero h0
    have hy : y = [] := List.eq_nil_of_length_eq_zero (by omega)
    subst hv hx hy
    have H := Lib.hid (And.intro hown hbel)
    clear hown hbel h0 hyl
    simp only [List.length_nil]
    go_wp2_with fail
    refine (take_nil w1 A' c').mono ?_
    rintro e w2 ⟨rfl, rfl⟩
    go_wp2
    go_ret
    exact ⟨_, rfl, H.out.1, H.out.2⟩
  · subst hv
    have hlt : g < w1.heap.size := (Array.getElem?_eq_some_iff.1 hcur).1
    have R := (h'.below hbel).more hbel.size
    have hne : ∀ ad, A' = some ad → 0 < y.length → ad.block ≠ g := by
      intro ad e hy0
      obtain ⟨b, off, e2, hb, _⟩ := h'.cells hy0
      rw [e] at e2
      injection e2 with e2
      subst e2
      show b ≠ g
      omega
    have H := Lib.hid (And.intro hown hbel)
    clear hbel hcur
    go_wp2_with fail
    refine (take_any w1 w.heap.size g x.length cap A' c' x y hown h.ok R hne hle hyl hs).mono ?_
    rintro e w2 ⟨rfl, hown2, hgr2⟩
    have H2 := Lib.hid (And.intro hown2 (H.out.2.grown hgr2 H.out.2.size (fun k hk => by injection hk with hk; omega)))
    clear hown hown2 hgr2
    go_wp2
    go_ret
    exact ⟨_, rfl, H2.out.1, H2.out.2⟩

end Go.Proofs.YtfnfnagdecpobaaDoor.fd
