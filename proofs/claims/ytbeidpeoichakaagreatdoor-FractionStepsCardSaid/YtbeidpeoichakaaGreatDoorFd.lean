/- fraction: take, subWords. -/
import Derived.Test.YtbeidpeoichakaaGreatDoorFb
import Derived.WalkSpells
namespace Go.Proofs.YtbeidpeoichakaaGreatDoor.fd
open Go.RowKit Go.Proofs.YtbeidpeoichakaaGreatDoor.fm Go.Proofs.YtbeidpeoichakaaGreatDoor.mem Go.Proofs.YtbeidpeoichakaaGreatDoor.fa Go.Proofs.YtbeidpeoichakaaGreatDoor.fb

/-- a difference of words as a word of 64 bits -/
theorem borrow (x r y : Nat) (hx : x < 4294967296) (hr : r ≤ 1) (hy : y < 4294967296) :
    ∃ E D d r' : Nat, IntKind.u64.wrap ((x : Int) - r) = (E : Int) ∧ IntKind.u64.wrap ((E : Int) - y) = (D : Int) ∧ D % 4294967296 = d ∧ D / 9223372036854775808 = r' ∧ r' ≤ 1 ∧ d < 4294967296 ∧ d + y + r = x + 4294967296 * r' ∧ D < 18446744073709551616 := by
  simp only [IntKind.wrap_u64]
  refine ⟨(((x : Int) - r) % 18446744073709551616).toNat, (((((x : Int) - r) % 18446744073709551616) - y) % 18446744073709551616).toNat, _, _, ?_, ?_, rfl, rfl, ?_, ?_, ?_, ?_⟩ <;> omega

theorem sub_done {x y S : List Nat} (k r : Nat) (hS : ok S) (hle : val y ≤ val x) (hyl : y.length ≤ x.length) (hl : S.length = x.length)
    (E : val (S.take k) + val (y.take k) = val (x.take k) + 4294967296 ^ k * r) (hd : S.drop k = x.drop k) (hk : k ≤ x.length) (hcase : k = x.length ∨ (y.length ≤ k ∧ r = 0)) : val S = val x - val y := by
  rcases hcase with rfl | ⟨h1, rfl⟩
  · rw [List.take_length, List.take_of_length_le (by omega), List.take_of_length_le hyl] at E
    have := val_lt hS
    rw [hl] at this
    rcases Nat.eq_zero_or_pos r with h0 | h0
    · subst h0; omega
    · exfalso
      have : 4294967296 ^ x.length * 1 ≤ 4294967296 ^ x.length * r := Nat.mul_le_mul_left _ h0
      omega
  · have e1 := val_split S k (by omega)
    have e2 := val_split x k hk
    rw [List.take_of_length_le h1] at E
    rw [hd] at e1
    generalize 4294967296 ^ k * val (x.drop k) = t at *
    omega

set_option maxRecDepth 100000 in
set_option maxHeartbeats 1000000 in
theorem take_any (w : World) (base g n cap : Nat) (A' : Option Addr) (c' : Nat) (x y : List Nat) (h : w.ownsRow base 59 1 (.slice (some ⟨g, 0, none⟩) n cap) n (ws x)) (ho : ok x)
    (h' : Rd w w.heap.size A' c' y) (hne : ∀ ad, A' = some ad → 0 < y.length → ad.block ≠ g) (hle : val y ≤ val x) (hyl : y.length ≤ n) (hs : n ≤ 1000000) :
    Calls Tryz.prog 87 #[.slice (some ⟨g, 0, none⟩) n cap, .slice A' y.length c'] w fun e w' =>
      e = .returned (.slice (some ⟨g, 0, none⟩) (digs (val x - val y)).length cap) ∧ w'.ownsRow base 59 1 (.slice (some ⟨g, 0, none⟩) (digs (val x - val y)).length cap) (digs (val x - val y)).length (ws (digs (val x - val y))) ∧ w.grownBy w' (some g) := by
  have hlx := own_len h
  have hg := h.lt g rfl
  go_enter Tryz.func87, Tryz.ntmps87
  go_wp2
  go_loopw [5, 10] (fun rv i wr => ∃ (k r : Nat) (S : List Nat), k ≤ n ∧ i = .int .i64 k ∧ rv = .int .u64 r ∧ r ≤ 1 ∧ ok S ∧ val (S.take k) + val (y.take k) = val (x.take k) + 4294967296 ^ k * r ∧ S.drop k = x.drop k ∧
      wr.ownsRow base 59 1 (.slice (some ⟨g, 0, none⟩) n cap) n (ws S) ∧ w.grownBy wr (some g))
    (fun _ i _ => n - (intOf i).toNat)
  case atStart => exact ⟨0, 0, x, Nat.zero_le _, rfl, rfl, by omega, ho, by simp [val], rfl, h, World.grownBy.refl _ _⟩
  case round =>
    obtain ⟨k, r, S, hk, rfl, rfl, hr, hok, hE, hdr, hown, hgr⟩ := hrel
    have hl := own_len hown
    by_cases hkx : k < n
    · have c1 := own_cell hown k hkx
      have c3 := hown.frozenAt k
      have ex : S.getD k 0 = x.getD k 0 := by
        have e1 : (S.drop k)[0]? = (x.drop k)[0]? := by rw [hdr]
        rw [List.getElem?_drop, List.getElem?_drop, Nat.add_zero] at e1
        rw [List.getD_eq_getElem?_getD, List.getD_eq_getElem?_getD, e1]
      have b1 := ok_getD ho k
      have b2 := ok_getD h'.ok k
      obtain ⟨E, D, d, r', w1, w2, w3, w4, hr', hd, heq, hD⟩ := borrow (x.getD k 0) r (y.getD k 0) b1 hr b2
      have hE2 := sub_step x y S k r d r' (by omega) heq hE
      have hdr2 : (S.set k d).drop (k + 1) = x.drop (k + 1) := by
        rw [List.drop_set_of_lt (by omega), ← List.drop_drop, hdr, List.drop_drop]
      have own2 := own_set hown k d ((D : Int) % 4294967296) (by omega)
      have gr2 : w.grownBy (wr.setCell ⟨g, k, none⟩ (.int .u32 ((D : Int) % 4294967296))) (some g) := hgr.trans (hown.stored k _).2
      have O := Lib.hid (And.intro own2 (And.intro gr2 (And.intro hE2 (And.intro hdr2 (ok_set hok k hd)))))
      rw [ex] at c1
      have W1 := w1
      have V := Lib.hid (And.intro w3 (And.intro w4 (And.intro hr' hd)))
      have P := Lib.hid (And.intro hE (And.intro hdr (And.intro hok hown)))
      clear own2 gr2 hE2 hdr2 hE hdr ex hok heq w3 w4 w1 hr' hd hown
      by_cases hky : k < y.length
      · obtain ⟨b', off', rfl, hb', hc'⟩ := h'.cells (by omega)
        have c4 := (hgr.cell_far ⟨b', off' + k, none⟩ hb' (fun e => hne _ rfl (by omega) (by injection e))).trans (hc' k hky)
        clear hc' hgr
        generalize x.getD k 0 = xk at *
        generalize y.getD k 0 = yk at *
        go_wp2
        go_roundw
        case rel => exact ⟨k + 1, r', _, by omega, by go_num, congrArg (Value.int .u64) (by have := V.out.2.1; omega), V.out.2.2.1, O.out.2.2.2.2, O.out.2.2.1, O.out.2.2.2.1, O.out.1, O.out.2.1⟩
        case measure => simp [intOf]; omega
      · have hy0 : y.getD k 0 = 0 := getD_ge (by omega)
        rw [hy0] at w2
        have w5 : E = D := by
          have h1 := w2
          have h2 := W1
          rw [IntKind.wrap_u64] at h1 h2
          omega
        subst w5
        clear hy0 b2 w2
        generalize x.getD k 0 = xk at *
        rcases (show r = 0 ∨ r = 1 by omega) with rfl | h1
        · obtain ⟨hE, hdr, hok, hown⟩ := P.out
          have hd0 := sub_done k 0 hok hle (by omega) (by omega) hE hdr (by omega) (.inr ⟨by omega, rfl⟩)
          clear W1 hE hdr hr O P V
          go_wp2_with fail
          refine (trim_own _ base _ _ _ _ _ hown hok (by omega) hd0).mono ?_
          rintro e w2 ⟨rfl, ho3, rfl⟩
          have O3 := Lib.hid (And.intro ho3 hgr)
          clear ho3 hgr hown
          go_wp2
          go_ret
          exact ⟨rfl, O3.out.1, O3.out.2⟩
        · have z : ((r : Int) == 0) = false := beq_eq_false_iff_ne.2 (by omega)
          clear h1
          go_wp2
          go_roundw
          case rel => exact ⟨k + 1, r', _, by omega, by go_num, congrArg (Value.int .u64) (by have := V.out.2.1; omega), V.out.2.2.1, O.out.2.2.2.2, O.out.2.2.1, O.out.2.2.2.1, O.out.1, O.out.2.1⟩
          case measure => simp [intOf]; omega
    · obtain rfl : k = n := by omega
      have hd0 := sub_done k r hok hle (by omega) (by omega) hE hdr (by omega) (.inl hlx.symm)
      clear hE hdr hr
      go_wp2_with fail
      refine (trim_own _ base _ _ _ _ _ hown hok (by omega) hd0).mono ?_
      rintro e w2 ⟨rfl, ho3, rfl⟩
      have O3 := Lib.hid (And.intro ho3 hgr)
      clear ho3 hgr hown
      go_wp2
      go_ret
      exact ⟨rfl, O3.out.1, O3.out.2⟩

set_option maxRecDepth 100000 in
set_option maxHeartbeats 1000000 in
theorem clone_any (w : World) (A : Option Addr) (c : Nat) (x : List Nat) (h : Rd w w.heap.size A c x) (hs : x.length ≤ 1000000) :
    Calls Tryz.prog 42 #[.slice A x.length c] w fun e w' => ∃ v, e = .returned v ∧ Owns w.heap.size w' v x ∧ Below w.heap.size w w' := by
  obtain ⟨i0, hi, hz0, hz1, hz2⟩ := info_parts info_u32
  have hnil := fun w => Lib.run_eql_slice_nil (P := Tryz.prog) w 26 59 A x.length c 0 0 Tryz.underlying26
  rcases A with _ | ad
  · have hx : x = [] := by
      rcases Nat.eq_zero_or_pos x.length with h0 | h0
      · exact List.eq_nil_of_length_eq_zero h0
      · obtain ⟨b, off, e, _⟩ := h.cells h0; cases e
    subst hx
    simp only [List.length_nil] at hnil
    go_enter Tryz.func42, Tryz.ntmps42
    go_wp2
    go_ret
    exact ⟨_, rfl, World.ownsRow_nil _ _ _ _, Below.refl _ _⟩
  · go_enter Tryz.func42, Tryz.ntmps42
    go_wp2_with (at_builtin; refine wpList_append_own _ rfl _ _ 26 rfl w.heap.size 59 i0 _ 1 4 Tryz.underlying26 hi hz0 hz1 hz2 rfl (by omega) _ 0 [] rfl ⟨by simp, .inr ⟨w.heap.size, 0, #[], rfl, Nat.le_refl _, heap_alloc_new w _, Nat.le_refl _, by simp [maxLen], by simp, by simp⟩⟩ ad x.length c (ws x) rfl (by simp [ws]) ?hn (ws_oneCell x) (by unfold maxLen; omega) (by omega) (by simp) ?_)
    case hn =>
      intro j u hu
      have hj : j < x.length := by
        have := (List.getElem?_eq_some_iff.1 hu).1
        rwa [ws_length] at this
      obtain ⟨b, off, e, hb, hc⟩ := h.cells (by omega)
      injection e with e
      subst e
      have hadd : (⟨b, off, none⟩ : Addr).add j = ⟨b, off + j, none⟩ := by unfold Addr.add; split <;> simp_all
      rw [hadd, World.cell?_alloc_lt _ _ _ (by simpa using hb), hc j hj, ← ws_get x j hj, hu]
    · intro v' w' hown hgr hnv
      go_wp2
      go_ret
      exact ⟨_, rfl, hown, ((Below.refl _ _).alloc (Nat.le_refl _) _).grown hgr (by simp) (by simp [Value.ownBlock])⟩

set_option maxRecDepth 100000 in
set_option maxHeartbeats 1000000 in
theorem take_nil (w : World) (A' : Option Addr) (c' : Nat) :
    Calls Tryz.prog 87 #[.slice none 0 0, .slice A' 0 c'] w fun e w' => e = .returned (.slice none 0 0) ∧ w = w' := by
  go_enter Tryz.func87, Tryz.ntmps87
  go_wp2
  refine wp_loop_rounds 1 ?_
  rw [rounds_succ]
  go_wp2_with fail
  refine (trim_any w 0 none 0 [] (Rd.nil _ _ _ _) (by simp)).mono ?_
  rintro e w2 ⟨rfl, rfl⟩
  go_wp2
  go_ret
  exact ⟨rfl, rfl⟩

set_option maxRecDepth 100000 in
set_option maxHeartbeats 1000000 in
theorem subWords_any (w : World) (A A' : Option Addr) (c c' : Nat) (x y : List Nat) (h : Rd w w.heap.size A c x) (h' : Rd w w.heap.size A' c' y) (hle : val y ≤ val x) (hyl : y.length ≤ x.length) (hs : x.length ≤ 1000000) :
    Calls Tryz.prog 71 #[.slice A x.length c, .slice A' y.length c'] w fun e w' => ∃ v, e = .returned v ∧ Owns w.heap.size w' v (digs (val x - val y)) ∧ Below w.heap.size w w' := by
  go_enter Tryz.func71, Tryz.ntmps71
  go_wp2_with fail
  refine (clone_any w A c x h hs).mono ?_
  rintro e w1 ⟨v, rfl, hown, hbel⟩
  rcases hown.2 with ⟨hv, h0⟩ | ⟨g, cap, cur, hv, hbg, hcur, _⟩
  · have hx : x = [] := List.eq_nil_of_length_eq_zero h0
    have hy : y = [] := List.eq_nil_of_length_eq_zero (by omega)
    subst hv hx hy
    have H := Lib.hid (And.intro hown hbel)
    clear hown hbel h0 hyl
    simp only [List.length_nil]
    go_wp2_with fail
    refine (take_nil w1 A' c').mono ?_
    rintro e w2 ⟨rfl, rfl⟩
    go_wp2
    go_ret
    exact ⟨_, rfl, H.out.1, H.out.2⟩
  · subst hv
    have hlt : g < w1.heap.size := (Array.getElem?_eq_some_iff.1 hcur).1
    have R := (h'.below hbel).more hbel.size
    have hne : ∀ ad, A' = some ad → 0 < y.length → ad.block ≠ g := by
      intro ad e hy0
      obtain ⟨b, off, e2, hb, _⟩ := h'.cells hy0
      rw [e] at e2
      injection e2 with e2
      subst e2
      show b ≠ g
      omega
    have H := Lib.hid (And.intro hown hbel)
    clear hbel hcur
    go_wp2_with fail
    refine (take_any w1 w.heap.size g x.length cap A' c' x y hown h.ok R hne hle hyl hs).mono ?_
    rintro e w2 ⟨rfl, hown2, hgr2⟩
    have H2 := Lib.hid (And.intro hown2 (H.out.2.grown hgr2 H.out.2.size (fun k hk => by injection hk with hk; omega)))
    clear hown hown2 hgr2
    go_wp2
    go_ret
    exact ⟨_, rfl, H2.out.1, H2.out.2⟩

end Go.Proofs.YtbeidpeoichakaaGreatDoor.fd

/- fraction: mulWords. -/
namespace Go.Proofs.YtbeidpeoichakaaGreatDoor.fe
open Go.RowKit Go.Proofs.YtbeidpeoichakaaGreatDoor.fm Go.Proofs.YtbeidpeoichakaaGreatDoor.mem Go.Proofs.YtbeidpeoichakaaGreatDoor.fa Go.Proofs.YtbeidpeoichakaaGreatDoor.fb

theorem word_prod (x y p c : Nat) (hx : x < 4294967296) (hy : y < 4294967296) (hp : p < 4294967296) (hc : c < 4294967296) :
    (c + x * y + p) / 4294967296 < 4294967296 ∧ ((c + x * y + p : Nat) : Int) = (c : Int) + ((x : Int) * (y : Int) + (p : Int)) ∧ 0 ≤ (x : Int) * (y : Int) ∧
      IntKind.u64.wrap ((x : Int) * (y : Int)) = (x : Int) * (y : Int) ∧ IntKind.u64.wrap ((x : Int) * (y : Int) + p) = (x : Int) * (y : Int) + p ∧ IntKind.u64.wrap ((c : Int) + ((x : Int) * (y : Int) + p)) = (c : Int) + ((x : Int) * (y : Int) + p) := by
  have h1 : x * y ≤ 4294967295 * 4294967295 := Nat.mul_le_mul (by omega) (by omega)
  have h2 : ((x * y : Nat) : Int) = (x : Int) * (y : Int) := Int.natCast_mul x y
  simp only [IntKind.wrap_u64]
  rw [← h2]
  generalize x * y = q at *
  omega

set_option maxRecDepth 100000 in
set_option maxHeartbeats 4000000 in
theorem mulWords_any (w : World) (A A' : Option Addr) (c c' : Nat) (x y : List Nat) (h : Rd w w.heap.size A c x) (h' : Rd w w.heap.size A' c' y) (hs : x.length ≤ 1000000) (hs' : y.length ≤ 1000000) :
    Calls Tryz.prog 44 #[.slice A x.length c, .slice A' y.length c'] w fun e w' => ∃ v, e = .returned v ∧ Owns w.heap.size w' v (digs (val x * val y)) ∧ Below w.heap.size w w' := by
  obtain ⟨i0, hi, hz0, hz1, hz2⟩ := info_parts info_u32
  obtain ⟨n, hn⟩ : ∃ n, n = x.length + y.length := ⟨_, rfl⟩
  have hn' : ((x.length : Int) + (y.length : Int)) = (n : Int) := by omega
  have Hn := Lib.hid hn
  have Hn' := Lib.hid hn'
  have hn2 : n ≤ x.length + y.length := by omega
  have hn3 : x.length + y.length ≤ n := by omega
  clear hn hn'
  go_enter Tryz.func44, Tryz.ntmps44
  go_wp2_with (refine wpList_make_full _ rfl _ _ 26 rfl w.heap.size 59 i0 _ 1 Tryz.underlying26 hi hz0 hz1 .i64 .i64 _ _ n rfl rfl (by omega) (by omega) (by rw [hz2]; omega) (by unfold maxLen; omega) (Nat.le_refl _) ?_; intro w1 hown hgrow)
  rw [zeros_made] at hown
  have hbel : Below w.heap.size w w1 := (Below.refl _ _).grown hgrow (Nat.le_refl _) (by simp)
  clear hgrow
  go_loopw [17] (fun i wr => ∃ (k : Nat) (P : List Nat), k ≤ x.length ∧ i = .int .i64 k ∧ ok P ∧ val P = val (x.take k) * val y ∧ (∀ t, k + y.length ≤ t → P.getD t 0 = 0) ∧
        wr.ownsRow w.heap.size 59 1 (.slice (some ⟨w.heap.size, 0, none⟩) n n) n (ws P) ∧ Below w.heap.size w wr)
      (fun i _ => x.length - (intOf i).toNat)
  case atStart => exact ⟨0, _, Nat.zero_le _, rfl, ok_replicate _, by simp [val, val_replicate], fun t _ => by simp [List.getD_eq_getElem?_getD, List.getElem?_replicate]; split <;> rfl, hown, hbel⟩
  case round =>
    clear hown hbel
    obtain ⟨k, P, hk, rfl, hok, hE, hzero, hown, hbel⟩ := hrel
    have hl := own_len hown
    by_cases hkx : k < x.length
    · obtain ⟨b, off, rfl, hb, hc⟩ := h.cells (by omega)
      have c1 := hc k hkx
      have b1 := ok_getD h.ok k
      have hstep : val (x.take (k + 1)) = val (x.take k) + 4294967296 ^ k * x.getD k 0 := val_take_next x k
      have HS := Lib.hid (And.intro hstep (And.intro hE (And.intro hzero (And.intro hok hown))))
      have HB := Lib.hid hbel
      have Hc := Lib.hid c1
      clear hstep hE hc hzero hown hok hbel c1
      generalize x.getD k 0 = xk at *
      clear hl
      obtain ⟨wo, rfl⟩ : ∃ wo : World, wo = wr := ⟨_, rfl⟩
      go_wp2
      go_loopw [7, 22] (fun cv i wr => ∃ (j cc : Nat) (P' : List Nat), j ≤ y.length ∧ i = .int .i64 j ∧ cv = .int .u64 cc ∧ cc < 4294967296 ∧ ok P' ∧ val P' + 4294967296 ^ (k + j) * cc = val P + 4294967296 ^ k * (xk * val (y.take j)) ∧ (∀ t, k + y.length ≤ t → P'.getD t 0 = 0) ∧
          wr.ownsRow w.heap.size 59 1 (.slice (some ⟨w.heap.size, 0, none⟩) n n) n (ws P') ∧ Below w.heap.size w wr)
        (fun _ i _ => y.length - (intOf i).toNat)
      case atStart => exact ⟨0, 0, P, Nat.zero_le _, rfl, rfl, by decide, HS.out.2.2.2.1, by simp [val], HS.out.2.2.1, HS.out.2.2.2.2, HB.out⟩
      case round =>
        clear HB
        obtain ⟨j, cc, P', hj, rfl, rfl, hcc, hok', hE', hzero', hown, hbel⟩ := hrel
        have hl' := own_len hown
        by_cases hjy : j < y.length
        · obtain ⟨b', off', rfl, hb', hc'⟩ := h'.cells (by omega)
          have c1 := (hbel.cell (p := ⟨b, off + k, none⟩) hb).trans Hc.out
          have c2 := (hbel.cell (p := ⟨b', off' + j, none⟩) hb').trans (hc' j hjy)
          have c3 := own_cell hown (k + j) (by omega)
          have c4 := hown.frozenAt (k + j)
          have b2 := ok_getD h'.ok j
          have b3 := ok_getD hok' (k + j)
          obtain ⟨f1, f2, f3, f4, f5, f6⟩ := word_prod xk (y.getD j 0) (P'.getD (k + j) 0) cc b1 b2 b3 hcc
          have hst := mul_step y P' xk k j cc (val P) (by omega) hE'
          have hok2 := ok_set hok' (k + j) (Nat.mod_lt (cc + xk * y.getD j 0 + P'.getD (k + j) 0) (show 4294967296 > 0 by decide))
          have hz2' : ∀ t, k + y.length ≤ t → (P'.set (k + j) ((cc + xk * y.getD j 0 + P'.getD (k + j) 0) % 4294967296)).getD t 0 = 0 := fun t ht => by
            rw [fm.getD_set_ne _ _ _ _ (by omega)]; exact hzero' t ht
          have own2 := own_set hown (k + j) ((cc + xk * y.getD j 0 + P'.getD (k + j) 0) % 4294967296) (((cc : Int) + ((xk : Int) * (y.getD j 0 : Nat) + (P'.getD (k + j) 0 : Nat))) % 4294967296) (by omega)
          have bel2 := hbel.setCell (p := ⟨w.heap.size, k + j, none⟩) (Nat.le_refl _) (.int .u32 (((cc : Int) + ((xk : Int) * (y.getD j 0 : Nat) + (P'.getD (k + j) 0 : Nat))) % 4294967296))
          have O := Lib.hid (And.intro own2 (And.intro bel2 (And.intro hst (And.intro hok2 (And.intro hz2' (And.intro f1 f2))))))
          have i1 : (0 : Int) ≤ (k : Int) + (j : Int) := by omega
          have i2 : (k : Int) + (j : Int) < (n : Int) := by omega
          have i3 : IntKind.i64.wrap ((k : Int) + (j : Int)) = (k : Int) + (j : Int) := IntWalk.i64_in _ (by omega)
          have i4 : ((k : Int) + (j : Int)).toNat = k + j := by omega
          have i5 : (j : Int) < (y.length : Int) := by omega
          have i6 : (k : Int) < (x.length : Int) := by omega
          clear own2 bel2 hst hok2 hz2' f1 f2 hown hbel hE' hzero' hok' hc' hl' HS
          generalize y.getD j 0 = yj at *
          generalize P'.getD (k + j) 0 = pk at *
          go_wp2
          go_quiet (fail)
          go_wp2
          go_roundw
          case rel =>
            obtain ⟨o1, o2, o3, o4, o5, o6, o7⟩ := O.out
            exact ⟨j + 1, (cc + xk * yj + pk) / 4294967296, _, by omega, by go_num, congrArg (Value.int .u64) (by omega), o6, o4, o3, o5, o1, ⟨o2.os, o2.tape, o2.output, o2.size, o2.block⟩⟩
          case measure => simp [intOf]; omega
        · obtain rfl : j = y.length := by omega
          obtain ⟨hstep, hE, hz, hokP, _⟩ := HS.out
          have c3 := own_cell hown (k + y.length) (by omega)
          have c4 := hown.frozenAt (k + y.length)
          have i1 : (0 : Int) ≤ (k : Int) + (y.length : Int) := by omega
          have i2 : (k : Int) + (y.length : Int) < (n : Int) := by omega
          have i4 : ((k : Int) + (y.length : Int)).toNat = k + y.length := by omega
          have hv : val (P'.set (k + y.length) cc) = val (x.take (k + 1)) * val y := by
            have e1 := val_set P' (k + y.length) cc (by omega)
            rw [hzero' _ (Nat.le_refl _)] at e1
            rw [List.take_length] at hE'
            rw [hstep, Nat.add_mul, ← hE, Nat.mul_assoc]
            omega
          have own2 := own_set hown (k + y.length) cc (cc : Int) rfl
          have bel2 := hbel.setCell (p := ⟨w.heap.size, k + y.length, none⟩) (Nat.le_refl _) (.int .u32 (cc : Int))
          have hz2' : ∀ t, k + 1 + y.length ≤ t → (P'.set (k + y.length) cc).getD t 0 = 0 := fun t ht => by
            rw [fm.getD_set_ne _ _ _ _ (by omega)]; exact hzero' t (by omega)
          have O := Lib.hid (And.intro own2 (And.intro bel2 (And.intro hv (And.intro (ok_set hok' (k + y.length) hcc) hz2'))))
          clear own2 bel2 hv hz2' hstep hE hz hokP hE' hzero' hown hbel hok' HS hl'
          generalize P'.getD (k + y.length) 0 = pk at *
          go_wp2
          go_roundw
          case rel =>
            obtain ⟨o1, o2, o3, o4, o5⟩ := O.out
            exact ⟨k + 1, _, by omega, by go_num, o4, o3, o5, o1, o2⟩
          case measure => simp [intOf]; omega
    · obtain rfl : k = x.length := by omega
      rw [List.take_length] at hE
      have H := Lib.hid hbel
      clear hbel hzero hl
      go_wp2_with fail
      refine (trim_own _ w.heap.size _ _ _ P _ hown hok (by omega) hE).mono ?_
      rintro e w2 ⟨rfl, ho3, rfl⟩
      have O3 := Lib.hid ho3
      clear ho3 hown
      go_wp2
      go_ret
      exact ⟨_, rfl, O3.out, H.out⟩

end Go.Proofs.YtbeidpeoichakaaGreatDoor.fe

/- fraction: divWord. -/
namespace Go.Proofs.YtbeidpeoichakaaGreatDoor.ff
open Go.RowKit Go.Proofs.YtbeidpeoichakaaGreatDoor.fm Go.Proofs.YtbeidpeoichakaaGreatDoor.mem Go.Proofs.YtbeidpeoichakaaGreatDoor.fa Go.Proofs.YtbeidpeoichakaaGreatDoor.fb

theorem div_word (rest a b : Nat) (ha : a < 4294967296) (hb : 1 ≤ b) (hb2 : b < 4294967296) (hr : rest < b) :
    ∃ T Q R : Nat, bits .or .u64 ((rest : Int) * 4294967296) (a : Int) = (T : Int) ∧ (T : Int) / (b : Int) = (Q : Int) ∧ (T : Int) % (b : Int) = (R : Int) ∧ Q < 4294967296 ∧ R < b ∧ rest * 4294967296 + a = Q * b + R ∧ T < 18446744073709551616 := by
  refine ⟨a + 4294967296 * rest, (a + 4294967296 * rest) / b, (a + 4294967296 * rest) % b, or_join' a rest ha (by omega), by rw [Int.natCast_ediv], by rw [Int.natCast_emod], ?_, Nat.mod_lt _ hb, ?_, by omega⟩
  · rw [Nat.div_lt_iff_lt_mul hb]
    have : 4294967296 * (rest + 1) ≤ 4294967296 * b := Nat.mul_le_mul_left _ hr
    omega
  · have := Nat.div_add_mod (a + 4294967296 * rest) b
    rw [Nat.mul_comm b] at this
    omega

set_option maxRecDepth 100000 in
set_option maxHeartbeats 1000000 in
theorem divWord_any (w : World) (A : Option Addr) (c b : Nat) (x : List Nat) (h : Rd w w.heap.size A c x) (hb : 1 ≤ b) (hb2 : b < 4294967296) (hs : x.length ≤ 1000000) :
    Calls Tryz.prog 65 #[.slice A x.length c, .int .u32 (b : Int)] w fun e w' => ∃ v, e = .returned (.tuple #[v, .int .u32 ((val x % b : Nat) : Int)]) ∧ Owns w.heap.size w' v (digs (val x / b)) ∧ Below w.heap.size w w' := by
  obtain ⟨i0, hi, hz0, hz1, hz2⟩ := info_parts info_u32
  obtain ⟨n, hn⟩ : ∃ n, x.length = n := ⟨_, rfl⟩
  have hx := h.cells
  have ho := h.ok
  have Hx := Lib.hid (And.intro hn hx)
  rw [hn] at hs ⊢
  clear hx h hn
  go_enter Tryz.func65, Tryz.ntmps65
  go_wp2_with (refine wpList_make_full _ rfl _ _ 26 rfl w.heap.size 59 i0 _ 1 Tryz.underlying26 hi hz0 hz1 .i64 .i64 _ _ n rfl rfl rfl rfl (by rw [hz2]; omega) (by unfold maxLen; omega) (Nat.le_refl _) ?_; intro w1 hown hgrow)
  rw [zeros_made] at hown
  have hbel : Below w.heap.size w w1 := (Below.refl _ _).grown hgrow (Nat.le_refl _) (by simp)
  clear hgrow
  go_loopw [6, 7] (fun rv i wr => ∃ (k rest : Nat) (z : Int) (Q : List Nat), k ≤ n ∧ z = (k : Int) - 1 ∧ i = .int .i64 z ∧ rv = .int .u64 rest ∧ rest < b ∧ ok Q ∧ val (x.drop k) = val (Q.drop k) * b + rest ∧
        wr.ownsRow w.heap.size 59 1 (.slice (some ⟨w.heap.size, 0, none⟩) n n) n (ws Q) ∧ Below w.heap.size w wr)
      (fun _ i _ => (intOf i + 1).toNat)
  case atStart => exact ⟨n, 0, _, _, Nat.le_refl _, rfl, rfl, rfl, hb, ok_replicate n, by rw [List.drop_of_length_le (by rw [Hx.out.1]; exact Nat.le_refl _), List.drop_of_length_le (by simp)]; simp [val], hown, hbel⟩
  case round =>
    clear hown hbel
    obtain ⟨k, rest, z, Q, hk, hz, rfl, rfl, hrest, hok, hE, hown, hbel⟩ := hrel
    have hl := own_len hown
    rcases Nat.eq_zero_or_pos k with h0 | h0
    · subst h0
      obtain rfl : z = -1 := by omega
      simp only [List.drop_zero] at hE
      have hq : val Q = val x / b := by
        rw [hE, Nat.mul_comm, Nat.mul_add_div hb, Nat.div_eq_of_lt hrest, Nat.add_zero]
      have hr : rest = val x % b := by
        rw [hE, Nat.mul_comm, Nat.mul_add_mod, Nat.mod_eq_of_lt hrest]
      have H := Lib.hid (And.intro hr hbel)
      clear hr hbel hz hE hl hk
      have e1 : rest < 4294967296 := by omega
      go_wp2_with fail
      refine (trim_own _ w.heap.size _ _ _ Q _ hown hok (by omega) hq).mono ?_
      rintro e w2 ⟨rfl, ho3, rfl⟩
      have O3 := Lib.hid ho3
      clear ho3 hown hq
      go_wp2
      go_ret2
      exact ⟨_, by rw [← H.out.1]; rfl, O3.out, H.out.2⟩
    · obtain ⟨j, rfl⟩ : ∃ j, k = j + 1 := ⟨k - 1, by omega⟩
      obtain rfl : z = (j : Int) := by omega
      obtain ⟨b', off, rfl, hb', hc⟩ := Hx.out.2 (by rw [Hx.out.1]; omega)
      have c1 := (hbel.cell (p := ⟨b', off + j, none⟩) hb').trans (hc j (by rw [Hx.out.1]; omega))
      have c2 := own_cell hown j (by omega)
      have c3 := hown.frozenAt j
      obtain ⟨T, q, r, t1, t2, t3, hq, hr, heq, hT⟩ := div_word rest (x.getD j 0) b (ok_getD ho j) hb hb2 hrest
      have hst := div_step x Q j b rest q r (by rw [Hx.out.1]; omega) (by omega) heq hE
      have own2 := own_set hown j q (q : Int) rfl
      have bel2 := hbel.setCell (p := ⟨w.heap.size, j, none⟩) (Nat.le_refl _) (.int .u32 (q : Int))
      have O := Lib.hid (And.intro own2 (And.intro bel2 (And.intro hst (ok_set hok j hq))))
      have z0 : ((b : Int) == 0) = false := beq_eq_false_iff_ne.2 (by omega)
      have i1 : (j : Int) < (n : Int) := by omega
      have bx := ok_getD ho j
      clear own2 bel2 hst hown hbel hE hok hl hz heq hc
      generalize x.getD j 0 = xj at *
      go_wp2
      go_roundw
      case rel => exact ⟨j, r, (j : Int) - 1, _, by omega, rfl, rfl, congrArg (Value.int .u64) t3, hr, O.out.2.2.2, O.out.2.2.1, O.out.1, O.out.2.1⟩
      case measure => simp [intOf]

end Go.Proofs.YtbeidpeoichakaaGreatDoor.ff
