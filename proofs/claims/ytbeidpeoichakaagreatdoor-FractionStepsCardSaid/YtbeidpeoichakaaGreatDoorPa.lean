/- The reference: add, mul, and what is made of them. -/
import Derived.Test.YtbeidpeoichakaaGreatDoorJc
import Derived.Test.YtbeidpeoichakaaGreatDoorJh
set_option linter.unusedSimpArgs false
namespace Go.Proofs.YtbeidpeoichakaaGreatDoor.pa
open Go.RowKit Go.Proofs.YtbeidpeoichakaaGreatDoor.fm Go.Proofs.YtbeidpeoichakaaGreatDoor.mem Go.Proofs.YtbeidpeoichakaaGreatDoor.fa Go.Proofs.YtbeidpeoichakaaGreatDoor.fb Go.Proofs.YtbeidpeoichakaaGreatDoor.fe Go.Proofs.YtbeidpeoichakaaGreatDoor.fu Go.Proofs.YtbeidpeoichakaaGreatDoor.fv Go.Proofs.YtbeidpeoichakaaGreatDoor.fw Go.Proofs.YtbeidpeoichakaaGreatDoor.fy Go.Proofs.YtbeidpeoichakaaGreatDoor.fz Go.Proofs.YtbeidpeoichakaaGreatDoor.hh Go.Proofs.YtbeidpeoichakaaGreatDoor.ja Go.Proofs.YtbeidpeoichakaaGreatDoor.jb

set_option maxRecDepth 100000 in
set_option maxHeartbeats 4000000 in
theorem rmul_any (w : World) (A A' : Option Addr) (c c' : Nat) (x y : List Nat) (h : Rd w w.heap.size A c x) (h' : Rd w w.heap.size A' c' y) (hs : x.length ≤ 1000000) (hs' : y.length ≤ 1000000) :
    Calls Tryz.prog 37 #[.slice A x.length c, .slice A' y.length c'] w (Gives w (val x * val y)) := by
  obtain ⟨i0, hi, hz0, hz1, hz2⟩ := info_parts info_u32
  obtain ⟨n, hn⟩ : ∃ n, n = x.length + y.length := ⟨_, rfl⟩
  have hn' : ((x.length : Int) + (y.length : Int)) = (n : Int) := by omega
  have Hn := Lib.hid hn
  have Hn' := Lib.hid hn'
  have hn2 : n ≤ x.length + y.length := by omega
  have hn3 : x.length + y.length ≤ n := by omega
  clear hn hn'
  go_enter Tryz.func37, Tryz.ntmps37
  go_wp2_with (refine wpList_make_full _ rfl _ _ 26 rfl w.heap.size 59 i0 _ 1 Tryz.underlying26 hi hz0 hz1 .i64 .i64 _ _ n rfl rfl (by omega) (by omega) (by rw [hz2]; omega) (by unfold maxLen; omega) (Nat.le_refl _) ?_; intro w1 hown hgrow)
  rw [zeros_made] at hown
  have hbel : Below w.heap.size w w1 := (Below.refl _ _).grown hgrow (Nat.le_refl _) (by simp)
  clear hgrow
  go_loopw [6] (fun i wr => ∃ (k : Nat) (P : List Nat), k ≤ x.length ∧ i = .int .i64 k ∧ ok P ∧ val P = val (x.take k) * val y ∧ (∀ t, k + y.length ≤ t → P.getD t 0 = 0) ∧
        wr.ownsRow w.heap.size 59 1 (.slice (some ⟨w.heap.size, 0, none⟩) n n) n (ws P) ∧ Below w.heap.size w wr)
      (fun i _ => x.length - (intOf i).toNat)
  case atStart => exact ⟨0, _, Nat.zero_le _, rfl, ok_replicate _, by simp [val, val_replicate], fun t _ => by simp [List.getD_eq_getElem?_getD, List.getElem?_replicate]; split <;> rfl, hown, hbel⟩
  case round =>
    clear hown hbel
    obtain ⟨k, P, hk, rfl, hok, hE, hzero, hown, hbel⟩ := hrel
    have hl := own_len hown
    by_cases hkx : k < x.length
    · obtain ⟨b, off, rfl, hb, hc⟩ := h.cells (by omega)
      have c1 := hc k hkx
      have b1 := ok_getD h.ok k
      have hstep : val (x.take (k + 1)) = val (x.take k) + 4294967296 ^ k * x.getD k 0 := val_take_next x k
      have HS := Lib.hid (And.intro hstep (And.intro hE (And.intro hzero (And.intro hok hown))))
      have HB := Lib.hid hbel
      have Hc := Lib.hid c1
      clear hstep hE hc hzero hown hok hbel c1
      generalize x.getD k 0 = xk at *
      clear hl
      obtain ⟨wo, rfl⟩ : ∃ wo : World, wo = wr := ⟨_, rfl⟩
      go_wp2
      go_loopw [7, 8] (fun cv i wr => ∃ (j cc : Nat) (P' : List Nat), j ≤ y.length ∧ i = .int .i64 j ∧ cv = .int .u64 cc ∧ cc < 4294967296 ∧ ok P' ∧ val P' + 4294967296 ^ (k + j) * cc = val P + 4294967296 ^ k * (xk * val (y.take j)) ∧ (∀ t, k + y.length ≤ t → P'.getD t 0 = 0) ∧
          wr.ownsRow w.heap.size 59 1 (.slice (some ⟨w.heap.size, 0, none⟩) n n) n (ws P') ∧ Below w.heap.size w wr)
        (fun _ i _ => y.length - (intOf i).toNat)
      case atStart => exact ⟨0, 0, P, Nat.zero_le _, rfl, rfl, by decide, HS.out.2.2.2.1, by simp [val], HS.out.2.2.1, HS.out.2.2.2.2, HB.out⟩
      case round =>
        clear HB
        obtain ⟨j, cc, P', hj, rfl, rfl, hcc, hok', hE', hzero', hown, hbel⟩ := hrel
        have hl' := own_len hown
        by_cases hjy : j < y.length
        · obtain ⟨b', off', rfl, hb', hc'⟩ := h'.cells (by omega)
          have c1 := (hbel.cell (p := ⟨b, off + k, none⟩) hb).trans Hc.out
          have c2 := (hbel.cell (p := ⟨b', off' + j, none⟩) hb').trans (hc' j hjy)
          have c3 := own_cell hown (k + j) (by omega)
          have c4 := hown.frozenAt (k + j)
          have b2 := ok_getD h'.ok j
          have b3 := ok_getD hok' (k + j)
          obtain ⟨f1, f2, f3, f4, f5, f6⟩ := word_prod xk (y.getD j 0) (P'.getD (k + j) 0) cc b1 b2 b3 hcc
          have hst := mul_step y P' xk k j cc (val P) (by omega) hE'
          have hok2 := ok_set hok' (k + j) (Nat.mod_lt (cc + xk * y.getD j 0 + P'.getD (k + j) 0) (show 4294967296 > 0 by decide))
          have hz2' : ∀ t, k + y.length ≤ t → (P'.set (k + j) ((cc + xk * y.getD j 0 + P'.getD (k + j) 0) % 4294967296)).getD t 0 = 0 := fun t ht => by
            rw [fm.getD_set_ne _ _ _ _ (by omega)]; exact hzero' t ht
          have own2 := own_set hown (k + j) ((cc + xk * y.getD j 0 + P'.getD (k + j) 0) % 4294967296) (((cc : Int) + ((xk : Int) * (y.getD j 0 : Nat) + (P'.getD (k + j) 0 : Nat))) % 4294967296) (by omega)
          have bel2 := hbel.setCell (p := ⟨w.heap.size, k + j, none⟩) (Nat.le_refl _) (.int .u32 (((cc : Int) + ((xk : Int) * (y.getD j 0 : Nat) + (P'.getD (k + j) 0 : Nat))) % 4294967296))
          have O := Lib.hid (And.intro own2 (And.intro bel2 (And.intro hst (And.intro hok2 (And.intro hz2' (And.intro f1 f2))))))
          have i1 : (0 : Int) ≤ (k : Int) + (j : Int) := by omega
          have i2 : (k : Int) + (j : Int) < (n : Int) := by omega
          have i3 : IntKind.i64.wrap ((k : Int) + (j : Int)) = (k : Int) + (j : Int) := IntWalk.i64_in _ (by omega)
          have i4 : ((k : Int) + (j : Int)).toNat = k + j := by omega
          have i5 : (j : Int) < (y.length : Int) := by omega
          have i6 : (k : Int) < (x.length : Int) := by omega
          clear own2 bel2 hst hok2 hz2' f1 f2 hown hbel hE' hzero' hok' hc' hl' HS
          generalize y.getD j 0 = yj at *
          generalize P'.getD (k + j) 0 = pk at *
          go_wp2
          go_quiet (fail)
          go_wp2
          go_roundw
          case rel =>
            obtain ⟨o1, o2, o3, o4, o5, o6, o7⟩ := O.out
            exact ⟨j + 1, (cc + xk * yj + pk) / 4294967296, _, by omega, by go_num, congrArg (Value.int .u64) (by omega), o6, o4, o3, o5, o1, ⟨o2.os, o2.tape, o2.output, o2.size, o2.block⟩⟩
          case measure => simp [intOf]; omega
        · obtain rfl : j = y.length := by omega
          obtain ⟨hstep, hE, hz, hokP, _⟩ := HS.out
          have c3 := own_cell hown (k + y.length) (by omega)
          have c4 := hown.frozenAt (k + y.length)
          have i1 : (0 : Int) ≤ (k : Int) + (y.length : Int) := by omega
          have i2 : (k : Int) + (y.length : Int) < (n : Int) := by omega
          have i4 : ((k : Int) + (y.length : Int)).toNat = k + y.length := by omega
          have hv : val (P'.set (k + y.length) cc) = val (x.take (k + 1)) * val y := by
            have e1 := val_set P' (k + y.length) cc (by omega)
            rw [hzero' _ (Nat.le_refl _)] at e1
            rw [List.take_length] at hE'
            rw [hstep, Nat.add_mul, ← hE, Nat.mul_assoc]
            omega
          have own2 := own_set hown (k + y.length) cc (cc : Int) rfl
          have bel2 := hbel.setCell (p := ⟨w.heap.size, k + y.length, none⟩) (Nat.le_refl _) (.int .u32 (cc : Int))
          have hz2' : ∀ t, k + 1 + y.length ≤ t → (P'.set (k + y.length) cc).getD t 0 = 0 := fun t ht => by
            rw [fm.getD_set_ne _ _ _ _ (by omega)]; exact hzero' t (by omega)
          have O := Lib.hid (And.intro own2 (And.intro bel2 (And.intro hv (And.intro (ok_set hok' (k + y.length) hcc) hz2'))))
          clear own2 bel2 hv hz2' hstep hE hz hokP hE' hzero' hown hbel hok' HS hl'
          generalize P'.getD (k + y.length) 0 = pk at *
          go_wp2
          go_roundw
          case rel =>
            obtain ⟨o1, o2, o3, o4, o5⟩ := O.out
            exact ⟨k + 1, _, by omega, by go_num, o4, o3, o5, o1, o2⟩
          case measure => simp [intOf]; omega
    · obtain rfl : k = x.length := by omega
      rw [List.take_length] at hE
      obtain ⟨A5, c5, hv5, R5⟩ := own_rd (l := P) (by show wr.ownsRow _ _ 1 _ P.length (ws P); rw [show P.length = n from hl]; exact hown) hok
      have hf := own_fresh (l := P) (by show wr.ownsRow _ _ 1 _ P.length (ws P); rw [show P.length = n from hl]; exact hown)
      have hPn : P.length = n := hl
      have HV := Lib.hid (And.intro hE (And.intro (rd_trim R5) (And.intro hbel hf)))
      subst hPn
      obtain ⟨rfl, rfl⟩ : A5 = some ⟨w.heap.size, 0, none⟩ ∧ c5 = P.length := by
        simp only [Value.slice.injEq] at hv5
        exact ⟨hv5.1.symm, hv5.2.2.symm⟩
      clear hv5 hE hzero hown hbel hf hl
      go_wp2_with fail
      refine (rtrim_any wr _ _ _ P R5 (by omega)).mono ?_
      rintro _ _ ⟨rfl, rfl⟩
      rw [HV.out.1]
      go_wp2_with fail
      go_ret
      refine ⟨_, _, rfl, ?_, HV.out.2.2⟩
      rw [← HV.out.1]
      exact HV.out.2.1

theorem add_snoc (a b S : List Nat) (i r d r' : Nat) (hi : S.length = i) (hd : d + 4294967296 * r' = a.getD i 0 + b.getD i 0 + r)
    (E : val S + 4294967296 ^ i * r = val (a.take i) + val (b.take i)) :
    val (S ++ [d]) + 4294967296 ^ (i + 1) * r' = val (a.take (i + 1)) + val (b.take (i + 1)) := by
  rw [val_snoc, hi, val_take_next a, val_take_next b, Nat.pow_succ]
  generalize 4294967296 ^ i = p at *
  have h2 : p * (d + 4294967296 * r') = p * (a.getD i 0 + b.getD i 0 + r) := by rw [hd]
  rw [Nat.mul_add, Nat.mul_add, Nat.mul_add, ← Nat.mul_assoc] at h2
  omega

theorem carried (x r y : Nat) (hx : x < 4294967296) (hr : r ≤ 1) (hy : y < 4294967296) : ∃ d r' : Nat, d + 4294967296 * r' = x + y + r ∧ d < 4294967296 ∧ r' ≤ 1 :=
  ⟨(x + y + r) % 4294967296, (x + y + r) / 4294967296, by omega, by omega, by omega⟩

/-- What gives words of m, perhaps with zeros at the end. -/
def Lays (w : World) (m n : Nat) (e : Ending) (w' : World) : Prop := ∃ A c l, e = .returned (.slice A l.length c) ∧ val l = m ∧ l.length ≤ n ∧ Rd w' w'.heap.size A c l ∧ Below w.heap.size w w'

set_option maxRecDepth 100000 in
set_option maxHeartbeats 4000000 in
theorem radd_any (w : World) (A A' : Option Addr) (c c' m n L : Nat) (h : Rd w w.heap.size A c (digs m)) (h' : Rd w w.heap.size A' c' (digs n)) (hs : (digs m).length ≤ L) (hs' : (digs n).length ≤ L) (hL : L ≤ 1000000) :
    Calls Tryz.prog 73 #[.slice A (digs m).length c, .slice A' (digs n).length c'] w (Lays w (m + n) (L + 1)) := by
  obtain ⟨i0, hi, hz0, hz1, hz2⟩ := info_parts info_u32
  go_enter Tryz.func73, Tryz.ntmps73
  go_wp2_with fail
  obtain ⟨a, ha⟩ : ∃ a, a = digs m := ⟨_, rfl⟩
  obtain ⟨b, hb⟩ : ∃ b, b = digs n := ⟨_, rfl⟩
  rw [← ha] at h hs ⊢
  rw [← hb] at h' hs' ⊢
  have HAB := Lib.hid (And.intro ha hb)
  clear ha hb
  go_loopw [5, 6, 7] (fun s5 s6 s7 wr => ∃ (k r : Nat) (S : List Nat), k ≤ L ∧ s7 = .int .i64 (k : Int) ∧ s6 = .int .u64 (r : Int) ∧ r ≤ 1 ∧ S.length = k ∧ ok S ∧ Hid (val S + 4294967296 ^ k * r = val (a.take k) + val (b.take k)) ∧
      Owns w.heap.size wr s5 S ∧ Below w.heap.size w wr) (fun _ _ s7 _ => L - (intOf s7).toNat)
  case atStart => exact ⟨0, 0, [], Nat.zero_le _, rfl, rfl, by decide, rfl, ok_nil, Lib.hid (by simp [val]), own_nil _ _, Below.refl _ _⟩
  case round =>
    obtain ⟨k, r, S, hk, rfl, rfl, hr, hSl, hok, hE, hown, hbel⟩ := hrel
    have b1 := ok_getD h.ok k
    have b2 := ok_getD h'.ok k
    have HO := Lib.hid (And.intro hown (And.intro hok hbel))
    have HE := Lib.hid (And.intro hSl hE.out)
    clear hown hok hbel hSl hE
    obtain ⟨xk, hxk⟩ : ∃ xk, xk = a.getD k 0 := ⟨_, rfl⟩
    obtain ⟨yk, hyk⟩ : ∃ yk, yk = b.getD k 0 := ⟨_, rfl⟩
    rw [← hxk] at b1
    rw [← hyk] at b2
    have HXY := Lib.hid (And.intro hxk hyk)
    by_cases hka : k < a.length
    · by_cases hkb : k < b.length
      · obtain ⟨ab, aoff, rfl, hab, hac⟩ := h.cells (by omega)
        have c1 := (HO.out.2.2.cell (p := ⟨ab, aoff + k, none⟩) hab).trans (hac k hka)
        rw [← hxk] at c1
        have hkz : (k : Int) < (a.length : Int) := by omega
        clear hac
        obtain ⟨bb, boff, rfl, hbb, hbc⟩ := h'.cells (by omega)
        have c2 := (HO.out.2.2.cell (p := ⟨bb, boff + k, none⟩) hbb).trans (hbc k hkb)
        rw [← hyk] at c2
        have hkz2 : (k : Int) < (b.length : Int) := by omega
        clear hbc
        clear hxk hyk
        obtain ⟨d, r', hd, hdl, hr'⟩ := carried xk r yk b1 hr b2
        have e1 : ((r : Int) + (xk : Int) + (yk : Int)) % 4294967296 = (d : Int) := by omega
        have e2 : ((r : Int) + (xk : Int) + (yk : Int)) / 4294967296 = (r' : Int) := by omega
        have HD := Lib.hid (And.intro hd (And.intro hdl hr'))
        clear hd hdl hr'
        go_wp2_with (first
          | (at_builtin; refine wpList_append_lies _ rfl _ _ 26 rfl w.heap.size 59 i0 (.int .u32 0) 1 4 Tryz.underlying26 hi hz0 hz1 hz2 rfl (by decide) _ S.length (ws S) rfl (own_alloc HO.out.1 _) ⟨wr.heap.size, 0, none⟩ 1 1 [.int .u32 (d : Int)] rfl rfl (cell_one_new _ _ _) (fun u hu => by simp at hu; subst hu; rfl) (by decide) (by have := HE.out.1; unfold maxLen; omega) (by have := HE.out.1; omega) (by have := HO.out.2.2.size; simp; omega) _ rfl ?_; intro gg cap w6 hown6 hgrow hat hlt6))
        obtain ⟨o6, b6⟩ := pushed HO.out.1 HO.out.2.2.size hown6 hgrow
        have H6 := Lib.hid (And.intro o6 (HO.out.2.2.trans b6))
        clear hown6 hgrow hat hlt6 o6 b6
        exact ⟨⟨k + 1, r', S ++ [d], by omega, by go_num, rfl, HD.out.2.2, by rw [List.length_append, HE.out.1]; rfl, ok_append.2 ⟨HO.out.2.1, by intro u hu; simp at hu; rw [hu]; exact HD.out.2.1⟩,
          Lib.hid (add_snoc a b S k r d r' HE.out.1 (by rw [← HXY.out.1, ← HXY.out.2]; exact HD.out.1) HE.out.2), H6.out.1, H6.out.2⟩, by simp [intOf]; omega⟩
      · obtain ⟨ab, aoff, rfl, hab, hac⟩ := h.cells (by omega)
        have c1 := (HO.out.2.2.cell (p := ⟨ab, aoff + k, none⟩) hab).trans (hac k hka)
        rw [← hxk] at c1
        have hkz : (k : Int) < (a.length : Int) := by omega
        clear hac
        have hkz2 : ¬ (k : Int) < (b.length : Int) := by omega
        have hy0 : yk = 0 := by rw [hyk]; exact getD_ge (by omega)
        clear hxk hyk
        obtain ⟨d, r', hd, hdl, hr'⟩ := carried xk r yk b1 hr b2
        have e1 : ((r : Int) + (xk : Int)) % 4294967296 = (d : Int) := by omega
        have e2 : ((r : Int) + (xk : Int)) / 4294967296 = (r' : Int) := by omega
        have HD := Lib.hid (And.intro hd (And.intro hdl hr'))
        clear hd hdl hr' hy0
        go_wp2_with (first
          | (at_builtin; refine wpList_append_lies _ rfl _ _ 26 rfl w.heap.size 59 i0 (.int .u32 0) 1 4 Tryz.underlying26 hi hz0 hz1 hz2 rfl (by decide) _ S.length (ws S) rfl (own_alloc HO.out.1 _) ⟨wr.heap.size, 0, none⟩ 1 1 [.int .u32 (d : Int)] rfl rfl (cell_one_new _ _ _) (fun u hu => by simp at hu; subst hu; rfl) (by decide) (by have := HE.out.1; unfold maxLen; omega) (by have := HE.out.1; omega) (by have := HO.out.2.2.size; simp; omega) _ rfl ?_; intro gg cap w6 hown6 hgrow hat hlt6))
        obtain ⟨o6, b6⟩ := pushed HO.out.1 HO.out.2.2.size hown6 hgrow
        have H6 := Lib.hid (And.intro o6 (HO.out.2.2.trans b6))
        clear hown6 hgrow hat hlt6 o6 b6
        exact ⟨⟨k + 1, r', S ++ [d], by omega, by go_num, rfl, HD.out.2.2, by rw [List.length_append, HE.out.1]; rfl, ok_append.2 ⟨HO.out.2.1, by intro u hu; simp at hu; rw [hu]; exact HD.out.2.1⟩,
          Lib.hid (add_snoc a b S k r d r' HE.out.1 (by rw [← HXY.out.1, ← HXY.out.2]; exact HD.out.1) HE.out.2), H6.out.1, H6.out.2⟩, by simp [intOf]; omega⟩
    · by_cases hkb : k < b.length
      · have hkz : ¬ (k : Int) < (a.length : Int) := by omega
        obtain ⟨bb, boff, rfl, hbb, hbc⟩ := h'.cells (by omega)
        have c2 := (HO.out.2.2.cell (p := ⟨bb, boff + k, none⟩) hbb).trans (hbc k hkb)
        rw [← hyk] at c2
        have hkz2 : (k : Int) < (b.length : Int) := by omega
        clear hbc
        have hx0 : xk = 0 := by rw [hxk]; exact getD_ge (by omega)
        clear hxk hyk
        obtain ⟨d, r', hd, hdl, hr'⟩ := carried xk r yk b1 hr b2
        have e1 : ((r : Int) + (yk : Int)) % 4294967296 = (d : Int) := by omega
        have e2 : ((r : Int) + (yk : Int)) / 4294967296 = (r' : Int) := by omega
        have HD := Lib.hid (And.intro hd (And.intro hdl hr'))
        clear hd hdl hr' hx0
        go_wp2_with (first
          | (at_builtin; refine wpList_append_lies _ rfl _ _ 26 rfl w.heap.size 59 i0 (.int .u32 0) 1 4 Tryz.underlying26 hi hz0 hz1 hz2 rfl (by decide) _ S.length (ws S) rfl (own_alloc HO.out.1 _) ⟨wr.heap.size, 0, none⟩ 1 1 [.int .u32 (d : Int)] rfl rfl (cell_one_new _ _ _) (fun u hu => by simp at hu; subst hu; rfl) (by decide) (by have := HE.out.1; unfold maxLen; omega) (by have := HE.out.1; omega) (by have := HO.out.2.2.size; simp; omega) _ rfl ?_; intro gg cap w6 hown6 hgrow hat hlt6))
        obtain ⟨o6, b6⟩ := pushed HO.out.1 HO.out.2.2.size hown6 hgrow
        have H6 := Lib.hid (And.intro o6 (HO.out.2.2.trans b6))
        clear hown6 hgrow hat hlt6 o6 b6
        exact ⟨⟨k + 1, r', S ++ [d], by omega, by go_num, rfl, HD.out.2.2, by rw [List.length_append, HE.out.1]; rfl, ok_append.2 ⟨HO.out.2.1, by intro u hu; simp at hu; rw [hu]; exact HD.out.2.1⟩,
          Lib.hid (add_snoc a b S k r d r' HE.out.1 (by rw [← HXY.out.1, ← HXY.out.2]; exact HD.out.1) HE.out.2), H6.out.1, H6.out.2⟩, by simp [intOf]; omega⟩
      · have hkz : ¬ (k : Int) < (a.length : Int) := by omega
        have hkz2 : ¬ (k : Int) < (b.length : Int) := by omega
        have hE2 := HE.out.2
        rw [List.take_of_length_le (by omega), List.take_of_length_le (by omega), HAB.out.1, HAB.out.2, val_digs, val_digs] at hE2
        have e1 : (r : Int) % 4294967296 = (r : Int) := by omega
        have HV := Lib.hid hE2
        have hSl := HE.out.1
        clear hxk hyk b1 b2 hE2
        go_wp2_with (first
          | (at_builtin; refine wpList_append_lies _ rfl _ _ 26 rfl w.heap.size 59 i0 (.int .u32 0) 1 4 Tryz.underlying26 hi hz0 hz1 hz2 rfl (by decide) _ S.length (ws S) rfl (own_alloc HO.out.1 _) ⟨wr.heap.size, 0, none⟩ 1 1 [.int .u32 (r : Int)] rfl rfl (cell_one_new _ _ _) (fun u hu => by simp at hu; subst hu; rfl) (by decide) (by have := HE.out.1; unfold maxLen; omega) (by have := HE.out.1; omega) (by have := HO.out.2.2.size; simp; omega) _ rfl ?_; intro gg cap w6 hown6 hgrow hat hlt6))
        obtain ⟨o6, b6⟩ := pushed HO.out.1 HO.out.2.2.size hown6 hgrow
        obtain ⟨A5, c5, e5, R5⟩ := own_rd o6 (ok_append.2 ⟨HO.out.2.1, by intro u hu; simp at hu; rw [hu]; omega⟩)
        have H6 := Lib.hid (And.intro R5 (HO.out.2.2.trans b6))
        rw [hSl] at e5
        have hl7 : (S ++ [r]).length = S.length + 1 := by rw [List.length_append]; rfl
        clear hown6 hgrow hat hlt6 o6 b6 R5
        (try go_ret)
        refine ⟨A5, c5, S ++ [r], congrArg Ending.returned e5, ?_, by rw [hl7]; omega, H6.out.1, H6.out.2⟩
        rw [val_snoc, hSl]
        exact HV.out

end Go.Proofs.YtbeidpeoichakaaGreatDoor.pa
