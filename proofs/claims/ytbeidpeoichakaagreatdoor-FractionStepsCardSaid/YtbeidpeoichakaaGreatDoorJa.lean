/- The reference: trim, big, cmp. -/
import Derived.Test.YtbeidpeoichakaaGreatDoorFy
import Derived.Test.YtbeidpeoichakaaGreatDoorHh
set_option linter.unusedSimpArgs false
namespace Go.Proofs.YtbeidpeoichakaaGreatDoor.ja
open Go.RowKit Go.Proofs.YtbeidpeoichakaaGreatDoor.fm Go.Proofs.YtbeidpeoichakaaGreatDoor.mem Go.Proofs.YtbeidpeoichakaaGreatDoor.fa Go.Proofs.YtbeidpeoichakaaGreatDoor.fb Go.Proofs.YtbeidpeoichakaaGreatDoor.fu Go.Proofs.YtbeidpeoichakaaGreatDoor.fv Go.Proofs.YtbeidpeoichakaaGreatDoor.fw Go.Proofs.YtbeidpeoichakaaGreatDoor.fy Go.Proofs.YtbeidpeoichakaaGreatDoor.fz

/-- An address from block B on. -/
def Fresh (B : Nat) (A : Option Addr) : Prop := ∀ b off, A = some ⟨b, off, none⟩ → B ≤ b

theorem own_fresh {base : Nat} {w : World} {A : Option Addr} {n c : Nat} {l : List Nat} (h : Owns base w (.slice A n c) l) : Fresh base A := fun b off e => by
  subst e
  exact (h.lt b rfl).1

/-- What gives the words of m. -/
def Gives (w : World) (m : Nat) (e : Ending) (w' : World) : Prop := ∃ A c, e = .returned (.slice A (digs m).length c) ∧ Rd w' w'.heap.size A c (digs m) ∧ Below w.heap.size w w' ∧ Fresh w.heap.size A

set_option maxRecDepth 100000 in
set_option maxHeartbeats 400000 in
theorem rtrim_any (w : World) (B : Nat) (A : Option Addr) (c : Nat) (l : List Nat) (h : Rd w B A c l) (hs : l.length ≤ 100000000) :
    Calls Tryz.prog 67 #[.slice A l.length c] w fun e w' => e = .returned (.slice A (digs (val l)).length c) ∧ w = w' := by
  have hfit := h.fit
  go_enter Tryz.func67, Tryz.ntmps67
  go_wp2
  go_loop [0] (fun v => ∃ k : Nat, k ≤ l.length ∧ v = .slice A k c ∧ val (l.take k) = val l) (fun v => match v with | .slice _ k _ => k | _ => 0)
  case atStart => exact ⟨l.length, Nat.le_refl _, rfl, by rw [List.take_length]⟩
  case round =>
    obtain ⟨k, hk, rfl, hv⟩ := hrel
    have Hv := Lib.hid hv
    clear hv
    by_cases h0 : k = 0
    · subst h0
      go_wp2
      go_ret
      have e := trim_len h.ok hk Hv.out (.inl rfl)
      exact ⟨by rw [e]; rfl, rfl⟩
    · obtain ⟨j, rfl⟩ : ∃ j, k = j + 1 := ⟨k - 1, by omega⟩
      obtain ⟨b, off, rfl, hb, hc⟩ := h.cells (by omega)
      have hcj := hc j (by omega)
      have Hc := Lib.hid hc
      have i1 : ((j + 1 : Nat) : Int) - 1 = (j : Int) := by omega
      clear hc
      by_cases hz : l.getD j 0 = 0
      · rw [hz] at hcj
        go_wp2
        go_round
        case rel =>
          refine ⟨j, by omega, rfl, ?_⟩
          have := Hv.out
          rw [val_take_next, hz] at this
          simpa using this
        case measure => simp
      · have hx : (((l.getD j 0 : Nat) : Int) == 0) = false := beq_eq_false_iff_ne.2 (by omega)
        have e := trim_len h.ok hk Hv.out (.inr hz)
        have He := Lib.hid e
        clear e hz
        generalize l.getD j 0 = x at *
        go_wp2
        go_ret
        exact ⟨by rw [He.out]; rfl, rfl⟩

theorem rd_trim {w : World} {B : Nat} {A : Option Addr} {c : Nat} {l : List Nat} (R : Rd w B A c l) : Rd w B A c (digs (val l)) := by
  rw [digs_take R.ok]
  exact R.cut _

set_option maxRecDepth 100000 in
set_option maxHeartbeats 1000000 in
theorem rbig_any (w : World) (neg : Bool) (A : Option Addr) (c : Nat) (l : List Nat) (R : Rd w w.heap.size A c l) (hs : l.length ≤ 100000000) :
    Calls Tryz.prog 36 #[.bool neg, .slice A l.length c] w fun e w' => ∃ v, e = .returned v ∧ IsBig w' v (sgnd neg (val l)) ∧ Below w.heap.size w w' := by
  go_enter Tryz.func36, Tryz.ntmps36
  have hA := box1_made w
  have R1 := (R.below hA.bel).more hA.bel.size
  go_wp2_with fail
  refine (rtrim_any _ _ A c l R1 hs).mono ?_
  rintro _ _ ⟨rfl, rfl⟩
  have R2 := rd_trim R1
  obtain ⟨m, hm⟩ : ∃ m, val l = m := ⟨_, rfl⟩
  rw [hm] at R2 ⊢
  by_cases h0 : m = 0
  · subst h0
    have hz : (digs 0).length = 0 := rfl
    rw [hz]
    have HM := Lib.hid hm
    clear hz hm
    cases neg with
    | false =>
      go_wp2_with fail
      go_returns
      refine ⟨_, rfl, ⟨A, c, ?_, ?_⟩, (Below.refl _ _).alloc (Nat.le_refl _) _⟩
      · rw [HM.out, sgnd_zero, show (0 : Int).natAbs = 0 from rfl, digs_zero]; rfl
      · rw [HM.out, sgnd_zero, show (0 : Int).natAbs = 0 from rfl, digs_zero]; exact Rd.nil _ _ _ _
    | true =>
      go_wp2_with fail
      go_returns
      refine ⟨_, rfl, ⟨A, c, ?_, ?_⟩, (Below.refl _ _).alloc (Nat.le_refl _) _⟩
      · rw [HM.out, sgnd_zero, show (0 : Int).natAbs = 0 from rfl, digs_zero]; rfl
      · rw [HM.out, sgnd_zero, show (0 : Int).natAbs = 0 from rfl, digs_zero]; exact Rd.nil _ _ _ _
  · have hz : 0 < (digs m).length := by have : (digs m).length ≠ 0 := fun e => h0 (digs_len_zero.1 e); omega
    have hz2 : (0 : Int) < ((digs m).length : Int) := by omega
    have HM := Lib.hid (And.intro hm h0)
    clear hm h0
    cases neg with
    | false =>
      go_wp2_with fail
      go_returns
      have hb : Below w.heap.size w (w.alloc (.cells #[.bool false, .slice A (digs m).length c] 28)) := (Below.refl _ _).alloc (Nat.le_refl _) _
      refine ⟨_, rfl, ⟨A, c, ?_, ?_⟩, hb⟩
      · rw [HM.out.1, sgnd_abs, sgnd_neg false m HM.out.2]
      · have := rd_trim ((R.below hb).more hb.size); rw [sgnd_abs]; exact this
    | true =>
      go_wp2_with fail
      go_returns
      have hb : Below w.heap.size w (w.alloc (.cells #[.bool true, .slice A (digs m).length c] 28)) := (Below.refl _ _).alloc (Nat.le_refl _) _
      refine ⟨_, rfl, ⟨A, c, ?_, ?_⟩, hb⟩
      · rw [HM.out.1, sgnd_abs, sgnd_neg true m HM.out.2]
      · have := rd_trim ((R.below hb).more hb.size); rw [sgnd_abs]; exact this

set_option maxRecDepth 100000 in
set_option maxHeartbeats 1000000 in
theorem rcmp_any (w : World) (B : Nat) (A A' : Option Addr) (c c' : Nat) (m n : Nat) (h : Rd w B A c (digs m)) (h' : Rd w B A' c' (digs n)) (hs : (digs m).length ≤ 100000000) (hs' : (digs n).length ≤ 100000000) :
    Calls Tryz.prog 53 #[.slice A (digs m).length c, .slice A' (digs n).length c'] w fun e w' => e = .returned (.int .i64 (fb.cmp m n)) ∧ ∃ k, w' = w.drewN k := by
  by_cases hl : (digs m).length = (digs n).length
  · have hl2 : (((digs m).length : Int) != (digs n).length) = false := by rw [hl]; simp
    go_enter Tryz.func53, Tryz.ntmps53
    go_wp2
    go_loopw [5] (fun i wr => ∃ (k : Nat) (z : Int), k ≤ (digs n).length ∧ z = (k : Int) - 1 ∧ i = .int .i64 z ∧ val ((digs m).drop k) = val ((digs n).drop k) ∧ ∃ q, wr = w.drewN q)
      (fun i _ => (intOf i + 1).toNat)
    case atStart => exact ⟨(digs n).length, _, Nat.le_refl _, rfl, rfl, by rw [List.drop_of_length_le (by omega), List.drop_of_length_le (by omega)], 0, rfl⟩
    case round =>
      obtain ⟨k, z, hk, hz, rfl, hv, q, rfl⟩ := hrel
      rcases Nat.eq_zero_or_pos k with h0 | h0
      · subst h0
        obtain rfl : z = -1 := by omega
        simp only [List.drop_zero, val_digs] at hv
        subst hv
        have He := Lib.hid (show fb.cmp m m = 0 by simp [fb.cmp])
        clear hz hl hk
        go_wp2
        go_ret
        exact ⟨ret_int He.out.symm, q, rfl⟩
      · obtain ⟨j, rfl⟩ : ∃ j, k = j + 1 := ⟨k - 1, by omega⟩
        obtain rfl : z = (j : Int) := by omega
        obtain ⟨b, off, rfl, hb, hc⟩ := h.cells (by omega)
        obtain ⟨b', off', rfl, hb', hc'⟩ := h'.cells (by omega)
        have c1 := hc j (by omega)
        have c2 := hc' j (by omega)
        have L1 : (digs m).getD j 0 < (digs n).getD j 0 → fb.cmp m n = -1 := fun hlt => by
          have := cmp_at (ok_digs m) (by omega) (by omega) hv hl hlt
          rw [val_digs, val_digs] at this
          unfold fb.cmp; rw [if_pos this]
        have L2 : (digs n).getD j 0 < (digs m).getD j 0 → fb.cmp m n = 1 := fun hlt => by
          have := cmp_at (ok_digs n) (by omega) (by omega) hv.symm hl.symm hlt
          rw [val_digs, val_digs] at this
          unfold fb.cmp; rw [if_neg (by omega), if_pos this]
        have L3 : (digs m).getD j 0 = (digs n).getD j 0 → val ((digs m).drop j) = val ((digs n).drop j) := fun he => by
          rw [val_drop _ j (by omega), val_drop _ j (by omega), he, hv]
        have i1 : (j : Int) < ((digs n).length : Int) := by omega
        have i1' : (j : Int) < ((digs m).length : Int) := by omega
        have i2 : (0 : Int) ≤ (j : Int) := by omega
        have i3 : j < (digs n).length := by omega
        have i3' : j < (digs m).length := by omega
        clear hc hc' hz hv hk
        generalize (digs m).getD j 0 = x at *
        generalize (digs n).getD j 0 = y at *
        rcases (show x < y ∨ y < x ∨ x = y by omega) with hlt | hlt | he
        · have e := L1 hlt
          have d1 : decide ((x : Int) < (y : Int)) = true := by simp; omega
          have He := Lib.hid e
          clear L1 L2 L3 e
          go_wp2
          go_quiet (fail)
          go_wp2
          go_ret
          exact ⟨ret_int He.out.symm, _, World.drewN_drewN _ _ _⟩
        · have e := L2 hlt
          have d1 : decide ((x : Int) < (y : Int)) = false := by simp; omega
          have d2 : decide ((y : Int) < (x : Int)) = true := by simp; omega
          have He := Lib.hid e
          clear L1 L2 L3 e
          go_wp2
          go_quiet (fail)
          go_wp2
          go_quiet (fail)
          go_wp2
          go_ret
          exact ⟨ret_int He.out.symm, _, (World.drewN_drewN _ _ _).trans (World.drewN_drewN _ _ _)⟩
        · have e := L3 he
          subst he
          clear L1 L2 L3
          have Hv := Lib.hid e
          clear e
          go_wp2
          go_quiet (fail)
          go_wp2
          go_quiet (fail)
          go_wp2
          go_roundw
          case rel => exact ⟨j, (j : Int) - 1, by omega, rfl, rfl, Hv.out, _, rfl⟩
          case measure => simp [intOf]
  · have hl2 : (((digs m).length : Int) != (digs n).length) = true := by rw [bne_iff_ne]; omega
    rcases Nat.lt_or_ge (digs m).length (digs n).length with hlt | hge
    · have : m < n := Nat.lt_of_not_le fun hle => by have := len_mono hle; omega
      have He := Lib.hid (show fb.cmp m n = -1 by unfold fb.cmp; rw [if_pos this])
      have d1 : decide (((digs m).length : Int) < ((digs n).length : Int)) = true := by simp; omega
      clear this
      generalize (digs m).length = x at *
      generalize (digs n).length = y at *
      go_enter Tryz.func53, Tryz.ntmps53
      go_wp2_with fail
      go_ret
      exact ⟨ret_int He.out.symm, 0, rfl⟩
    · have : n < m := Nat.lt_of_not_le fun hle => by have := len_mono hle; omega
      have He := Lib.hid (show fb.cmp m n = 1 by unfold fb.cmp; rw [if_neg (by omega), if_pos this])
      have d1 : decide (((digs m).length : Int) < ((digs n).length : Int)) = false := by simp; omega
      clear this
      generalize (digs m).length = x at *
      generalize (digs n).length = y at *
      go_enter Tryz.func53, Tryz.ntmps53
      go_wp2_with fail
      go_ret
      exact ⟨ret_int He.out.symm, 0, rfl⟩

end Go.Proofs.YtbeidpeoichakaaGreatDoor.ja

/- The reference: sub, twice, bit. -/
set_option linter.unusedSimpArgs false
namespace Go.Proofs.YtbeidpeoichakaaGreatDoor.jb
open Go.RowKit Go.Proofs.YtbeidpeoichakaaGreatDoor.fm Go.Proofs.YtbeidpeoichakaaGreatDoor.mem Go.Proofs.YtbeidpeoichakaaGreatDoor.fa Go.Proofs.YtbeidpeoichakaaGreatDoor.fb Go.Proofs.YtbeidpeoichakaaGreatDoor.fu Go.Proofs.YtbeidpeoichakaaGreatDoor.fv Go.Proofs.YtbeidpeoichakaaGreatDoor.fy Go.Proofs.YtbeidpeoichakaaGreatDoor.fz Go.Proofs.YtbeidpeoichakaaGreatDoor.hh Go.Proofs.YtbeidpeoichakaaGreatDoor.ja

/-- one word more -/
theorem pushed {base : Nat} {W w6 : World} {v : Value} {S : List Nat} {y gg cap : Nat} (own : Owns base W v S) (hb : base ≤ W.heap.size)
    (hown6 : w6.ownsRow base 59 1 (.slice (some ⟨gg, 0, none⟩) (S.length + 1) cap) (S.length + 1) (ws S ++ [.int .u32 (y : Int)])) (hgrow : (W.alloc (.cells #[.int .u32 (y : Int)] 59)).grownBy w6 v.ownBlock) :
    Owns base w6 (.slice (some ⟨gg, 0, none⟩) (S.length + 1) cap) (S ++ [y]) ∧ Below base W w6 := by
  have h1 : Below base W (W.alloc (.cells #[.int .u32 (y : Int)] 59)) := (Below.refl _ _).alloc hb _
  have h2 : Below base (W.alloc (.cells #[.int .u32 (y : Int)] 59)) w6 := (Below.refl _ _).grown hgrow (by simp; omega) (fun j hj => ((own_alloc own (.cells #[.int .u32 (y : Int)] 59)).lt j hj).1)
  refine ⟨?_, h1.trans h2⟩
  show w6.ownsRow _ _ 1 _ (S ++ [y]).length (ws (S ++ [y]))
  rw [ws_append, List.length_append]
  exact hown6

theorem own_nil (base : Nat) (w : World) : Owns base w (.slice none 0 0) [] := ⟨rfl, Or.inl ⟨rfl, rfl⟩⟩

theorem sub_snoc (a b S : List Nat) (i r d r' : Nat) (hi : S.length = i) (hd : d + b.getD i 0 + r = a.getD i 0 + 4294967296 * r')
    (E : val S + val (b.take i) = val (a.take i) + 4294967296 ^ i * r) :
    val (S ++ [d]) + val (b.take (i + 1)) = val (a.take (i + 1)) + 4294967296 ^ (i + 1) * r' := by
  rw [val_snoc, hi, val_take_next a, val_take_next b, Nat.pow_succ]
  generalize 4294967296 ^ i = p at *
  have h2 : p * (d + b.getD i 0 + r) = p * (a.getD i 0 + 4294967296 * r') := by rw [hd]
  rw [Nat.mul_add, Nat.mul_add, Nat.mul_add, ← Nat.mul_assoc] at h2
  omega

theorem borrowed (x r y : Nat) (hx : x < 4294967296) (hr : r ≤ 1) (hy : y < 4294967296) : ∃ d r' : Nat, d + y + r = x + 4294967296 * r' ∧ d < 4294967296 ∧ r' ≤ 1 := by
  by_cases h : y + r ≤ x
  · exact ⟨x - y - r, 0, by omega, by omega, by omega⟩
  · exact ⟨x + 4294967296 - y - r, 1, by omega, by omega, by omega⟩

set_option maxRecDepth 100000 in
set_option maxHeartbeats 2000000 in
theorem rsub_any (w : World) (A A' : Option Addr) (c c' m n : Nat) (h : Rd w w.heap.size A c (digs m)) (h' : Rd w w.heap.size A' c' (digs n)) (hle : n ≤ m) (hs : (digs m).length ≤ 1000000) :
    Calls Tryz.prog 74 #[.slice A (digs m).length c, .slice A' (digs n).length c'] w (Gives w (m - n)) := by
  obtain ⟨i0, hi, hz0, hz1, hz2⟩ := info_parts info_u32
  have hs' : (digs n).length ≤ (digs m).length := len_mono hle
  go_enter Tryz.func74, Tryz.ntmps74
  go_wp2_with fail
  obtain ⟨a, ha⟩ : ∃ a, a = digs m := ⟨_, rfl⟩
  obtain ⟨b, hb⟩ : ∃ b, b = digs n := ⟨_, rfl⟩
  rw [← ha] at h hs hs' ⊢
  rw [← hb] at h' hs' ⊢
  have HAB := Lib.hid (And.intro ha hb)
  clear ha hb
  go_loopw [5, 6, 7] (fun s5 s6 s7 wr => ∃ (k r : Nat) (S : List Nat), k ≤ a.length ∧ s7 = .int .i64 (k : Int) ∧ s6 = .int .i64 (-(r : Int)) ∧ r ≤ 1 ∧ S.length = k ∧ ok S ∧ Hid (val S + val (b.take k) = val (a.take k) + 4294967296 ^ k * r) ∧
      Owns w.heap.size wr s5 S ∧ Below w.heap.size w wr) (fun _ _ s7 _ => a.length - (intOf s7).toNat)
  case atStart => exact ⟨0, 0, [], Nat.zero_le _, rfl, rfl, by decide, rfl, ok_nil, Lib.hid (by simp [val]), own_nil _ _, Below.refl _ _⟩
  case round =>
    obtain ⟨k, r, S, hk, rfl, rfl, hr, hSl, hok, hE, hown, hbel⟩ := hrel
    by_cases hka : k < a.length
    · obtain ⟨ab, aoff, rfl, hab, hac⟩ := h.cells (by omega)
      have c1 := (hbel.cell (p := ⟨ab, aoff + k, none⟩) hab).trans (hac k hka)
      have b1 := ok_getD h.ok k
      have b2 := ok_getD h'.ok k
      have hkz : (k : Int) < (a.length : Int) := by omega
      have HO := Lib.hid (And.intro hown (And.intro hok hbel))
      have HE := Lib.hid (And.intro hSl hE.out)
      clear hac hown hok hbel hSl hE
      obtain ⟨xk, hxk⟩ : ∃ xk, xk = a.getD k 0 := ⟨_, rfl⟩
      obtain ⟨yk, hyk⟩ : ∃ yk, yk = b.getD k 0 := ⟨_, rfl⟩
      rw [← hxk] at c1 b1
      rw [← hyk] at b2
      have HXY := Lib.hid (And.intro hxk hyk)
      clear hxk
      by_cases hkb : k < b.length
      · obtain ⟨bb, boff, rfl, hbb, hbc⟩ := h'.cells (by omega)
        have c2 := (HO.out.2.2.cell (p := ⟨bb, boff + k, none⟩) hbb).trans (hbc k hkb)
        rw [← hyk] at c2
        have hkz2 : (k : Int) < (b.length : Int) := by omega
        clear hbc hyk
        obtain ⟨d, r', hd, hdl, hr'⟩ := borrowed xk r yk b1 hr b2
        have e1 : (-(r : Int) + (xk : Int) - (yk : Int)) % 4294967296 = (d : Int) := by omega
        have e2 : (-(r : Int) + (xk : Int) - (yk : Int)) / 4294967296 = -(r' : Int) := by omega
        have HD := Lib.hid (And.intro hd (And.intro hdl hr'))
        clear hd hdl hr'
        go_wp2_with (first
          | (at_builtin; refine wpList_append_lies _ rfl _ _ 26 rfl w.heap.size 59 i0 (.int .u32 0) 1 4 Tryz.underlying26 hi hz0 hz1 hz2 rfl (by decide) _ S.length (ws S) rfl (own_alloc HO.out.1 _) ⟨wr.heap.size, 0, none⟩ 1 1 [.int .u32 (d : Int)] rfl rfl (cell_one_new _ _ _) (fun u hu => by simp at hu; subst hu; rfl) (by decide) (by have := HE.out.1; unfold maxLen; omega) (by have := HE.out.1; omega) (by have := HO.out.2.2.size; simp; omega) _ rfl ?_; intro gg cap w6 hown6 hgrow hat hlt6))
        obtain ⟨o6, b6⟩ := pushed HO.out.1 HO.out.2.2.size hown6 hgrow
        have H6 := Lib.hid (And.intro o6 (HO.out.2.2.trans b6))
        clear hown6 hgrow hat hlt6 o6 b6
        exact ⟨⟨k + 1, r', S ++ [d], by omega, by go_num, rfl, HD.out.2.2, by rw [List.length_append, HE.out.1]; rfl, ok_append.2 ⟨HO.out.2.1, by intro u hu; simp at hu; rw [hu]; exact HD.out.2.1⟩,
          Lib.hid (sub_snoc a b S k r d r' HE.out.1 (by rw [← HXY.out.1, ← HXY.out.2]; exact HD.out.1) HE.out.2), H6.out.1, H6.out.2⟩, by simp [intOf]; omega⟩
      · have hy0 : yk = 0 := by rw [hyk]; exact getD_ge (by omega)
        clear hyk
        obtain ⟨d, r', hd, hdl, hr'⟩ := borrowed xk r yk b1 hr b2
        have e1 : (-(r : Int) + (xk : Int)) % 4294967296 = (d : Int) := by omega
        have e2 : (-(r : Int) + (xk : Int)) / 4294967296 = -(r' : Int) := by omega
        have hkz2 : ¬ (k : Int) < (b.length : Int) := by omega
        have HD := Lib.hid (And.intro hd (And.intro hdl hr'))
        clear hd hdl hr' hy0
        go_wp2_with (first
          | (at_builtin; refine wpList_append_lies _ rfl _ _ 26 rfl w.heap.size 59 i0 (.int .u32 0) 1 4 Tryz.underlying26 hi hz0 hz1 hz2 rfl (by decide) _ S.length (ws S) rfl (own_alloc HO.out.1 _) ⟨wr.heap.size, 0, none⟩ 1 1 [.int .u32 (d : Int)] rfl rfl (cell_one_new _ _ _) (fun u hu => by simp at hu; subst hu; rfl) (by decide) (by have := HE.out.1; unfold maxLen; omega) (by have := HE.out.1; omega) (by have := HO.out.2.2.size; simp; omega) _ rfl ?_; intro gg cap w6 hown6 hgrow hat hlt6))
        obtain ⟨o6, b6⟩ := pushed HO.out.1 HO.out.2.2.size hown6 hgrow
        have H6 := Lib.hid (And.intro o6 (HO.out.2.2.trans b6))
        clear hown6 hgrow hat hlt6 o6 b6
        exact ⟨⟨k + 1, r', S ++ [d], by omega, by go_num, rfl, HD.out.2.2, by rw [List.length_append, HE.out.1]; rfl, ok_append.2 ⟨HO.out.2.1, by intro u hu; simp at hu; rw [hu]; exact HD.out.2.1⟩,
          Lib.hid (sub_snoc a b S k r d r' HE.out.1 (by rw [← HXY.out.1, ← HXY.out.2]; exact HD.out.1) HE.out.2), H6.out.1, H6.out.2⟩, by simp [intOf]; omega⟩
    · obtain rfl : k = a.length := by omega
      have hE2 := hE.out
      rw [List.take_length, List.take_of_length_le hs'] at hE2
      have hva : val a = m := by rw [HAB.out.1, val_digs]
      have hvb : val b = n := by rw [HAB.out.2, val_digs]
      have hlt := val_lt hok
      rw [hSl] at hlt
      have hr0 : r = 0 := by
        rcases Nat.eq_zero_or_pos r with e | e
        · exact e
        · exfalso
          have : r = 1 := by omega
          rw [this, Nat.mul_one] at hE2
          generalize 4294967296 ^ a.length = p at *
          omega
      have hv : val S = m - n := by rw [hr0, Nat.mul_zero] at hE2; omega
      obtain ⟨A5, c5, rfl, R5⟩ := own_rd hown hok
      have HV := Lib.hid (And.intro hv (And.intro (rd_trim R5) (And.intro hbel (own_fresh hown))))
      have hS6 : S.length ≤ 100000000 := by omega
      clear hE hE2 hva hvb hlt hr0 hv hown hbel hSl
      go_wp2_with fail
      refine (rtrim_any wr _ A5 c5 S R5 hS6).mono ?_
      rintro _ _ ⟨rfl, rfl⟩
      rw [HV.out.1]
      go_wp2_with fail
      go_ret
      refine ⟨A5, c5, rfl, ?_, HV.out.2.2⟩
      rw [← HV.out.1]
      exact HV.out.2.1

end Go.Proofs.YtbeidpeoichakaaGreatDoor.jb
