/- fraction: gcdWords. -/
import Derived.Test.YtfnfnagdecpobaaDoorFs
import Derived.Deep.LoopGhost
import Derived.Deep.DeepCutAuto
namespace Go.Proofs.YtfnfnagdecpobaaDoor.ft
open Go.RowKit Go.Proofs.YtfnfnagdecpobaaDoor.fm Go.Proofs.YtfnfnagdecpobaaDoor.mem Go.Proofs.YtfnfnagdecpobaaDoor.fa Go.Proofs.YtfnfnagdecpobaaDoor.fb Go.Proofs.YtfnfnagdecpobaaDoor.fc Go.Proofs.YtfnfnagdecpobaaDoor.fd Go.Proofs.YtfnfnagdecpobaaDoor.fh Go.Proofs.YtfnfnagdecpobaaDoor.fi Go.Proofs.YtfnfnagdecpobaaDoor.fj Go.Proofs.YtfnfnagdecpobaaDoor.fq Go.Proofs.YtfnfnagdecpobaaDoor.fr Go.Proofs.YtfnfnagdecpobaaDoor.fs

theorem own_some {base : Nat} {w : World} {v : Value} {l : List Nat} (h : Owns base w v l) (hl : l ≠ []) : ∃ g cap, v = .slice (some ⟨g, 0, none⟩) l.length cap ∧ base ≤ g ∧ g < w.heap.size := by
  rcases h.2 with ⟨_, h0⟩ | ⟨g, cap, cur, hv, hb, hg, _⟩
  · exact absurd (List.eq_nil_of_length_eq_zero h0) hl
  · exact ⟨g, cap, hv, hb, (Array.getElem?_eq_some_iff.1 hg).1⟩

theorem digs_ne {n : Nat} (h : n ≠ 0) : digs n ≠ [] := fun e => h (digs_eq_nil.1 e)

theorem rd_of_own {base : Nat} {w : World} {g n cap : Nat} {l : List Nat} (h : w.ownsRow base 66 1 (.slice (some ⟨g, 0, none⟩) n cap) n (ws l)) (ho : ok l) : Rd w w.heap.size (some ⟨g, 0, none⟩) cap l := by
  have hl := own_len h
  subst hl
  obtain ⟨A, c, e, R⟩ := own_rd (base := base) h ho
  injection e with e1 e2 e3
  subst e1 e3
  exact R

theorem le_mod_len {x y N : Nat} (h0 : y ≠ 0) (h : (digs y).length ≤ N) : (digs (x % y)).length ≤ N := Nat.le_trans (len_mono (Nat.le_of_lt (Nat.mod_lt x (by omega)))) h

theorem tz_bound {z N : Nat} (h0 : z ≠ 0) (h : (digs z).length ≤ N) : tz z < 32 * N + 1 := by
  have h1 : z < 4294967296 ^ N := (lt_len_iff z N).1 h
  rw [show (4294967296 : Nat) = 2 ^ 32 by decide, ← Nat.pow_mul] at h1
  have := tz_lt h0 h1
  omega

theorem short_bound {x : Nat} (h : (digs x).length ≤ 2) : x < 18446744073709551616 := by
  have := (lt_len_iff x 2).1 h
  omega

theorem right_form {base : Nat} {w : World} {v : Value} {g cap q : Nat} (h : w.ownsRow base 66 1 v (digs q).length (ws (digs q))) (hv : v = .slice none 0 0 ∨ ∃ k, v = .slice (some ⟨g, 0, none⟩) k cap) (hq : q ≠ 0) :
    v = .slice (some ⟨g, 0, none⟩) (digs q).length cap := by
  obtain ⟨g2, cap2, e, _⟩ := own_some h (digs_ne hq)
  rcases hv with hv | ⟨k, hv⟩
  · rw [hv] at e; injection e with e1 _ _; cases e1
  · subst hv
    injection e with e1 e2 e3
    subst e2
    rfl

/-- The two numbers, each in a block of its own. -/
structure Two (w wr : World) (X Y gx gy cx cy : Nat) : Prop where
  ox : wr.ownsRow w.heap.size 66 1 (.slice (some ⟨gx, 0, none⟩) (digs X).length cx) (digs X).length (ws (digs X))
  oy : wr.ownsRow w.heap.size 66 1 (.slice (some ⟨gy, 0, none⟩) (digs Y).length cy) (digs Y).length (ws (digs Y))
  ne : gx ≠ gy
  bel : Below w.heap.size w wr
  lx : (digs X).length ≤ 500000
  ly : (digs Y).length ≤ 500000

theorem Two.rx {w wr : World} {X Y gx gy cx cy : Nat} (T : Two w wr X Y gx gy cx cy) : Rd wr wr.heap.size (some ⟨gx, 0, none⟩) cx (digs X) := rd_of_own T.ox (ok_digs _)
theorem Two.ry {w wr : World} {X Y gx gy cx cy : Nat} (T : Two w wr X Y gx gy cx cy) : Rd wr wr.heap.size (some ⟨gy, 0, none⟩) cy (digs Y) := rd_of_own T.oy (ok_digs _)
theorem Two.swap {w wr : World} {X Y gx gy cx cy : Nat} (T : Two w wr X Y gx gy cx cy) : Two w wr Y X gy gx cy cx := ⟨T.oy, T.ox, T.ne.symm, T.bel, T.ly, T.lx⟩
theorem Two.turn {w wr w' : World} {X Y X' gx gy cx cy : Nat} (T : Two w wr X Y gx gy cx cy) (h : w'.ownsRow w.heap.size 66 1 (.slice (some ⟨gx, 0, none⟩) (digs X').length cx) (digs X').length (ws (digs X'))) (hg : wr.grownBy w' (some gx)) (hl : X' ≤ X) :
    Two w w' X' Y gx gy cx cy :=
  ⟨h, own_grown T.oy hg T.ne.symm, T.ne, T.bel.grown hg T.bel.size (by have := (h.lt gx rfl).1; simp; omega), Nat.le_trans (len_mono hl) T.lx, T.ly⟩
theorem Two.drew {w wr : World} {X Y gx gy cx cy : Nat} (T : Two w wr X Y gx gy cx cy) (k : Nat) : Two w (wr.drewN k) X Y gx gy cx cy := ⟨T.ox, T.oy, T.ne, ⟨T.bel.os, T.bel.tape, T.bel.output, T.bel.size, T.bel.block⟩, T.lx, T.ly⟩

theorem two_start {w w1 w2 : World} {Z Y gx gy cx cy : Nat} (o1 : Owns w.heap.size w1 (.slice (some ⟨gy, 0, none⟩) (digs Y).length cy) (digs Y)) (o2 : Owns w1.heap.size w2 (.slice (some ⟨gx, 0, none⟩) (digs Z).length cx) (digs Z))
    (b2 : Below w1.heap.size w1 w2) (b : Below w.heap.size w w2) (h1 : gy < w1.heap.size) (h2 : w1.heap.size ≤ gx) (lx : (digs Z).length ≤ 500000) (ly : (digs Y).length ≤ 500000) (hsz : w.heap.size ≤ w1.heap.size) : Two w w2 Z Y gx gy cx cy :=
  ⟨own_base o2 hsz, own_below o1 b2 h1, by omega, b, lx, ly⟩

set_option maxRecDepth 100000 in
set_option maxHeartbeats 4000000 in
theorem gcdWords_any (w : World) (A A' : Option Addr) (c c' m n : Nat) (h : Rd w w.heap.size A c (digs m)) (h' : Rd w w.heap.size A' c' (digs n)) (hs : (digs m).length ≤ 500000) (hs' : (digs n).length ≤ 500000) (h0 : m ≠ 0) (h0' : n ≠ 0) (hT : Tabs w) :
    Calls Tryd.prog 99 #[.slice A (digs m).length c, .slice A' (digs n).length c'] w fun e w' => ∃ v, e = .returned v ∧ Owns w.heap.size w' v (digs (Nat.gcd m n)) ∧ Below w.heap.size w w' := by
  go_enter Tryd.func99, Tryd.ntmps99
  go_upto_if 13 with ((go_at_call 78; refine (cmpWords_any w _ A A' c c' m n h h' (by omega) (by omega)).mono ?_; rintro _ _ ⟨rfl, k0, rfl⟩))
  go_cut [0, 1] (fun a b wx => ∃ A c A' c' x y k, wx = w.drewN k ∧ a = .slice A (digs x).length c ∧ b = .slice A' (digs y).length c' ∧ Rd w w.heap.size A c (digs x) ∧ Rd w w.heap.size A' c' (digs y) ∧ Nat.gcd x y = Nat.gcd m n ∧
    (digs x).length ≤ 500000 ∧ (digs y).length ≤ 500000 ∧ y ≠ 0)
  case first =>
    by_cases hlt : m < n
    · have e := cmp_lt hlt
      have z : cmp m n < 0 := by omega
      generalize cmp m n = cv at *
      clear e
      go_wp2_with fail
      go_meet
      exact ⟨A', c', A, c, n, m, k0, rfl, rfl, rfl, h', h, Nat.gcd_comm _ _, hs', hs, h0⟩
    · have e := cmp_ge (Nat.le_of_not_lt hlt)
      generalize cmp m n = cv at *
      go_wp2_with fail
      go_meet
      exact ⟨A, c, A', c', m, n, k0, rfl, rfl, rfl, h, h', rfl, hs, hs', h0'⟩
  case rest =>
    obtain ⟨A1, c1, A2, c2, x, y, k, rfl, rfl, rfl, R1, R2, hG, l1, l2, hy0⟩ := hcut
    clear h h' hs hs' h0 h0'
    go_wp2_with fail
    refine (clone_any _ A2 c2 (digs y) (R2.drewN k) (by omega)).mono ?_
    rintro _ w1 ⟨v1, rfl, own1, bel1⟩
    obtain ⟨gy, cy, rfl, hgy, hgy2⟩ := own_some own1 (digs_ne hy0)
    have O1 := Lib.hid own1
    have B1 := Lib.hid bel1
    have R1' := (R1.drewN k).below bel1
    have R2' := (R2.drewN k).below bel1
    clear own1 bel1
    go_wp2_with fail
    refine (divWords_any w1 A1 A2 c1 c2 x y (R1'.more B1.out.size) (R2'.more B1.out.size) (by omega) (by omega) hy0).mono ?_
    rintro _ w2 ⟨q, r, rfl, ownq, ownr, bel2⟩
    have O2 := Lib.hid (And.intro ownr bel2)
    clear ownr bel2 ownq R1' R2'
    have BW : Below w.heap.size w w2 := (show Below w.heap.size w w1 from ⟨B1.out.os, B1.out.tape, B1.out.output, B1.out.size, B1.out.block⟩).trans (O2.out.2.mono B1.out.size)
    by_cases hz : x % y = 0
    · obtain ⟨A3, c3, rfl, _⟩ := own_rd O2.out.1 (ok_digs _)
      have hz2 : (digs (x % y)).length = 0 := digs_len_zero.2 hz
      rw [hz2]
      have hgy3 : Nat.gcd m n = y := by rw [← hG]; exact Nat.gcd_eq_right (Nat.dvd_of_mod_eq_zero hz)
      have HB := Lib.hid (And.intro BW hgy3)
      have own2 := own_below O1.out O2.out.2 hgy2
      have HO := Lib.hid own2
      clear BW hgy3 hz hz2 own2
      go_wp2_with fail
      go_ret
      exact ⟨_, rfl, by rw [HB.out.2]; exact HO.out, HB.out.1⟩
    · obtain ⟨gx, cx, rfl, hgx, hgx2⟩ := own_some O2.out.1 (digs_ne hz)
      have T0 := two_start (w := w) O1.out O2.out.1 O2.out.2 BW hgy2 hgx (le_mod_len hy0 l2) l2 B1.out.size
      have hG2 : Nat.gcd (x % y) y = Nat.gcd m n := by rw [← hG, Nat.gcd_comm x y, Nat.gcd_rec y x]
      have hlz : ¬ (digs (x % y)).length = 0 := fun e => hz (digs_len_zero.1 e)
      have HG := Lib.hid (And.intro hG2 (And.intro hz hy0))
      have HT := Lib.hid (And.intro T0 (hT.below BW))
      clear T0 hG2 hz hy0 BW hG
      generalize x % y = z at *
      go_wp2_with fail
      refine (trailingZeros_any w2 _ (some ⟨gx, 0, none⟩) cx (digs z) HT.out.1.rx (by have := HT.out.1.lx; omega) HT.out.2).mono ?_
      rintro _ _ ⟨rfl, rfl⟩
      rw [val_digs]
      go_wp2_with fail
      refine (trailingZeros_any w2 _ (some ⟨gy, 0, none⟩) cy (digs y) HT.out.1.ry (by have := HT.out.1.ly; omega) HT.out.2).mono ?_
      rintro _ _ ⟨rfl, rfl⟩
      rw [val_digs]
      generalize hti : tz z = i
      generalize htj : tz y = j
      have HI := Lib.hid (And.intro hti htj)
      clear hti htj
      have hib : i ≤ 16000000 := by have := tz_bound HG.out.2.1 HT.out.1.lx; have := HI.out.1; omega
      have hjb : j ≤ 16000000 := by have := tz_bound HG.out.2.2 HT.out.1.ly; have := HI.out.2; omega
      go_wp2_with fail
      refine (trailingZeros_any w2 _ (some ⟨gx, 0, none⟩) cx (digs z) HT.out.1.rx (by have := HT.out.1.lx; omega) HT.out.2).mono ?_
      rintro _ _ ⟨rfl, rfl⟩
      rw [val_digs, HI.out.1]
      go_wp2_with fail
      refine (shiftRight_any w2 w.heap.size gx _ cx i (digs z) HT.out.1.ox (ok_digs _) (by have := HT.out.1.lx; omega) (by omega)).mono ?_
      rintro _ w3 ⟨v3, rfl, own3, gr3, hv3⟩
      rw [val_digs] at own3
      obtain ⟨d1, d2⟩ := tz_div HG.out.2.1
      rw [HI.out.1] at d1 d2
      obtain rfl := right_form own3 hv3 (by omega)
      have T3 := HT.out.1.turn own3 gr3 (Nat.div_le_self _ _)
      generalize hX : z / 2 ^ i = X at *
      have HX := Lib.hid (And.intro d1 d2)
      have HT3 := Lib.hid (And.intro T3 (hT.below T3.bel))
      clear own3 gr3 hv3 d1 d2 T3 hX
      go_wp2_with fail
      refine (trailingZeros_any w3 _ (some ⟨gy, 0, none⟩) cy (digs y) HT3.out.1.ry (by have := HT3.out.1.ly; omega) HT3.out.2).mono ?_
      rintro _ _ ⟨rfl, rfl⟩
      rw [val_digs, HI.out.2]
      go_wp2_with fail
      refine (shiftRight_any w3 w.heap.size gy _ cy j (digs y) HT3.out.1.oy (ok_digs _) (by have := HT3.out.1.ly; omega) (by omega)).mono ?_
      rintro _ w4 ⟨v4, rfl, own4, gr4, hv4⟩
      rw [val_digs] at own4
      obtain ⟨d1, d2⟩ := tz_div HG.out.2.2
      rw [HI.out.2] at d1 d2
      obtain rfl := right_form own4 hv4 (by omega)
      have T4 := (HT3.out.1.swap.turn own4 gr4 (Nat.div_le_self _ _)).swap
      generalize hY : y / 2 ^ j = Y at *
      have hG3 : Nat.gcd m n = 2 ^ min i j * Nat.gcd X Y := by
        rw [← HG.out.1, ← gcd_twos HX.out.2 d2, ← HX.out.1, ← d1]
      have HL := Lib.hid (And.intro hG3 (And.intro HX.out.2 (And.intro d2 T4)))
      clear own4 gr4 hv4 d1 d2 T4 hY hG3 HX HT HT3 HI HG
      have hmin : min (i : Int) (j : Int) = ((min i j : Nat) : Int) := by omega
      have hub : min i j ≤ 16000000 := by omega
      go_wp2_with fail
      generalize min i j = u at *
      clear hmin hib hjb hlz
      clear l1 l2 hgy hgy2 hgx hgx2 O1 B1 O2 R1 R2
      go_loopg [5, 7] (X + Y) (fun g a b wr => ∃ X Y gx gy cx cy, a = .slice (some ⟨gy, 0, none⟩) (digs Y).length cy ∧ b = .slice (some ⟨gx, 0, none⟩) (digs X).length cx ∧ g = X + Y ∧ X % 2 = 1 ∧ Y % 2 = 1 ∧
        Nat.gcd m n = 2 ^ u * Nat.gcd X Y ∧ Two w wr X Y gx gy cx cy)
      case atStart => exact ⟨X, Y, gx, gy, cx, cy, rfl, rfl, rfl, HL.out.2.1, HL.out.2.2.1, HL.out.1, HL.out.2.2.2⟩
      case round =>
        clear HL
        obtain ⟨X, Y, gx, gy, cx, cy, rfl, rfl, rfl, oX, oY, hG, T⟩ := hrel
        have HT := Lib.hid T
        have HG := Lib.hid hG
        have HR := Lib.hid (And.intro oX oY)
        have lX := T.lx
        have lY := T.ly
        clear T hG
        by_cases hC : (digs X).length ≤ 2 ∧ (digs Y).length ≤ 2
        · obtain ⟨hc1, hc2⟩ := hC
          have bX : X < 18446744073709551616 := short_bound hc1
          have bY : Y < 18446744073709551616 := short_bound hc2
          have bG : Nat.gcd X Y < 18446744073709551616 := Nat.lt_of_le_of_lt (Nat.gcd_le_left Y (by have := HR.out.1; omega)) bX
          have lG : (digs (Nat.gcd X Y)).length ≤ 2 := Nat.le_trans (len_mono (Nat.gcd_le_left Y (by have := HR.out.1; omega))) hc1
          have HX := Lib.hid (hT.below HT.out.bel)
          go_wp2_with fail
          refine (short_any wr _ (some ⟨gx, 0, none⟩) cx (digs X) HT.out.rx hc1).mono ?_
          rintro _ _ ⟨rfl, rfl⟩
          rw [val_digs]
          go_wp2_with fail
          refine (short_any wr _ (some ⟨gy, 0, none⟩) cy (digs Y) HT.out.ry hc2).mono ?_
          rintro _ _ ⟨rfl, rfl⟩
          rw [val_digs]
          go_wp2_with fail
          refine (gcd64_any wr X Y bX bY HR.out.1 HR.out.2 HX.out).mono ?_
          rintro _ _ ⟨rfl, rfl⟩
          generalize hGG : Nat.gcd X Y = G at *
          have HGG := Lib.hid hGG
          clear hGG
          go_wp2_with fail
          refine (words64_any 0 G wr (by decide) bG).mono ?_
          rintro _ w5 ⟨v5, rfl, own5, bel5⟩
          rw [Nat.zero_mul, Nat.zero_add] at own5
          obtain ⟨A5, c5, rfl, R5⟩ := own_rd own5 (ok_digs _)
          have HB5 := Lib.hid (HT.out.bel.trans (bel5.mono HT.out.bel.size))
          clear own5 bel5
          go_wp2_with fail
          refine (scale_any w5 A5 c5 G u R5 (by omega)).mono ?_
          rintro _ w6 ⟨v6, rfl, own6, bel6⟩
          have hb := HB5.out.trans (bel6.mono HB5.out.size)
          have hv : G * 2 ^ u = Nat.gcd m n := by rw [HG.out, Nat.mul_comm]
          rw [hv] at own6
          have HE := Lib.hid (And.intro (own_base own6 HB5.out.size) hb)
          clear own6 bel6 hb hv R5
          go_wp2
          go_ret
          exact ⟨_, rfl, HE.out.1, HE.out.2⟩
        · have hor : 2 < (digs X).length ∨ ((digs X).length ≤ 2 ∧ 2 < (digs Y).length) := by omega
          rcases hor with ha | ⟨ha, hb⟩
          all_goals
            go_wp2_with fail
            refine (cmpWords_any wr _ (some ⟨gx, 0, none⟩) (some ⟨gy, 0, none⟩) cx cy X Y HT.out.rx HT.out.ry (by omega) (by omega)).mono ?_
            rintro _ _ ⟨rfl, k1, rfl⟩
            rcases Nat.lt_trichotomy X Y with hlt | heq | hlt
            · have hcv : cmp X Y = -1 := cmp_lt hlt
              rw [hcv]
              have HTS := Lib.hid (HT.out.drew k1).swap
              clear hcv HT
              go_wp2_with fail
              refine (take_any (wr.drewN k1) w.heap.size gy _ cy (some ⟨gx, 0, none⟩) cx (digs Y) (digs X) HTS.out.ox (ok_digs _) HTS.out.ry (fun ad e _ => by injection e with e; subst e; exact HTS.out.ne.symm) (by rw [val_digs, val_digs]; omega) (len_mono (by omega)) (by omega)).mono ?_
              rintro _ w5 ⟨rfl, own5, gr5⟩
              rw [val_digs, val_digs] at own5 ⊢
              have T5 := HTS.out.turn own5 gr5 (Nat.sub_le _ _)
              have hd0 : Y - X ≠ 0 := by omega
              have htb := tz_bound hd0 T5.lx
              have HT5 := Lib.hid (And.intro T5 (hT.below T5.bel))
              obtain ⟨g1, g2, g3, g4⟩ := gcd_down (x := Y) (y := X) HR.out.2 HR.out.1 hlt
              obtain ⟨D, hD⟩ : ∃ D, Y - X = D := ⟨_, rfl⟩
              rw [hD] at HT5 g1 g2 g3 hd0 htb ⊢
              have HD := Lib.hid (And.intro hD hd0)
              have HGG := Lib.hid (And.intro g1 (And.intro g2 g3))
              clear own5 gr5 T5 hD hd0 g1 g2 g3 g4
              go_wp2_with fail
              refine (trailingZeros_any w5 _ (some ⟨gy, 0, none⟩) cy (digs D) HT5.out.1.rx (by have := HT5.out.1.lx; omega) HT5.out.2).mono ?_
              rintro _ _ ⟨rfl, rfl⟩
              rw [val_digs]
              generalize htd : tz D = d at *
              have HTD := Lib.hid htd
              clear htd
              go_wp2_with fail
              refine (shiftRight_any w5 w.heap.size gy _ cy d (digs D) HT5.out.1.ox (ok_digs _) (by have := HT5.out.1.lx; omega) (by omega)).mono ?_
              rintro _ w6 ⟨v6, rfl, own6, gr6, hv6⟩
              rw [val_digs] at own6
              obtain rfl := right_form own6 hv6 (by have := HGG.out.1; omega)
              have T6 := HT5.out.1.turn own6 gr6 (Nat.div_le_self _ _)
              have H6 := Lib.hid T6
              clear own6 gr6 hv6 T6
              generalize D / 2 ^ d = E at *
              go_wp2_with fail
              go_roundg (E + X)
              case measure => have := HGG.out.2.2; omega
              case rel => exact ⟨E, X, gy, gx, cy, cx, rfl, rfl, rfl, HGG.out.1, HR.out.1, by rw [HGG.out.2.1, Nat.gcd_comm Y X]; exact HG.out, H6.out⟩
            · subst heq
              have hcv : cmp X X = 0 := by unfold cmp; simp
              rw [hcv]
              have HTS := Lib.hid (HT.out.drew k1)
              clear hcv HT
              go_wp2_with fail
              refine (scale_any (wr.drewN k1) (some ⟨gx, 0, none⟩) cx X u HTS.out.rx (by omega)).mono ?_
              rintro _ w5 ⟨v5, rfl, own5, bel5⟩
              have hb := HTS.out.bel.trans (bel5.mono HTS.out.bel.size)
              have hv : X * 2 ^ u = Nat.gcd m n := by rw [HG.out, Nat.gcd_self, Nat.mul_comm]
              rw [hv] at own5
              have HE := Lib.hid (And.intro (own_base own5 HTS.out.bel.size) hb)
              clear own5 bel5 hb hv
              go_wp2
              go_ret
              exact ⟨_, rfl, HE.out.1, HE.out.2⟩
            · have hcv : cmp X Y = 1 := by unfold cmp; rw [if_neg (by omega), if_pos hlt]
              rw [hcv]
              have HTS := Lib.hid (HT.out.drew k1)
              clear hcv HT
              go_wp2_with fail
              refine (take_any (wr.drewN k1) w.heap.size gx _ cx (some ⟨gy, 0, none⟩) cy (digs X) (digs Y) HTS.out.ox (ok_digs _) HTS.out.ry (fun ad e _ => by injection e with e; subst e; exact HTS.out.ne.symm) (by rw [val_digs, val_digs]; omega) (len_mono (by omega)) (by omega)).mono ?_
              rintro _ w5 ⟨rfl, own5, gr5⟩
              rw [val_digs, val_digs] at own5 ⊢
              have T5 := HTS.out.turn own5 gr5 (Nat.sub_le _ _)
              have hd0 : X - Y ≠ 0 := by omega
              have htb := tz_bound hd0 T5.lx
              have HT5 := Lib.hid (And.intro T5 (hT.below T5.bel))
              obtain ⟨g1, g2, g3, g4⟩ := gcd_down (x := X) (y := Y) HR.out.1 HR.out.2 hlt
              obtain ⟨D, hD⟩ : ∃ D, X - Y = D := ⟨_, rfl⟩
              rw [hD] at HT5 g1 g2 g3 hd0 htb ⊢
              have HD := Lib.hid (And.intro hD hd0)
              have HGG := Lib.hid (And.intro g1 (And.intro g2 g3))
              clear own5 gr5 T5 hD hd0 g1 g2 g3 g4
              go_wp2_with fail
              refine (trailingZeros_any w5 _ (some ⟨gx, 0, none⟩) cx (digs D) HT5.out.1.rx (by have := HT5.out.1.lx; omega) HT5.out.2).mono ?_
              rintro _ _ ⟨rfl, rfl⟩
              rw [val_digs]
              generalize htd : tz D = d at *
              have HTD := Lib.hid htd
              clear htd
              go_wp2_with fail
              refine (shiftRight_any w5 w.heap.size gx _ cx d (digs D) HT5.out.1.ox (ok_digs _) (by have := HT5.out.1.lx; omega) (by omega)).mono ?_
              rintro _ w6 ⟨v6, rfl, own6, gr6, hv6⟩
              rw [val_digs] at own6
              obtain rfl := right_form own6 hv6 (by have := HGG.out.1; omega)
              have T6 := HT5.out.1.turn own6 gr6 (Nat.div_le_self _ _)
              have H6 := Lib.hid T6
              clear own6 gr6 hv6 T6
              generalize D / 2 ^ d = E at *
              go_wp2_with fail
              go_roundg (E + Y)
              case measure => have := HGG.out.2.2; omega
              case rel => exact ⟨E, Y, gx, gy, cx, cy, rfl, rfl, rfl, HGG.out.1, HR.out.2, by rw [HGG.out.2.1]; exact HG.out, H6.out⟩

end Go.Proofs.YtfnfnagdecpobaaDoor.ft
