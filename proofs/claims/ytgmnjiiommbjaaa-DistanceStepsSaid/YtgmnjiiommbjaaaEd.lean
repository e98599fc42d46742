/- DistanceSteps: the law. -/
import Derived.Test.YtgmnjiiommbjaaaEc
import Derived.Test.YtgmnjiiommbjaaaDr
import Derived.Deep.Cut
import Derived.Deep.DeepCutAuto
import Derived.Deep.RegionHeld3
import Derived.Deep.CutBlock
set_option linter.unusedVariables false
set_option linter.unusedSimpArgs false
namespace Go.Proofs.Ytgmnjiiommbjaaa.dist
open Go.RowKit Go.Proofs.Ytgmnjiiommbjaaa.txt Go.Proofs.Ytgmnjiiommbjaaa.tx Go.Proofs.Ytgmnjiiommbjaaa.mill Go.Proofs.Ytgmnjiiommbjaaa.lev Go.Proofs.Ytgmnjiiommbjaaa.fold Go.Proofs.Ytgmnjiiommbjaaa.pat

theorem notAt_in {w : World} {v : Value} {xs : List (List UInt8)} {g : Nat} (h : Texts w w.heap.size v xs) (hg : w.heap.size ≤ g) (hx : xs ≠ []) : NotAt g v := by
  rcases h with ⟨h, _⟩ | ⟨b, off, cap, rfl, _, _, hlt, _⟩
  · exact absurd h hx
  · intro b' off' n c e
    injection e with e1
    injection e1 with e1
    injection e1 with e1
    omega

set_option maxRecDepth 100000 in
set_option maxHeartbeats 4000000 in
theorem steps_law (w : World) (A : Option Addr) (c : Nat) (l : List Nat) (S : Seeds w w.heap.size A c l) (hl : l.length ≤ maxLen) (a b : List UInt8) (ra rb rc rd lim : Int)
    (hra : -9223372036854775808 ≤ ra ∧ ra < 9223372036854775808) (hrb : -9223372036854775808 ≤ rb ∧ rb < 9223372036854775808) (hrc : -9223372036854775808 ≤ rc ∧ rc < 9223372036854775808) (hrd : -9223372036854775808 ≤ rd ∧ rd < 9223372036854775808) (hlim : -9223372036854775808 ≤ lim ∧ lim < 9223372036854775808)
    (xa ya : Option Addr) (xc yc : Nat) (xs ys : List (List UInt8)) (X : Texts w w.heap.size (.slice xa xs.length xc) xs) (Y : Texts w w.heap.size (.slice ya ys.length yc) ys) :
    Calls Try.prog 3 #[.slice A l.length c, .string ⟨a.toArray⟩, .string ⟨b.toArray⟩, ruleV ra rb rc rd, .int .i64 lim, .slice xa xs.length xc, .slice ya ys.length yc] w fun e w' => e = .returned (.bool true) ∧ Below w.heap.size w w' := by
  go_enter Try.func3, Try.ntmps3
  have HS := Lib.hid S
  have HX := Lib.hid (And.intro X Y)
  have HZ := Lib.hid (And.intro hra (And.intro hrb (And.intro hrc (And.intro hrd hlim))))
  clear S X Y hra hrb hrc hrd hlim
  go_wp2_with fail
  have hb0 : Below w.heap.size w (w.alloc (.cells #[.int .i64 ra, .int .i64 rb, .int .i64 rc, .int .i64 rd] 24)) := (Below.refl _ w).alloc (Nat.le_refl _) _
  have hR0 : RuleC (w.alloc (.cells #[.int .i64 ra, .int .i64 rb, .int .i64 rc, .int .i64 rd] 24)) w.heap.size ra rb rc rd := by
    refine ⟨?_, ?_, ?_, ?_, ?_, ?_, ?_, ?_, ?_⟩ <;> simp [go_sem]
  obtain ⟨w0, hw0⟩ : ∃ w0, w0 = w.alloc (.cells #[.int .i64 ra, .int .i64 rb, .int .i64 rc, .int .i64 rd] 24) := ⟨_, rfl⟩
  rw [← hw0] at hb0 hR0 ⊢
  clear hw0
  refine (sane_any w0).mono ?_
  rintro _ w1 ⟨rfl, b1⟩
  have s0 := hb0.size
  have s1 := b1.size
  have r0 := hR0.lt
  have HB1 := Lib.hid (hb0.trans (b1.mono s0))
  have HR1 := Lib.hid (hR0.after b1)
  clear hb0 hR0 b1
  by_cases ha : 40 < a.length
  · go_wp2_with fail
    go_ret
    exact ⟨rfl, HB1.out⟩
  by_cases hb : 40 < b.length
  · go_wp2_with fail
    go_ret
    exact ⟨rfl, HB1.out⟩
  by_cases hx : 12 < xs.length
  · go_wp2_with fail
    go_ret
    exact ⟨rfl, HB1.out⟩
  by_cases hy : 12 < ys.length
  · go_wp2_with fail
    go_ret
    exact ⟨rfl, HB1.out⟩
  go_wp2_with fail
  refine (new_any w1 A c l ((HS.out.below (hb := HB1.out)).more HB1.out.size) hl).mono ?_
  rintro _ w2 ⟨rfl, D2, b2⟩
  have hst : St w w1.heap.size (l.take 300) w.heap.size ra rb rc rd (.slice xa xs.length xc) (.slice ya ys.length yc) xs ys w2 := by
    have h1 := HB1.out.size
    exact ⟨HB1.out.trans (b2.mono h1), ⟨0, D2⟩, HR1.out.after b2, (HX.out.1.to HB1.out).to b2, (HX.out.2.to HB1.out).to b2, Nat.le_refl _, by have := HR1.out.lt; omega, notAt_in HX.out.1 h1, notAt_in HX.out.2 h1⟩
  have H2 := Lib.hid hst
  generalize w1.heap.size = g at *
  clear hst D2 b2 HB1 HR1 HS
  obtain ⟨k2, D2⟩ := H2.out.dice
  go_wp2_with fail
  refine (word16_any w2 g _ k2 D2).mono ?_
  rintro _ w3 ⟨p1, k3, rfl, g1, l1, D3, K3⟩
  have H3 := Lib.hid (H2.out.kept D3 K3)
  clear D2 K3 H2
  go_wp2_with fail
  refine (word16_any w3 g _ k3 D3).mono ?_
  rintro _ w4 ⟨p2, k4, rfl, g2, l2, D4, K4⟩
  have H4 := Lib.hid (H3.out.kept D4 K4)
  clear D3 K4 H3
  go_wp2_with fail
  refine (word16_any w4 g _ k4 D4).mono ?_
  rintro _ w5 ⟨p3, k5, rfl, g3, l3, D5, K5⟩
  have H5 := Lib.hid (H4.out.kept D5 K5)
  clear D4 K5 H4 D5 g1 g2 g3
  have hg5 : g < w5.heap.size := by
    obtain ⟨k, D⟩ := H5.out.dice
    exact D.lt
  go_upto_region 7 with fail
  rw [cat_x]
  obtain ⟨es, gr, W6, hW6, hgr, HL⟩ : ∃ (es : Nat → List UInt8 × List UInt8) (gr : Nat) (W6 : World), W6 = w5.alloc (.cells #[.string ⟨a.toArray⟩, .string ⟨b.toArray⟩, .string ⟨p1.toArray⟩, .string ⟨p2.toArray⟩, .string ⟨a.toArray⟩, .string ⟨p3.toArray⟩, .string ⟨a.toArray⟩, .string ⟨(a ++ [120]).toArray⟩, .string ⟨#[]⟩, .string ⟨a.toArray⟩] 29) ∧ gr = w5.heap.size ∧
      Hid (St w g (l.take 300) w.heap.size ra rb rc rd (.slice xa xs.length xc) (.slice ya ys.length yc) xs ys W6 ∧ PRow W6 gr es 5) := by
    refine ⟨fun k => match k with | 0 => (a, b) | 1 => (p1, p2) | 2 => (a, p3) | 3 => (a, a ++ [120]) | _ => ([], a), _, _, rfl, rfl, Lib.hid ⟨H5.out.after ((Below.refl _ _).alloc (Nat.le_refl _) _), prow_new _ _ _ _ _ fun k hk => ?_⟩⟩
    rcases k with _ | _ | _ | _ | _ | k
    · exact ⟨rfl, rfl, by show a.length ≤ 100; omega, by show b.length ≤ 100; omega⟩
    · exact ⟨rfl, rfl, by show p1.length ≤ 100; omega, by show p2.length ≤ 100; omega⟩
    · exact ⟨rfl, rfl, by show a.length ≤ 100; omega, by show p3.length ≤ 100; omega⟩
    · exact ⟨rfl, rfl, by show a.length ≤ 100; omega, by show (a ++ [120]).length ≤ 100; rw [List.length_append]; show a.length + 1 ≤ 100; omega⟩
    · exact ⟨rfl, rfl, Nat.zero_le _, by show a.length ≤ 100; omega⟩
    · omega
  rw [← hW6, ← hgr]
  have hgg : g < gr := by omega
  clear hW6 H5 hgr hg5 l1 l2 l3
  go_loopw [82] (fun i wr => ∃ k : Nat, k ≤ 5 ∧ i = .int .i64 (k : Int) ∧ Hid (St w g (l.take 300) w.heap.size ra rb rc rd (.slice xa xs.length xc) (.slice ya ys.length yc) xs ys wr ∧ PRow wr gr es 5)) (fun i _ => 5 - (intOf i).toNat)
  case atStart => exact ⟨0, by decide, rfl, HL⟩
  case round =>
    obtain ⟨k, hk, rfl, H⟩ := hrel
    clear HL
    by_cases hlt : k < 5
    · obtain ⟨h0, h1, q0, q1⟩ := H.out.2.at' k hlt
      have hkz : (k : Int) < 5 := by omega
      have hgl := H.out.2.lt
      generalize es k = ek at *
      obtain ⟨p, q⟩ := ek
      dsimp only at h0 h1 q0 q1
      go_upto_region 9 with fail
      have hbV : Below wr.heap.size wr (wr.alloc (.cells #[.string ⟨p.toArray⟩, .string ⟨q.toArray⟩] 29)) := (Below.refl _ _).alloc (Nat.le_refl _) _
      have hPB := pbox_new wr p q 29
      have hI1 := H.out.1.after hbV
      have hI2 := H.out.2.after hbV
      obtain ⟨V, hV⟩ : ∃ V, V = wr.alloc (.cells #[.string ⟨p.toArray⟩, .string ⟨q.toArray⟩] 29) := ⟨_, rfl⟩
      rw [← hV] at hPB hI1 hI2 ⊢
      obtain ⟨gp, hgp⟩ : ∃ gp, gp = wr.heap.size := ⟨_, rfl⟩
      rw [← hgp] at hPB hgl ⊢
      obtain ⟨Iv, I, hIvV, hIv⟩ : ∃ Iv : World → Prop, Inv g gp (l.take 300) w.heap.size ra rb rc rd p q Iv ∧ Iv V ∧ Hid (∀ W, Iv W → St w g (l.take 300) w.heap.size ra rb rc rd (.slice xa xs.length xc) (.slice ya ys.length yc) xs ys W ∧ PRow W gr es 5) :=
        ⟨_, inv_of (by omega) (by omega), ⟨hI1, hI2, hPB⟩, Lib.hid fun W h => ⟨h.1, h.2.1⟩⟩
      have HI0 := Lib.hid hIvV
      have HId := Lib.hid (I.after hIvV (Below.refl _ _).drew)
      have hI := Lib.hid I
      clear hV hgp hbV hPB hI1 hI2 hIvV I h0 h1 H
      have c0 := (hI.out.box HI0.out).c0
      have c1 := (hI.out.box HI0.out).c1
      obtain ⟨n, hn⟩ : ∃ n, n = E p q := ⟨_, rfl⟩
      have HE := Lib.hid hn
      have hqn : ((n : Int) != (n : Int)) = false := by simp
      clear hn
      go_region_held3 (fun w' => w'.cell? ⟨gp, 0, none⟩ = some (.string ⟨p.toArray⟩) ∧ w'.cell? ⟨gp, 1, none⟩ = some (.string ⟨q.toArray⟩))
        (first | with_reducible exact hI.out.held HId.out | with_reducible exact hI.out.held HI1.out | with_reducible exact hI.out.held HI2.out)
        (first
          | (have H := HI1; go_at_call 12; refine (refEdit_any p q W1 (by omega) (by omega)).mono ?_; rintro _ W2 ⟨rfl, b2⟩
             rw [← HE.out]
             have HI2 := Lib.hid (hI.out.after HI1.out b2)
             clear b2 H)
          | (go_at_call 11; refine (edit_any p q V.drew (by omega) (by omega)).mono ?_; rintro _ W1 ⟨rfl, b1⟩
             rw [← HE.out]
             have HI1 := Lib.hid (hI.out.after HId.out b1)
             clear b1))
      rename_i hHeld
      clear hHeld c0 c1 HI0 HId HI1 HE hqn
      have hg2 := (hI.out.box HI2.out).lt
      go_upto_region 12 with fail
      obtain ⟨zs, gz, W3, hW3, hgz, HL2⟩ : ∃ (zs : Nat → Int) (gz : Nat) (W3 : World), W3 = W2.alloc (.cells #[.int .i64 lim, .int .i64 0, .int .i64 1, .int .i64 2, .int .i64 3] 3) ∧ gz = W2.heap.size ∧ Hid (Iv W3 ∧ Row W3 gz (fun j => .int .i64 (zs j)) 5) := by
        refine ⟨fun k => match k with | 0 => lim | 1 => 0 | 2 => 1 | 3 => 2 | _ => 3, _, _, rfl, rfl, Lib.hid ⟨hI.out.after HI2.out ((Below.refl _ _).alloc (Nat.le_refl _) _), row_new _ _ _ _ _ fun k hk => ?_⟩⟩
        rcases k with _ | _ | _ | _ | _ | k
        · rfl
        · rfl
        · rfl
        · rfl
        · rfl
        · omega
      rw [← hW3, ← hgz]
      clear hW3 hgz HI2
      go_loopw [100] (fun i wr => ∃ j : Nat, j ≤ 5 ∧ i = .int .i64 (j : Int) ∧ Hid (Iv wr ∧ Row wr gz (fun j => .int .i64 (zs j)) 5)) (fun i _ => 5 - (intOf i).toNat)
      case atStart => exact ⟨0, by decide, rfl, HL2⟩
      case round =>
        obtain ⟨j, hj, rfl, H⟩ := hrel
        clear HL2
        by_cases hlj : j < 5
        · have h0 := H.out.2.at' j hlj
          try dsimp only at h0
          have hjz : (j : Int) < 5 := by omega
          generalize zs j = z at *
          have hv := H.out.2.lt
          go_upto_region 14 with fail
          obtain ⟨x, hx⟩ : ∃ x, x = wiV (E p q) z := ⟨_, rfl⟩
          obtain ⟨y, hy⟩ : ∃ y, y = wiB (E p q) z := ⟨_, rfl⟩
          have hqx : (x != x) = false := by simp
          have hqy : (y != y) = false := by simp
          have HQ := Lib.hid (And.intro hqx hqy)
          have HE := Lib.hid (And.intro hx hy)
          clear hx hy hqx hqy h0
          have HI0 := Lib.hid H.out.1
          have c0 := (hI.out.box HI0.out).c0
          have c1 := (hI.out.box HI0.out).c1
          go_wp2_with fail
          refine (within_int p q z wr (by omega) (by omega)).mono ?_
          rintro _ X1 ⟨rfl, b1⟩
          rw [← HE.out.1, ← HE.out.2]
          have HI1 := Lib.hid (hI.out.after HI0.out b1)
          have HR1 := Lib.hid (H.out.2.after b1)
          clear b1 c0 c1 HI0
          have c0 := (hI.out.box HI1.out).c0
          have c1 := (hI.out.box HI1.out).c1
          go_wp2_with fail
          refine (refWithin_any p q z X1 (by omega) (by omega)).mono ?_
          rintro _ X2 ⟨rfl, b2⟩
          rw [← HE.out.1, ← HE.out.2]
          have HI2 := Lib.hid (And.intro (hI.out.after HI1.out b2) (HR1.out.after b2))
          clear b2 c0 c1 HI1 HR1
          have hqx := HQ.out.1
          have hqy := HQ.out.2
          have e1 : IntKind.i64.wrap ((j : Int) + 1) = (j : Int) + 1 := IntWalk.i64_in _ (by omega)
          clear HE HQ
          go_wp2_with fail
          exact ⟨⟨j + 1, by omega, by simp, HI2⟩, by simp [intOf] <;> omega⟩
        · obtain rfl : j = 5 := by omega
          have HI0 := Lib.hid H.out.1
          clear H
          obtain ⟨n1, hn1⟩ : ∃ n1, n1 = Co p q := ⟨_, rfl⟩
          obtain ⟨n2, hn2⟩ : ∃ n2, n2 = Un p q := ⟨_, rfl⟩
          have hqx : ((n1 : Int) != (n1 : Int)) = false := by simp
          have hqy : ((n2 : Int) != (n2 : Int)) = false := by simp
          have HQ := Lib.hid (And.intro hqx hqy)
          have HE := Lib.hid (And.intro hn1 hn2)
          clear hqx hqy hn1 hn2
          have c0 := (hI.out.box HI0.out).c0
          have c1 := (hI.out.box HI0.out).c1
          go_wp2_with fail
          refine (tokens_two p q wr (by omega) (by omega)).mono ?_
          rintro _ X1 ⟨rfl, b1⟩
          rw [← HE.out.1, ← HE.out.2]
          have HI1 := Lib.hid (hI.out.after HI0.out b1)
          clear b1 c0 c1 HI0
          have c0 := (hI.out.box HI1.out).c0
          have c1 := (hI.out.box HI1.out).c1
          go_wp2_with fail
          refine (refTokens_two p q X1 (by omega) (by omega)).mono ?_
          rintro _ X2 ⟨rfl, b2⟩
          rw [← HE.out.1, ← HE.out.2]
          have HI2 := Lib.hid (hI.out.after HI1.out b2)
          clear b2 c0 c1 HI1
          have hqx := HQ.out.1
          have hqy := HQ.out.2
          clear HE HQ
          go_upto_region 23 with fail
          clear hqx hqy
          have HId := Lib.hid (hI.out.after HI2.out (Below.refl _ _).drew)
          have HI0 := HI2
          clear HI2
          obtain ⟨k0, D0⟩ := hI.out.dice HId.out
          have r0 := (hI.out.rule HI0.out).c0
          have r1 := (hI.out.rule HI0.out).c1
          have r2 := (hI.out.rule HI0.out).c2
          have r3 := (hI.out.rule HI0.out).c3
          obtain ⟨⟨za1, za2⟩, ⟨zb1, zb2⟩, ⟨zc1, zc2⟩, ⟨zd1, zd2⟩, zl1, zl2⟩ := HZ.out
          obtain ⟨m0, hm0⟩ : ∃ m, m = modV ra 5 := ⟨_, rfl⟩
          obtain ⟨m1, hm1⟩ : ∃ m, m = modV rb 11 := ⟨_, rfl⟩
          obtain ⟨m2, hm2⟩ : ∃ m, m = modV rc 4 := ⟨_, rfl⟩
          obtain ⟨m3, hm3⟩ : ∃ m, m = modV rd 4 := ⟨_, rfl⟩
          have g1 := modV_in rb 11 (by decide)
          rw [← hm1] at g1
          obtain ⟨g1, g2⟩ := g1
          have e1 : IntKind.i64.wrap (m1 - 1) = m1 - 1 := IntWalk.i64_in _ (by omega)
          have HM := Lib.hid (And.intro hm0 (And.intro hm1 (And.intro hm2 hm3)))
          clear hm0 hm1 hm2 hm3
          go_region_held3 (fun w' => w'.cell? ⟨w.heap.size, 0, none⟩ = some (.int .i64 ra) ∧ w'.cell? ⟨w.heap.size, 1, none⟩ = some (.int .i64 rb) ∧ w'.cell? ⟨w.heap.size, 2, none⟩ = some (.int .i64 rc) ∧ w'.cell? ⟨w.heap.size, 3, none⟩ = some (.int .i64 rd))
            (first | with_reducible exact (hI.out.rule HId.out).held | with_reducible exact (hI.out.rule HI1.out).held | with_reducible exact (hI.out.rule HI2.out).held | exact (hI.out.rule (hI.out.after HI2.out ((Below.refl _ _).alloc (Nat.le_refl _) _))).held)
            (first
              | (have H := M3; go_at_call 18; refine (mod_at Y2 rd 4 (by omega) (by omega) (by omega) (by omega)).mono ?_; rintro _ _ ⟨rfl, rfl⟩
                 rw [← HM.out.2.2.2]
                 clear H)
              | (have H := M2; go_at_call 18; refine (mod_at Y2 rc 4 (by omega) (by omega) (by omega) (by omega)).mono ?_; rintro _ _ ⟨rfl, rfl⟩
                 rw [← HM.out.2.2.1]
                 have M3 : Hid (ra = ra) := Lib.hid rfl
                 clear H)
              | (have H := M1; go_at_call 18; refine (mod_at Y2 rb 11 (by omega) (by omega) (by omega) (by omega)).mono ?_; rintro _ _ ⟨rfl, rfl⟩
                 rw [← HM.out.2.1]
                 have M2 : Hid (ra = ra) := Lib.hid rfl
                 clear H)
              | (have H := HI2; go_at_call 18; refine (mod_at Y2 ra 5 (by omega) (by omega) (by omega) (by omega)).mono ?_; rintro _ _ ⟨rfl, rfl⟩
                 rw [← HM.out.1]
                 have M1 : Hid (ra = ra) := Lib.hid rfl
                 clear H)
              | (have H := HI1; go_at_call 17; refine (rule_any Y1 g _ k1 D1).mono ?_; rintro _ Y2 ⟨sa, sb, sc, sd, k2, rfl, hd2, D2, K2⟩
                 have HI2 := Lib.hid (hI.out.kept HI1.out D2 K2)
                 clear K2 H D1 hd2)
              | (go_at_call 17; refine (rule_any X2.drew g _ k0 D0).mono ?_; rintro _ Y1 ⟨ta, tb, tc, td, k1, rfl, hd1, D1, K1⟩
                 have HI1 := Lib.hid (hI.out.kept HId.out D1 K1)
                 clear K1 D0 hd1))
          rename_i hHeld
          have HI2' := HI2
          clear hHeld r0 r1 r2 r3 HI0 HI1 HId HM e1 D2 HI2 hg2
          have HI2 := HI2'
          clear HI2'
          go_upto_region 24 with fail
          obtain ⟨qs, gq, W4, hW4, hgq, HL3⟩ : ∃ (qs : Nat → Int × Int × Int × Int) (gq : Nat) (W4 : World), W4 = Y2.alloc (.cells #[.int .i64 ra, .int .i64 rb, .int .i64 rc, .int .i64 rd, .int .i64 ta, .int .i64 tb, .int .i64 tc, .int .i64 td, .int .i64 sa, .int .i64 sb, .int .i64 sc, .int .i64 sd, .int .i64 m0, .int .i64 (m1 - 1), .int .i64 m2, .int .i64 m3] 24) ∧ gq = Y2.heap.size ∧ Hid (Iv W4 ∧ QRow W4 gq qs 4) := by
            refine ⟨fun k => match k with | 0 => (ra, rb, rc, rd) | 1 => (ta, tb, tc, td) | 2 => (sa, sb, sc, sd) | _ => (m0, m1 - 1, m2, m3), _, _, rfl, rfl, Lib.hid ⟨hI.out.after HI2.out ((Below.refl _ _).alloc (Nat.le_refl _) _), qrow_new _ _ _ _ _ fun k hk => ?_⟩⟩
            rcases k with _ | _ | _ | _ | k
            · exact ⟨rfl, rfl, rfl, rfl⟩
            · exact ⟨rfl, rfl, rfl, rfl⟩
            · exact ⟨rfl, rfl, rfl, rfl⟩
            · exact ⟨rfl, rfl, rfl, rfl⟩
            · omega
          rw [← hW4, ← hgq]
          clear hW4 hgq HI2
          go_loopw [176] (fun i wr => ∃ j : Nat, j ≤ 4 ∧ i = .int .i64 (j : Int) ∧ Hid (Iv wr ∧ QRow wr gq qs 4)) (fun i _ => 4 - (intOf i).toNat)
          case atStart => exact ⟨0, by decide, rfl, HL3⟩
          case round =>
            obtain ⟨j, hj, rfl, H⟩ := hrel
            clear HL3
            by_cases hlj : j < 4
            · obtain ⟨h0, h1, h2, h3⟩ := H.out.2.at' j hlj
              have hjz : (j : Int) < 4 := by omega
              generalize qs j = qj at *
              obtain ⟨qa, qb, qc, qd⟩ := qj
              dsimp only at h0 h1 h2 h3
              go_upto_region 26 with fail
              have hbV : Below wr.heap.size wr (wr.alloc (.cells #[.int .i64 qa, .int .i64 qb, .int .i64 qc, .int .i64 qd] 24)) := (Below.refl _ _).alloc (Nat.le_refl _) _
              have hRB := ruleC_new wr qa qb qc qd 24
              have hI1 := hI.out.after H.out.1 hbV
              have hI2 := H.out.2.after hbV
              obtain ⟨V3, hV⟩ : ∃ V, V = wr.alloc (.cells #[.int .i64 qa, .int .i64 qb, .int .i64 qc, .int .i64 qd] 24) := ⟨_, rfl⟩
              rw [← hV] at hRB hI1 hI2 ⊢
              generalize wr.heap.size = gb at *
              obtain ⟨Jv, hJa, hJh, hJo, hJV⟩ : ∃ Jv : World → Prop, Hid (∀ W W', Jv W → Below W.heap.size W W' → Jv W') ∧ Hid (∀ W, Jv W → RuleC W gb qa qb qc qd ∧ PBox W gp p q) ∧ Hid (∀ W, Jv W → Iv W ∧ QRow W gq qs 4) ∧ Jv V3 :=
                ⟨fun W => Iv W ∧ QRow W gq qs 4 ∧ RuleC W gb qa qb qc qd, Lib.hid fun W W' h hb => ⟨hI.out.after h.1 hb, h.2.1.after hb, h.2.2.after hb⟩, Lib.hid fun W h => ⟨h.2.2, hI.out.box h.1⟩, Lib.hid fun W h => ⟨h.1, h.2.1⟩, ⟨hI1, hI2, hRB⟩⟩
              have HJ0 := Lib.hid hJV
              have HJd := Lib.hid (hJa.out _ _ hJV (Below.refl _ _).drew)
              clear hV hbV hRB hI1 hI2 h0 h1 h2 h3 H hJV
              obtain ⟨c0, c1, c2, c3, c4, c5⟩ := held6 (hJh.out _ HJ0.out)
              obtain ⟨o, ho⟩ : ∃ o, o = okR qa qb qc qd := ⟨_, rfl⟩
              obtain ⟨v, hv⟩ : ∃ v, v = simV qa qb qc qd p q := ⟨_, rfl⟩
              have hqo : (o != o) = false := by simp
              have hqv : (v != v) = false := by simp
              have HE := Lib.hid (And.intro ho hv)
              clear ho hv
              go_region_held3 (fun w' => w'.cell? ⟨gb, 0, none⟩ = some (.int .i64 qa) ∧ w'.cell? ⟨gb, 1, none⟩ = some (.int .i64 qb) ∧ w'.cell? ⟨gb, 2, none⟩ = some (.int .i64 qc) ∧ w'.cell? ⟨gb, 3, none⟩ = some (.int .i64 qd) ∧ w'.cell? ⟨gp, 0, none⟩ = some (.string ⟨p.toArray⟩) ∧ w'.cell? ⟨gp, 1, none⟩ = some (.string ⟨q.toArray⟩))
                (first | with_reducible exact held6 (hJh.out _ HJd.out) | with_reducible exact held6 (hJh.out _ HJ1.out) | with_reducible exact held6 (hJh.out _ HJ2.out) | with_reducible exact held6 (hJh.out _ HJ3.out) | with_reducible exact held6 (hJh.out _ HJ4.out))
                (first
                  | (have H := HJ3; go_at_call 22; refine (refSimilar_any qa qb qc qd p q Z3 (by omega) (by omega)).mono ?_; rintro _ Z4 ⟨rfl, b4⟩
                     rw [← HE.out.2]
                     have HJ4 := Lib.hid (hJa.out _ _ HJ3.out b4)
                     clear b4 H)
                  | (have H := HJ2; go_at_call 21; refine (similar_any qa qb qc qd p q Z2 (by omega) (by omega)).mono ?_; rintro _ Z3 ⟨rfl, b3⟩
                     rw [← HE.out.2]
                     have HJ3 := Lib.hid (hJa.out _ _ HJ2.out b3)
                     clear b3 H)
                  | (have H := HJ1; go_at_call 20; refine (refValid_any qa qb qc qd Z1).mono ?_; rintro _ Z2 ⟨rfl, b2⟩
                     rw [← HE.out.1]
                     have HJ2 := Lib.hid (hJa.out _ _ HJ1.out b2)
                     clear b2 H)
                  | (go_at_call 19; refine (valid_any qa qb qc qd V3.drew).mono ?_; rintro _ Z1 ⟨rfl, b1⟩
                     rw [← HE.out.1]
                     have HJ1 := Lib.hid (hJa.out _ _ HJd.out b1)
                     clear b1))
              rename_i hHeld
              have HJ5 := HJ4
              clear hHeld c0 c1 c2 c3 c4 c5 HJ0 HJd HJ1 HJ2 HJ3 HJ4 HE
              go_upto_region 28 with fail
              have HJd := Lib.hid (hJa.out _ _ HJ5.out (Below.refl _ _).drew)
              obtain ⟨c0, c1⟩ := (hJh.out _ HJ5.out).2.held
              obtain ⟨m, hm⟩ : ∃ m, m = modV lim 30 := ⟨_, rfl⟩
              have g1 := modV_in lim 30 (by decide)
              rw [← hm] at g1
              obtain ⟨g1, g2⟩ := g1
              have e1 : IntKind.i64.wrap (m - 2) = m - 2 := IntWalk.i64_in _ (by omega)
              have HM := Lib.hid hm
              clear hm
              go_region_held3 (fun w' => w'.cell? ⟨gp, 0, none⟩ = some (.string ⟨p.toArray⟩) ∧ w'.cell? ⟨gp, 1, none⟩ = some (.string ⟨q.toArray⟩))
                (first | with_reducible exact (hJh.out _ HJd.out).2.held | exact (hJh.out _ (hJa.out _ _ HJd.out ((Below.refl _ _).alloc (Nat.le_refl _) _))).2.held)
                (first
                  | (go_at_call 18; refine (mod_at Z4.drew lim 30 (by omega) (by omega) (by omega) (by omega)).mono ?_; rintro _ _ ⟨rfl, rfl⟩
                     rw [← HM.out]))
              rename_i hHeld
              clear hHeld c0 c1 e1 HM
              go_upto_region 29 with fail
              obtain ⟨ks, gk, W5, hW5, hgk, hks, HL4⟩ : ∃ (ks : Nat → Int) (gk : Nat) (W5 : World), W5 = (Z4.alloc (.cells #[.int .i64 (p.length : Int), .int .i64 (m - 2)] 3)).drew ∧ gk = Z4.heap.size ∧ Hid (∀ k, k < 2 → ks k ≤ 1000000) ∧ Hid (Jv W5 ∧ Row W5 gk (fun j => .int .i64 (ks j)) 2) := by
                refine ⟨fun k => match k with | 0 => (p.length : Int) | _ => m - 2, _, _, rfl, rfl, Lib.hid fun k hk => ?_, Lib.hid ⟨hJa.out _ _ HJ5.out (((Below.refl _ _).alloc (Nat.le_refl _) _).drew), Row.after (row_new _ _ _ _ _ fun k hk => ?_) (Below.refl _ _).drew⟩⟩
                · rcases k with _ | k
                  · show (p.length : Int) ≤ 1000000
                    omega
                  · show m - 2 ≤ 1000000
                    omega
                · rcases k with _ | _ | k
                  · rfl
                  · rfl
                  · omega
              rw [← hW5, ← hgk]
              clear hW5 hgk HJ5 HJd
              go_loopw [208] (fun i wr => ∃ t : Nat, t ≤ 2 ∧ i = .int .i64 (t : Int) ∧ Hid (Jv wr ∧ Row wr gk (fun j => .int .i64 (ks j)) 2)) (fun i _ => 2 - (intOf i).toNat)
              case atStart => exact ⟨0, by decide, rfl, HL4⟩
              case round =>
                obtain ⟨t, ht, rfl, H⟩ := hrel
                clear HL4
                by_cases hlt4 : t < 2
                · have h0 := H.out.2.at' t hlt4
                  try dsimp only at h0
                  have htz : (t : Int) < 2 := by omega
                  have hbd := hks.out t hlt4
                  generalize ks t = z at *
                  go_upto_region 31 with fail
                  obtain ⟨lo, hlo⟩ : ∃ x, x = lenLo qa qb qc qd z := ⟨_, rfl⟩
                  obtain ⟨hi, hhi⟩ : ∃ x, x = lenHi qa qb qc qd z := ⟨_, rfl⟩
                  obtain ⟨ok, hok⟩ : ∃ x, x = lenOk qa qb qc qd z := ⟨_, rfl⟩
                  have hq1 : (lo != lo) = false := by simp
                  have hq2 : (hi != hi) = false := by simp
                  have hq3 : (ok != ok) = false := by simp
                  have HQ := Lib.hid (And.intro hq1 (And.intro hq2 hq3))
                  have HE := Lib.hid (And.intro hlo (And.intro hhi hok))
                  clear hq1 hq2 hq3 hlo hhi hok h0
                  have HJ0 := Lib.hid H.out.1
                  obtain ⟨c0, c1, c2, c3, c4, c5⟩ := held6 (hJh.out _ HJ0.out)
                  go_wp2_with fail
                  refine (lengths_all qa qb qc qd z _ hbd).mono ?_
                  rintro _ X5 ⟨rfl, b1⟩
                  rw [← HE.out.1, ← HE.out.2.1, ← HE.out.2.2]
                  have HJ1 := Lib.hid (hJa.out _ _ HJ0.out b1)
                  have HR1 := Lib.hid (H.out.2.after b1)
                  clear b1 c0 c1 c2 c3 c4 c5 HJ0
                  obtain ⟨c0, c1, c2, c3, c4, c5⟩ := held6 (hJh.out _ HJ1.out)
                  go_wp2_with fail
                  refine (refLengths_all qa qb qc qd z X5 hbd).mono ?_
                  rintro _ X6 ⟨rfl, b2⟩
                  rw [← HE.out.1, ← HE.out.2.1, ← HE.out.2.2]
                  have HJ2 := Lib.hid (And.intro (hJa.out _ _ HJ1.out b2) (HR1.out.after b2))
                  clear b2 c0 c1 c2 c3 c4 c5 HJ1 HR1
                  obtain ⟨hq1, hq2, hq3⟩ := HQ.out
                  have e1 : IntKind.i64.wrap ((t : Int) + 1) = (t : Int) + 1 := IntWalk.i64_in _ (by omega)
                  clear HE HQ
                  go_wp2_with fail
                  exact ⟨⟨t + 1, by omega, by simp, HJ2⟩, by simp [intOf] <;> omega⟩
                · have HJ2 := Lib.hid (hJo.out _ H.out.1)
                  have e1 : IntKind.i64.wrap ((j : Int) + 1) = (j : Int) + 1 := IntWalk.i64_in _ (by omega)
                  obtain rfl : t = 2 := by omega
                  clear H
                  go_wp2_with fail
                  exact ⟨⟨j + 1, by omega, by simp, HJ2⟩, by simp [intOf] <;> omega⟩
            · have HI2 := Lib.hid (hIv.out _ H.out.1)
              have e1 : IntKind.i64.wrap ((k : Int) + 1) = (k : Int) + 1 := IntWalk.i64_in _ (by omega)
              obtain rfl : j = 4 := by omega
              clear H
              go_wp2_with fail
              exact ⟨⟨k + 1, by omega, by simp, HI2⟩, by simp [intOf] <;> omega⟩
    · obtain rfl : k = 5 := by omega
      have H0 := Lib.hid H.out.1
      clear H
      obtain ⟨k0, D0⟩ := H0.out.dice
      have hlog : w.heap.size ≤ g := by
        have h1 := H0.out.lo
        have h2 := H0.out.rg
        omega
      go_wp2_with fail
      refine (query_texts wr g _ k0 6 D0 (by decide)).mono ?_
      rintro _ Q1 ⟨v1, x1, k1, rfl, T1, l1, D1, K1, N1⟩
      obtain ⟨a1, c1, rfl⟩ := T1.len
      have H1 := Lib.hid (H0.out.kept D1 K1)
      have HT1 := Lib.hid (And.intro T1 N1)
      clear T1 N1 D0 H0 K1
      go_wp2_with fail
      refine (query_texts Q1 g _ k1 6 D1 (by decide)).mono ?_
      rintro _ Q2 ⟨v2, x2, k2, rfl, T2, l2, D2, K2, N2⟩
      obtain ⟨a2, c2, rfl⟩ := T2.len
      have H2 := Lib.hid (H1.out.kept D2 K2)
      have HT2 := Lib.hid (And.intro (HT1.out.1.kept K2 (fun _ => HT1.out.2)) (And.intro HT1.out.2 (And.intro T2 N2)))
      clear T2 N2 D1 H1 K2 HT1
      go_wp2_with fail
      refine (query_texts Q2 g _ k2 4 D2 (by decide)).mono ?_
      rintro _ Q3 ⟨v3, x3, k3, rfl, T3, l3, D3, K3, N3⟩
      obtain ⟨a3, c3, rfl⟩ := T3.len
      have H3 := Lib.hid (H2.out.kept D3 K3)
      have HT3 := Lib.hid (And.intro (HT2.out.1.kept K3 (fun _ => HT2.out.2.1)) (And.intro (HT2.out.2.2.1.kept K3 (fun _ => HT2.out.2.2.2)) T3))
      clear T3 N3 D2 H2 K3 HT2 D3
      go_upto_region 39 with fail
      obtain ⟨gt, W7, hW7, hgt, HL5⟩ : ∃ (gt : Nat) (W7 : World), W7 = Q3.alloc (.cells #[.slice xa xs.length xc, .slice ya ys.length yc, .slice a1 x1.length c1, .slice a2 x2.length c2, .slice xa xs.length xc, .slice a3 x3.length c3] 45) ∧ gt = Q3.heap.size ∧ Hid (Below w.heap.size w W7 ∧ TRow W7 gt 3) := by
        refine ⟨_, _, rfl, rfl, Lib.hid ⟨H3.out.bel.trans (((Below.refl _ _).alloc (Nat.le_refl _) _).mono H3.out.bel.size), trow_new _ _ _ _ fun k hk => ?_⟩⟩
        rcases k with _ | _ | _ | k
        · exact ⟨xa, xc, xs, ya, yc, ys, rfl, rfl, H3.out.x, H3.out.y, by omega, by omega⟩
        · exact ⟨a1, c1, x1, a2, c2, x2, rfl, rfl, HT3.out.1, HT3.out.2.1, by omega, by omega⟩
        · exact ⟨xa, xc, xs, a3, c3, x3, rfl, rfl, H3.out.x, HT3.out.2.2, by omega, by omega⟩
        · omega
      rw [← hW7, ← hgt]
      clear hW7 hgt H3 HT3
      go_loopw [256] (fun i wr => ∃ t : Nat, t ≤ 3 ∧ i = .int .i64 (t : Int) ∧ Hid (Below w.heap.size w wr ∧ TRow wr gt 3)) (fun i _ => 3 - (intOf i).toNat)
      case atStart => exact ⟨0, by decide, rfl, HL5⟩
      case round =>
        obtain ⟨t, ht, rfl, H⟩ := hrel
        clear HL5
        by_cases hlt5 : t < 3
        · obtain ⟨u, cu, us, v, cv, vs, h0, h1, U, V, lu, lv⟩ := H.out.2.at' t hlt5
          have htz : (t : Int) < 3 := by omega
          have HUV := Lib.hid (And.intro U V)
          clear U V
          go_upto_region 41 with fail
          obtain ⟨gv, W8, hW8, hgv, Kv, hKa, hKh, hKt, hKo, HK0⟩ : ∃ (gv : Nat) (W8 : World), W8 = wr.alloc (.cells #[.slice u us.length cu, .slice v vs.length cv] 45) ∧ gv = wr.heap.size ∧ ∃ Kv : World → Prop, Hid (∀ W W', Kv W → Below W.heap.size W W' → Kv W') ∧
              Hid (∀ W, Kv W → W.cell? ⟨gv, 0, none⟩ = some (.slice u us.length cu) ∧ W.cell? ⟨gv, 1, none⟩ = some (.slice v vs.length cv)) ∧ Hid (∀ W, Kv W → Texts W W.heap.size (.slice u us.length cu) us ∧ Texts W W.heap.size (.slice v vs.length cv) vs) ∧ Hid (∀ W, Kv W → Below w.heap.size w W ∧ TRow W gt 3) ∧ Hid (Kv W8) := by
            have hb : Below wr.heap.size wr (wr.alloc (.cells #[.slice u us.length cu, .slice v vs.length cv] 45)) := (Below.refl _ _).alloc (Nat.le_refl _) _
            have hn := two_new wr (.slice u us.length cu) (.slice v vs.length cv) 45
            refine ⟨_, _, rfl, rfl, fun W => wr.heap.size < W.heap.size ∧ (W.cell? ⟨wr.heap.size, 0, none⟩ = some (.slice u us.length cu) ∧ W.cell? ⟨wr.heap.size, 1, none⟩ = some (.slice v vs.length cv)) ∧ (Texts W W.heap.size (.slice u us.length cu) us ∧ Texts W W.heap.size (.slice v vs.length cv) vs) ∧ Below w.heap.size w W ∧ TRow W gt 3,
              Lib.hid fun W W' h hb => ⟨Nat.lt_of_lt_of_le h.1 hb.size, ⟨(hb.cell (p := ⟨wr.heap.size, 0, none⟩) h.1).trans h.2.1.1, (hb.cell (p := ⟨wr.heap.size, 1, none⟩) h.1).trans h.2.1.2⟩, ⟨h.2.2.1.1.to hb, h.2.2.1.2.to hb⟩, h.2.2.2.1.trans (hb.mono h.2.2.2.1.size), h.2.2.2.2.after hb⟩,
              Lib.hid fun W h => h.2.1, Lib.hid fun W h => h.2.2.1, Lib.hid fun W h => h.2.2.2, Lib.hid ⟨by simp, hn, ⟨HUV.out.1.to hb, HUV.out.2.to hb⟩, H.out.1.trans (hb.mono H.out.1.size), H.out.2.after hb⟩⟩
          rw [← hW8, ← hgv]
          have HKd := Lib.hid (hKa.out _ _ HK0.out (Below.refl _ _).drew)
          obtain ⟨c0, c1⟩ := hKh.out _ HK0.out
          clear hW8 hgv HUV H h0 h1
          obtain ⟨n, hn⟩ : ∃ n, n = comV us vs := ⟨_, rfl⟩
          obtain ⟨m, hm⟩ : ∃ m, m = uniV us vs := ⟨_, rfl⟩
          have hqn : ((n : Int) != (n : Int)) = false := by simp
          have hqm : ((m : Int) != (m : Int)) = false := by simp
          have HE := Lib.hid (And.intro hn hm)
          clear hn hm
          go_region_held3 (fun w' => w'.cell? ⟨gv, 0, none⟩ = some (.slice u us.length cu) ∧ w'.cell? ⟨gv, 1, none⟩ = some (.slice v vs.length cv))
            (first | with_reducible exact hKh.out _ HKd.out | with_reducible exact hKh.out _ HK1.out | with_reducible exact hKh.out _ HK2.out | with_reducible exact hKh.out _ HK3.out | with_reducible exact hKh.out _ HK4.out)
            (first
              | (have H := HK3; go_at_call 29; refine (refUnion_any _ _ us vs Z3 (hKt.out _ HK3.out).1.strs (hKt.out _ HK3.out).2.strs (by omega) (by omega)).mono ?_; rintro _ Z4 ⟨rfl, b4⟩
                 rw [← HE.out.2]
                 have HK4 := Lib.hid (hKa.out _ _ HK3.out (b4.below _))
                 clear b4 H)
              | (have H := HK2; go_at_call 28; refine (union_any _ _ us vs Z2 (hKt.out _ HK2.out).1 (hKt.out _ HK2.out).2 (by omega) (by omega)).mono ?_; rintro _ Z3 ⟨rfl, b3⟩
                 rw [← HE.out.2]
                 have HK3 := Lib.hid (hKa.out _ _ HK2.out (b3.below _))
                 clear b3 H)
              | (have H := HK1; go_at_call 27; refine (refCommon_any _ _ us vs Z1 (hKt.out _ HK1.out).1.strs (hKt.out _ HK1.out).2.strs (by omega) (by omega)).mono ?_; rintro _ Z2 ⟨rfl, b2⟩
                 rw [← HE.out.1]
                 have HK2 := Lib.hid (hKa.out _ _ HK1.out (b2.below _))
                 clear b2 H)
              | (go_at_call 26; refine (common_any _ _ us vs W8.drew (hKt.out _ HKd.out).1 (hKt.out _ HKd.out).2 (by omega) (by omega)).mono ?_; rintro _ Z1 ⟨rfl, b1⟩
                 rw [← HE.out.1]
                 have HK1 := Lib.hid (hKa.out _ _ HKd.out (b1.below _))
                 clear b1))
          rename_i hHeld
          have HK5 := Lib.hid (hKo.out _ HK4.out)
          have e1 : IntKind.i64.wrap ((t : Int) + 1) = (t : Int) + 1 := IntWalk.i64_in _ (by omega)
          clear hHeld c0 c1 HK0 HKd HK1 HK2 HK3 HK4 HE hKa hKh hKt hKo
          go_wp2_with fail
          exact ⟨⟨t + 1, by omega, by simp, HK5⟩, by simp [intOf] <;> omega⟩
        · have HK := Lib.hid H.out.1
          obtain rfl : t = 3 := by omega
          clear H
          go_wp2_with fail
          go_ret
          exact ⟨rfl, HK.out⟩
end Go.Proofs.Ytgmnjiiommbjaaa.dist
