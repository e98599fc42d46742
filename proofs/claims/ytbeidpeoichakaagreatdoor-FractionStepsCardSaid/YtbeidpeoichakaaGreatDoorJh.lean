/- The reference: FromInt, ValidBig, lowest, Make, Of. -/
import Derived.Test.YtbeidpeoichakaaGreatDoorJf
import Derived.Test.YtbeidpeoichakaaGreatDoorGc
import Derived.Test.YtbeidpeoichakaaGreatDoorGf
import Derived.Test.YtbeidpeoichakaaGreatDoorHf
set_option linter.unusedSimpArgs false
namespace Go.Proofs.YtbeidpeoichakaaGreatDoor.jh
open Go.RowKit Go.Proofs.YtbeidpeoichakaaGreatDoor.fm Go.Proofs.YtbeidpeoichakaaGreatDoor.mem Go.Proofs.YtbeidpeoichakaaGreatDoor.fa Go.Proofs.YtbeidpeoichakaaGreatDoor.fb Go.Proofs.YtbeidpeoichakaaGreatDoor.fr Go.Proofs.YtbeidpeoichakaaGreatDoor.fu Go.Proofs.YtbeidpeoichakaaGreatDoor.fv Go.Proofs.YtbeidpeoichakaaGreatDoor.fw Go.Proofs.YtbeidpeoichakaaGreatDoor.fx Go.Proofs.YtbeidpeoichakaaGreatDoor.fy Go.Proofs.YtbeidpeoichakaaGreatDoor.fz Go.Proofs.YtbeidpeoichakaaGreatDoor.gb Go.Proofs.YtbeidpeoichakaaGreatDoor.gc Go.Proofs.YtbeidpeoichakaaGreatDoor.gd Go.Proofs.YtbeidpeoichakaaGreatDoor.hf Go.Proofs.YtbeidpeoichakaaGreatDoor.ja Go.Proofs.YtbeidpeoichakaaGreatDoor.jf Go.Proofs.YtbeidpeoichakaaGreatDoor.jg

theorem two_words (u : Nat) (hu : u < 18446744073709551616) : ok [u % 4294967296, u / 4294967296] ∧ val [u % 4294967296, u / 4294967296] = u := by
  refine ⟨fun x hx => by simp at hx; omega, by simp only [val]; omega⟩

set_option maxRecDepth 100000 in
set_option maxHeartbeats 2000000 in
theorem rfromInt_any (w : World) (n : Int) (h1 : -9223372036854775808 ≤ n) (h2 : n < 9223372036854775808) :
    Calls Tryz.prog 10 #[.int .i64 n] w fun e w' => ∃ v, e = .returned v ∧ IsBig w' v n ∧ Below w.heap.size w w' := by
  go_enter Tryz.func10, Tryz.ntmps10
  have hA := box1_made w
  have HA := Lib.hid hA
  have end_ : ∀ (neg : Bool) (m : Nat) (cs : Array Value), m < 18446744073709551616 → cs = (ws [m % 4294967296, m / 4294967296]).toArray → Calls Tryz.prog 36 #[.bool neg, .slice (some ⟨w.heap.size + 1, 0, none⟩) 2 2] ((w.alloc (.cells #[.bool false, .slice none 0 0] 28)).alloc (.cells cs 59)) fun e w' => ∃ v, e = .returned v ∧ IsBig w' v (sgnd neg m) ∧ Box w w' w.heap.size := by
    intro neg m cs hm hcs
    obtain ⟨ho, hv⟩ := two_words m hm
    have hsz : (w.alloc (.cells #[.bool false, .slice none 0 0] 28)).heap.size = w.heap.size + 1 := by simp
    have hr := rd_new (w.alloc (.cells #[.bool false, .slice none 0 0] 28)) _ cs hcs 59 ho
    rw [hsz] at hr
    have hb1 : Below (w.alloc (.cells #[.bool false, .slice none 0 0] 28)).heap.size (w.alloc (.cells #[.bool false, .slice none 0 0] 28)) ((w.alloc (.cells #[.bool false, .slice none 0 0] 28)).alloc (.cells cs 59)) := (Below.refl _ _).alloc (Nat.le_refl _) _
    refine (rbig_any _ neg (some ⟨w.heap.size + 1, 0, none⟩) 2 [m % 4294967296, m / 4294967296] (hr.more (by simp)) (by simp)).mono ?_
    rintro _ w' ⟨v, rfl, hI, hb⟩
    rw [hv] at hI
    exact ⟨v, rfl, hI, HA.out.after (hb1.trans (hb.mono hb1.size))⟩
  have HE := Lib.hid end_
  clear end_ hA
  by_cases hn : n < 0
  · have hs : sgnd true n.natAbs = n := by have := sgnd_self n; rwa [decide_eq_true hn] at this
    have hz : IntKind.u64.wrap (-IntKind.u64.wrap n) = ((n.natAbs : Nat) : Int) := by show (-(n % 18446744073709551616)) % 18446744073709551616 = _; omega
    have HS := Lib.hid (And.intro hs hn)
    clear hs
    go_wp2_with fail
    refine (HE.out true n.natAbs _ (by omega) (by simp [ws])).mono ?_
    rintro _ W2 ⟨v2, rfl, hI, B2⟩
    rw [HS.out.1] at hI
    obtain ⟨A2, c2, rfl, R2⟩ := hI
    have r0 := B2.r0
    have r1 := B2.r1
    have f0 := B2.fr 0
    have f1 := B2.fr 1
    obtain ⟨e1, e2, e3, e4⟩ := B2.filled R2
    have HC := Lib.hid (And.intro e3 e4)
    have HF := Lib.hid (And.intro e1 e2)
    clear e1 e2 e3 e4 R2 B2 hz hn
    go_wp2
    (try simp only [Exit.inBlock, Exit.then])
    refine bodyPost_ret (results_big1 rfl _ _ w.heap.size rfl HC.out.1 HC.out.2) rfl ?_
    exact ⟨_, rfl, HF.out.1, HF.out.2⟩
  · have hs : sgnd false n.natAbs = n := by have := sgnd_self n; rwa [decide_eq_false hn] at this
    obtain ⟨m, rfl⟩ : ∃ m : Nat, n = (m : Int) := ⟨n.natAbs, by omega⟩
    rw [Int.natAbs_natCast] at hs
    have HS := Lib.hid hs
    clear hs
    go_wp2_with fail
    refine (HE.out false m _ (by omega) (by simp [ws])).mono ?_
    rintro _ W2 ⟨v2, rfl, hI, B2⟩
    rw [HS.out] at hI
    obtain ⟨A2, c2, rfl, R2⟩ := hI
    have r0 := B2.r0
    have r1 := B2.r1
    have f0 := B2.fr 0
    have f1 := B2.fr 1
    obtain ⟨e1, e2, e3, e4⟩ := B2.filled R2
    have HC := Lib.hid (And.intro e3 e4)
    have HF := Lib.hid (And.intro e1 e2)
    clear e1 e2 e3 e4 R2 B2 hn
    go_wp2
    (try simp only [Exit.inBlock, Exit.then])
    refine bodyPost_ret (results_big1 rfl _ _ w.heap.size rfl HC.out.1 HC.out.2) rfl ?_
    exact ⟨_, rfl, HF.out.1, HF.out.2⟩

set_option maxRecDepth 100000 in
set_option maxHeartbeats 2000000 in
theorem rvalidBig_any (w : World) (a : Value) (x : Int) (ha : IsBig w a x) (hl : (digs x.natAbs).length ≤ 256) :
    Calls Tryz.prog 52 #[a] w fun e w' => e = .returned (.bool true) ∧ Below w.heap.size w w' := by
  obtain ⟨A, c, rfl, R⟩ := ha
  go_enter Tryz.func52, Tryz.ntmps52
  have hb := (Below.refl w.heap.size w).alloc (Nat.le_refl _) (.cells #[.bool (decide (x < 0)), .slice A (digs x.natAbs).length c] 28)
  have HB := Lib.hid hb
  by_cases h0 : x = 0
  · subst h0
    rw [show (digs (0 : Int).natAbs).length = 0 from rfl, show decide ((0 : Int) < 0) = false from rfl] at *
    clear hb
    go_wp2_with fail
    go_ret
    exact ⟨rfl, HB.out⟩
  · have hn : (digs x.natAbs).length ≠ 0 := fun e => h0 (by have := digs_len_zero.1 e; omega)
    have hnr := nrm_digs x.natAbs
    obtain ⟨b, off, rfl, hbl, hc⟩ := R.cells (by omega)
    obtain ⟨l, hlen⟩ : ∃ l, (digs x.natAbs).length = l + 1 := ⟨(digs x.natAbs).length - 1, by omega⟩
    have c1 := (hb.cell (p := ⟨b, off + l, none⟩) hbl).trans (hc l (by omega))
    have hlast : (digs x.natAbs).getD l 0 ≠ 0 := by
      rcases hnr with e | e
      · rw [e] at hn; simp at hn
      · rw [hlen] at e; exact e
    obtain ⟨y, hy⟩ : ∃ y, y = (digs x.natAbs).getD l 0 := ⟨_, rfl⟩
    rw [← hy] at c1 hlast
    rw [hlen] at c1 hl HB ⊢
    have hyz : (((y : Nat) : Int) == 0) = false := beq_eq_false_iff_ne.2 (by omega)
    have hyz2 : (((y : Nat) : Int) != 0) = true := by rw [bne_iff_ne]; omega
    have i1 : ((l + 1 : Nat) : Int) - 1 = (l : Int) := by omega
    have i2 : (0 : Int) < ((l + 1 : Nat) : Int) := by omega
    have i3 : ((l + 1 : Nat) : Int) ≤ 256 := by omega
    clear hn hnr hc hlen hy hb h0
    go_wp2_with fail
    go_ret
    exact ⟨rfl, HB.out⟩

theorem not_beq (a b : Bool) : (!a == b) = (a != b) := by cases a <;> cases b <;> rfl

theorem sgnd_tdiv (neg : Bool) (m g : Nat) : (sgnd neg m).tdiv (g : Int) = sgnd neg (m / g) := by
  unfold sgnd
  cases neg with
  | false => simp [Int.ofNat_tdiv]
  | true => simp [Int.neg_tdiv, Int.ofNat_tdiv]

/-- What a fraction of z and d is, in lowest terms. -/
def FracOf (w : World) (z : Int) (d : Nat) (e : Ending) (w' : World) : Prop :=
  ∃ (A : Option Addr) (c : Nat) (A' : Option Addr) (c' : Nat) (Z : Int) (D : Nat), e = .returned (.agg #[.bool (decide (Z < 0)), .slice A (digs Z.natAbs).length c, .bool false, .slice A' (digs D).length c']) ∧
    Rd w' w'.heap.size A c (digs Z.natAbs) ∧ Rd w' w'.heap.size A' c' (digs D) ∧ Below w.heap.size w w' ∧ Hid (Z = z.tdiv (Nat.gcd z.natAbs d : Nat) ∧ D = d / Nat.gcd z.natAbs d)

theorem results_frac1 {fn : Func} {p : Tmp} (h : fn.results = #[.cell p 30]) (tmps : Array Value) (w : World) (g : Nat) {v0 v1 v2 v3 : Value} (hp : tmps.getD p undef = .pointer (some ⟨g, 0, none⟩))
    (c0 : w.cell? ⟨g, 0, none⟩ = some v0) (c1 : w.cell? ⟨g, 1, none⟩ = some v1) (c2 : w.cell? ⟨g, 2, none⟩ = some v2) (c3 : w.cell? ⟨g, 3, none⟩ = some v3) : (results fn tmps).run Tryz.prog w = .ok (.agg #[v0, v1, v2, v3]) w := by
  have hp' : tmps[p]?.getD undef = .pointer (some ⟨g, 0, none⟩) := by simpa using hp
  simp [results, h, hp', asAddr, go_sem, c0, c1, c2, c3]

set_option maxRecDepth 100000 in
set_option maxHeartbeats 4000000 in
theorem rlowest_any (w : World) (a b : Value) (x y : Int) (ha : IsBig w a x) (hb : IsBig w b y) (hl : (digs x.natAbs).length ≤ 50000) (hl' : (digs y.natAbs).length ≤ 50000) (hy : y ≠ 0) :
    Calls Tryz.prog 58 #[a, b] w (FracOf w (turned x y) y.natAbs) := by
  obtain ⟨A, c, rfl, R⟩ := ha
  obtain ⟨A', c', rfl, R'⟩ := hb
  go_enter Tryz.func58, Tryz.ntmps58
  have hB := fboxes_made w (decide (x < 0)) (decide (y < 0)) (.slice A (digs x.natAbs).length c) (.slice A' (digs y.natAbs).length c')
  obtain ⟨W, hW⟩ : ∃ W, W = (((w.alloc (.cells #[.bool (decide (x < 0)), .slice A (digs x.natAbs).length c] 28)).alloc (.cells #[.bool (decide (y < 0)), .slice A' (digs y.natAbs).length c'] 28)).alloc (.cells #[.bool false, .slice none 0 0, .bool false, .slice none 0 0] 30)) := ⟨_, rfl⟩
  rw [← hW] at hB
  have HB := Lib.hid hB
  have a0 := hB.a0
  have a1 := hB.a1
  have b0 := hB.b0
  have b1 := hB.b1
  have HY := Lib.hid hy
  clear hB hy
  go_upto_region 1 with fail
  rw [← hW]
  clear hW
  by_cases hx : x = 0
  · have hxl : (((digs x.natAbs).length : Int) == 0) = true := by rw [hx]; rfl
    have HX := Lib.hid hx
    clear hx
    go_wp2_with fail
    refine (rfromInt_any W 1 (by decide) (by decide)).mono ?_
    rintro _ W1 ⟨v1, rfl, hI1, hb1⟩
    obtain ⟨A1, c1, rfl, R1⟩ := hI1
    have F1 := HB.out.F.after hb1
    have r0 := F1.r0
    have r1 := F1.r1
    have r2 := F1.r2
    have r3 := F1.r3
    have f0 := F1.fr 0
    have f1 := F1.fr 1
    have f2 := F1.fr 2
    have f3 := F1.fr 3
    rw [show (1 : Int).natAbs = 1 from rfl] at R1
    obtain ⟨e, d0, d1, d2, d3⟩ := F1.filled (z := 0) (d := 1) (A := none) (c := 0) (by rw [show digs (0 : Int).natAbs = [] from digs_zero]; exact Rd.nil _ _ _ _) R1 _ rfl
    simp only [show digs (0 : Int).natAbs = [] from digs_zero, List.length_nil, show decide ((0 : Int) < 0) = false from rfl] at e d0 d1 d2 d3
    have HE := Lib.hid (And.intro e (And.intro d0 (And.intro d1 (And.intro d2 d3))))
    have HR1 := Lib.hid (And.intro R1 (And.intro F1 hb1))
    clear e d0 d1 d2 d3 R1 F1 hb1 a0 a1 b0 b1
    rw [show (1 : Int).natAbs = 1 from rfl, show decide ((1 : Int) < 0) = false from rfl]
    go_wp2
    (try simp only [Exit.inBlock, Exit.then])
    refine bodyPost_ret (results_frac1 rfl _ _ (w.heap.size + 1 + 1) rfl HE.out.2.1 HE.out.2.2.1 HE.out.2.2.2.1 HE.out.2.2.2.2) rfl ?_
    obtain ⟨Av, cv, Av', cv', ev, Rv, Rv'⟩ := HE.out.1.1
    injection ev with ev
    have hz : turned x y = 0 := by unfold turned; rw [HX.out]; exact sgnd_zero _
    refine ⟨none, 0, A1, c1, 0, 1, rfl, Rd.nil _ _ _ _, ?_, HE.out.1.2, Lib.hid ⟨?_, ?_⟩⟩
    · simp only [Array.mk.injEq, List.cons.injEq, Value.slice.injEq, and_true, true_and] at ev
      obtain ⟨_, _, e5, e6⟩ := ev
      subst e5 e6
      exact Rv'
    · rw [hz]; simp
    · rw [hz, show (0 : Int).natAbs = 0 from rfl, Nat.gcd_zero_left, Nat.div_self (by have := HY.out; omega)]
  · have hxl : (((digs x.natAbs).length : Int) == 0) = false := beq_eq_false_iff_ne.2 (by have : (digs x.natAbs).length ≠ 0 := fun e => hx (by have := digs_len_zero.1 e; omega); omega)
    have HX := Lib.hid hx
    clear hx
    go_wp2_with fail
    have hx0 : x.natAbs ≠ 0 := by have := HX.out; omega
    have hy0 : y.natAbs ≠ 0 := by have := HY.out; omega
    refine (rgcd_any W A A' c c' x.natAbs y.natAbs (HB.out.rd R) (HB.out.rd R') hx0 hy0 (by omega) (by omega)).mono ?_
    rintro _ W1 ⟨A1, c1, rfl, R1, hb1⟩
    have hg0 : Nat.gcd x.natAbs y.natAbs ≠ 0 := fun e => hx0 (Nat.gcd_eq_zero_iff.1 e).1
    have hgl : (digs (Nat.gcd x.natAbs y.natAbs)).length ≤ 100000 := Nat.le_trans (len_mono (Nat.gcd_le_left _ (by omega))) (by omega)
    obtain ⟨g, hg⟩ : ∃ g, g = Nat.gcd x.natAbs y.natAbs := ⟨_, rfl⟩
    rw [← hg] at R1 hg0 hgl ⊢
    have H1 := Lib.hid (HB.out.after hb1)
    have HGG := Lib.hid hg
    have a1 := H1.out.a1
    clear hb1 hg a0 b0 b1
    go_wp2_with fail
    refine (rdiv_any W1 A A1 c c1 x.natAbs g (H1.out.rd R) R1 hg0 (by omega) hgl).mono ?_
    rintro _ W2 ⟨A2, c2, A3, c3, rfl, R2, _, hb2⟩
    have H2 := Lib.hid (And.intro (H1.out.after hb2) (And.intro R2 ((R1.below hb2).more hb2.size)))
    have b1 := H2.out.1.b1
    clear hb2 a1 R1 R2
    go_wp2_with fail
    refine (rdiv_any W2 A' A1 c' c1 y.natAbs g (H2.out.1.rd R') H2.out.2.2 hg0 (by omega) hgl).mono ?_
    rintro _ W3 ⟨A4, c4, A5, c5, rfl, R4, _, hb3⟩
    have H3 := Lib.hid (And.intro (H2.out.1.after hb3) (And.intro ((H2.out.2.1.below hb3).more hb3.size) R4))
    have a0 := H3.out.1.a0
    have b0 := H3.out.1.b0
    clear hb3 b1 R4
    go_wp2_with fail
    clear a0 b0
    refine (rbig_any W3 _ A2 c2 (digs (x.natAbs / g)) H3.out.2.1 (by have := len_mono (Nat.div_le_self x.natAbs g); omega)).mono ?_
    rintro _ W4 ⟨v4, rfl, hI4, hb4⟩
    rw [val_digs] at hI4
    obtain ⟨A6, c6, rfl, R6⟩ := hI4
    have H4 := Lib.hid (And.intro (H3.out.1.after hb4) (And.intro R6 ((H3.out.2.2.below hb4).more hb4.size)))
    clear hb4 R6
    obtain ⟨Z, hZ⟩ : ∃ Z, Z = sgnd (!decide (x < 0) == decide (y < 0)) (x.natAbs / g) := ⟨_, rfl⟩
    rw [← hZ] at H4 ⊢
    have HZ := Lib.hid hZ
    clear hZ
    go_wp2_with fail
    refine (rbig_any W4 false A4 c4 (digs (y.natAbs / g)) H4.out.2.2 (by have := len_mono (Nat.div_le_self y.natAbs g); omega)).mono ?_
    rintro _ W5 ⟨v5, rfl, hI5, hb5⟩
    rw [val_digs] at hI5
    obtain ⟨D, hD⟩ : ∃ D, D = y.natAbs / g := ⟨_, rfl⟩
    rw [← hD] at hI5
    obtain ⟨A7, c7, rfl, R7⟩ := isBig_nat hI5
    have HD := Lib.hid hD
    have F5 := H4.out.1.F.after hb5
    have r0 := F5.r0
    have r1 := F5.r1
    have r2 := F5.r2
    have r3 := F5.r3
    have f0 := F5.fr 0
    have f1 := F5.fr 1
    have f2 := F5.fr 2
    have f3 := F5.fr 3
    have R6' := (H4.out.2.1.below hb5).more hb5.size
    obtain ⟨e, d0, d1, d2, d3⟩ := F5.filled R6' R7 _ rfl
    have HE := Lib.hid (And.intro e (And.intro d0 (And.intro d1 (And.intro d2 d3))))
    clear e d0 d1 d2 d3 R6' R7 F5 hb5 hI5 hD H1 H2 H3 H4
    go_wp2
    (try simp only [Exit.inBlock, Exit.then])
    refine bodyPost_ret (results_frac1 rfl _ _ (w.heap.size + 1 + 1) rfl HE.out.2.1 HE.out.2.2.1 HE.out.2.2.2.1 HE.out.2.2.2.2) rfl ?_
    obtain ⟨Av, cv, Av', cv', ev, Rv, Rv'⟩ := HE.out.1.1
    injection ev with ev
    simp only [Array.mk.injEq, List.cons.injEq, Value.slice.injEq, and_true, true_and] at ev
    obtain ⟨⟨_, _⟩, _, _⟩ := ev
    subst_vars
    exact ⟨Av, cv, Av', cv', _, _, rfl, Rv, Rv', HE.out.1.2, Lib.hid ⟨by rw [not_beq]; unfold turned; rw [sgnd_abs]; exact (sgnd_tdiv _ _ _).symm, by unfold turned; rw [sgnd_abs]⟩⟩

theorem fracOf_err {w : World} {z : Int} {d : Nat} {e : Ending} {w' : World} (h : FracOf w z d e w') : ∃ v, e = .returned v ∧ IsFrac w' v (z.tdiv (Nat.gcd z.natAbs d : Nat)) (d / Nat.gcd z.natAbs d) ∧ Below w.heap.size w w' := by
  obtain ⟨A, c, A', c', Z, D, he, R, R', hb, hk⟩ := h
  obtain ⟨h1, h2⟩ := hk.out
  subst h1 h2
  exact ⟨_, he, ⟨A, c, A', c', rfl, R, R'⟩, hb⟩

set_option maxRecDepth 100000 in
set_option maxHeartbeats 4000000 in
theorem rmake_any (w : World) (a b : Value) (x y : Int) (ha : IsBig w a x) (hb : IsBig w b y) (hl : (digs x.natAbs).length ≤ 256) (hl' : (digs y.natAbs).length ≤ 256) (hy : y ≠ 0) :
    Calls Tryz.prog 29 #[a, b] w fun e w' => ∃ v, e = .returned (.tuple #[v, .int .i64 0]) ∧ IsFrac w' v ((turned x y).tdiv (Nat.gcd (turned x y).natAbs y.natAbs : Nat)) (y.natAbs / Nat.gcd (turned x y).natAbs y.natAbs) ∧ Below w.heap.size w w' := by
  obtain ⟨A, c, rfl, R⟩ := ha
  obtain ⟨A', c', rfl, R'⟩ := hb
  go_enter Tryz.func29, Tryz.ntmps29
  have hB := fboxes_made w (decide (x < 0)) (decide (y < 0)) (.slice A (digs x.natAbs).length c) (.slice A' (digs y.natAbs).length c')
  obtain ⟨W, hW⟩ : ∃ W, W = (((w.alloc (.cells #[.bool (decide (x < 0)), .slice A (digs x.natAbs).length c] 28)).alloc (.cells #[.bool (decide (y < 0)), .slice A' (digs y.natAbs).length c'] 28)).alloc (.cells #[.bool false, .slice none 0 0, .bool false, .slice none 0 0] 30)) := ⟨_, rfl⟩
  rw [← hW] at hB
  have HB := Lib.hid hB
  have a0 := hB.a0
  have a1 := hB.a1
  have z1 : (((digs y.natAbs).length : Int) == 0) = false := beq_eq_false_iff_ne.2 (by have : (digs y.natAbs).length ≠ 0 := fun e => hy (by have := digs_len_zero.1 e; omega); omega)
  have HY := Lib.hid hy
  clear hB hy
  go_upto_region 1 with fail
  rw [← hW]
  clear hW
  go_wp2_with fail
  refine (rvalidBig_any W _ x ⟨A, c, rfl, HB.out.rd R⟩ hl).mono ?_
  rintro _ W1 ⟨rfl, hb1⟩
  have H1 := Lib.hid (HB.out.after hb1)
  have b0 := H1.out.b0
  have b1 := H1.out.b1
  clear a0 a1 hb1
  go_wp2_with fail
  refine (rvalidBig_any W1 _ y ⟨A', c', rfl, H1.out.rd R'⟩ hl').mono ?_
  rintro _ W2 ⟨rfl, hb2⟩
  have H2 := Lib.hid (H1.out.after hb2)
  clear b0 b1 hb2
  have a0 := H2.out.a0
  have a1 := H2.out.a1
  have b0 := H2.out.b0
  have b1 := H2.out.b1
  go_wp2_with fail
  refine (rlowest_any W2 _ _ x y ⟨A, c, rfl, H2.out.rd R⟩ ⟨A', c', rfl, H2.out.rd R'⟩ (by omega) (by omega) HY.out).mono ?_
  rintro _ W3 ⟨A3, c3, A4, c4, Z, D, rfl, R3, R4, hb3, hk⟩
  have F3 := H2.out.F.after hb3
  have r0 := F3.r0
  have r1 := F3.r1
  have r2 := F3.r2
  have r3 := F3.r3
  have f0 := F3.fr 0
  have f1 := F3.fr 1
  have f2 := F3.fr 2
  have f3 := F3.fr 3
  obtain ⟨e, d0, d1, d2, d3⟩ := F3.filled R3 R4 _ rfl
  have HE := Lib.hid (And.intro e (And.intro d0 (And.intro d1 (And.intro d2 d3))))
  have HK := Lib.hid hk.out
  clear e d0 d1 d2 d3 R3 R4 F3 hb3 hk a0 a1 b0 b1 H1 H2
  go_wp2
  (try simp only [Exit.inBlock, Exit.then])
  refine bodyPost_ret (results_frac rfl _ _ (w.heap.size + 1 + 1) rfl HE.out.2.1 HE.out.2.2.1 HE.out.2.2.2.1 HE.out.2.2.2.2) rfl ?_
  refine ⟨_, rfl, ?_, HE.out.1.2⟩
  rw [← HK.out.1, ← HK.out.2]
  exact HE.out.1.1

set_option maxRecDepth 100000 in
set_option maxHeartbeats 4000000 in
theorem rof_any (w : World) (x y : Int) (h1 : -9223372036854775808 ≤ x) (h2 : x < 9223372036854775808) (h3 : -9223372036854775808 ≤ y) (h4 : y < 9223372036854775808) (hy : y ≠ 0) :
    Calls Tryz.prog 27 #[.int .i64 x, .int .i64 y] w fun e w' => ∃ v, e = .returned (.tuple #[v, .int .i64 0]) ∧ IsFrac w' v ((turned x y).tdiv (Nat.gcd (turned x y).natAbs y.natAbs : Nat)) (y.natAbs / Nat.gcd (turned x y).natAbs y.natAbs) ∧ Below w.heap.size w w' := by
  go_enter Tryz.func27, Tryz.ntmps27
  have HB := Lib.hid (fbox_made w)
  have HH := Lib.hid (And.intro (And.intro h1 h2) (And.intro h3 (And.intro h4 hy)))
  clear h1 h2 h3 h4 hy
  go_wp2_with fail
  refine (rfromInt_any _ x HH.out.1.1 HH.out.1.2).mono ?_
  rintro _ W1 ⟨v1, rfl, hI1, hb1⟩
  have H1 := Lib.hid (And.intro hI1 (HB.out.after hb1))
  clear hI1 hb1
  go_wp2_with fail
  refine (rfromInt_any W1 y HH.out.2.1 HH.out.2.2.1).mono ?_
  rintro _ W2 ⟨v2, rfl, hI2, hb2⟩
  have H2 := Lib.hid (And.intro (H1.out.1.below hb2) (And.intro hI2 (H1.out.2.after hb2)))
  clear hI2 hb2
  go_wp2_with fail
  refine (rmake_any W2 v1 v2 x y H2.out.1 H2.out.2.1 (Nat.le_trans (int_len HH.out.1.1 HH.out.1.2) (by decide)) (Nat.le_trans (int_len HH.out.2.1 HH.out.2.2.1) (by decide)) HH.out.2.2.2).mono ?_
  rintro _ W5 ⟨v5, rfl, hI5, hb5⟩
  obtain ⟨Z, hZ⟩ : ∃ Z, Z = (turned x y).tdiv (Nat.gcd (turned x y).natAbs y.natAbs : Nat) := ⟨_, rfl⟩
  obtain ⟨D, hD⟩ : ∃ D, D = y.natAbs / Nat.gcd (turned x y).natAbs y.natAbs := ⟨_, rfl⟩
  rw [← hZ, ← hD] at hI5
  obtain ⟨A5, c5, A6, c6, rfl, R5, R6⟩ := hI5
  have S5 := H2.out.2.2.after hb5
  obtain ⟨e, d0, d1, d2, d3⟩ := S5.filled R5 R6 _ rfl
  have HE := Lib.hid (And.intro e (And.intro d0 (And.intro d1 (And.intro d2 d3))))
  have HZD := Lib.hid (And.intro hZ hD)
  have r0 := S5.r0
  have r1 := S5.r1
  have r2 := S5.r2
  have r3 := S5.r3
  have f0 := S5.fr 0
  have f1 := S5.fr 1
  have f2 := S5.fr 2
  have f3 := S5.fr 3
  clear hb5 S5 e d0 d1 d2 d3 R5 R6 H1 H2 HB hZ hD
  go_wp2
  (try simp only [Exit.inBlock, Exit.then])
  refine bodyPost_ret (results_frac rfl _ _ w.heap.size rfl HE.out.2.1 HE.out.2.2.1 HE.out.2.2.2.1 HE.out.2.2.2.2) rfl ?_
  refine ⟨_, rfl, ?_, HE.out.1.2⟩
  rw [← HZD.out.1, ← HZD.out.2]
  exact HE.out.1.1

end Go.Proofs.YtbeidpeoichakaaGreatDoor.jh
