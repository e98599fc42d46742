/- fraction: Decimal. -/
import Derived.Test.YtbeidpeoichakaaGreatDoorGe
import Derived.Test.YtbeidpeoichakaaGreatDoorGc
import Derived.Test.YtbeidpeoichakaaGreatDoorShelf2
import Derived.Deep.DeepCutAuto
set_option linter.unusedSimpArgs false
namespace Go.Proofs.YtbeidpeoichakaaGreatDoor.he
open Go.RowKit Go.Proofs.YtbeidpeoichakaaGreatDoor.fm Go.Proofs.YtbeidpeoichakaaGreatDoor.mem Go.Proofs.YtbeidpeoichakaaGreatDoor.fa Go.Proofs.YtbeidpeoichakaaGreatDoor.fb Go.Proofs.YtbeidpeoichakaaGreatDoor.fj Go.Proofs.YtbeidpeoichakaaGreatDoor.fu Go.Proofs.YtbeidpeoichakaaGreatDoor.fv Go.Proofs.YtbeidpeoichakaaGreatDoor.fw Go.Proofs.YtbeidpeoichakaaGreatDoor.fx Go.Proofs.YtbeidpeoichakaaGreatDoor.gb Go.Proofs.YtbeidpeoichakaaGreatDoor.gc Go.Proofs.YtbeidpeoichakaaGreatDoor.ge

/-- The first byte is c. -/
def headIs (s : ByteArray) (c : UInt8) : Bool := s.data.toList.head? == some c
/-- A text without its sign. -/
def bodyB (s : ByteArray) : ByteArray := if headIs s 45 || headIs s 43 then s.extract 1 s.size else s

/-- What cut answers. -/
def CutAns (s f b : ByteArray) (p : Bool) : Prop :=
  (p = false ∧ f = s ∧ b = ByteArray.empty ∧ (46 : UInt8) ∉ s.data.toList) ∨ (p = true ∧ ∃ k, k < s.size ∧ s.data.toList[k]? = some 46 ∧ (46 : UInt8) ∉ s.data.toList.take k ∧ f = s.extract 0 k ∧ b = s.extract (k + 1) s.size)

/-- Whether a text, and its fraction. -/
def DecIs (s : ByteArray) (o : Bool) (z : Int) (d : Nat) : Prop :=
  (26 < s.size ∧ o = false ∧ z = 0 ∧ d = 0) ∨ (s.size ≤ 26 ∧ ∃ f b p, CutAns (bodyB s) f b p ∧ o = (isNum f 15 && (!p || isNum b 9)) ∧ (o = false → z = 0 ∧ d = 0) ∧
    (o = true → z = (sgnd (headIs s 45) (dval f.data.toList * 10 ^ b.size + dval b.data.toList)).tdiv (Nat.gcd (dval f.data.toList * 10 ^ b.size + dval b.data.toList) (10 ^ b.size) : Nat) ∧
      d = 10 ^ b.size / Nat.gcd (dval f.data.toList * 10 ^ b.size + dval b.data.toList) (10 ^ b.size)))

def Dec (s : ByteArray) (w : World) (e : Ending) (w' : World) : Prop :=
  ∃ v o z d, e = .returned (.tuple #[v, .bool o]) ∧ IsFrac w' v z d ∧ Below w.heap.size w w' ∧ Hid (DecIs s o z d)

theorem loop_len (s : ByteArray) : ∀ (n i : Nat) (r : List UInt8), s.size - i = n → r.length ≤ (ByteArray.toList.loop s i r).length := by
  intro n
  induction n with
  | zero => intro i r h; rw [ByteArray.toList.loop, if_neg (by omega)]; simp
  | succ n ih => intro i r h; rw [ByteArray.toList.loop, if_pos (by omega)]; have := ih (i+1) (s.get! i :: r) (by omega); simp at this; omega

theorem toList_ne {s : ByteArray} (h : s.size ≠ 0) : ¬ s.toList = [] := by
  intro e
  have h1 := loop_len s (s.size - 1) 1 [s.get! 0] rfl
  rw [ByteArray.toList, ByteArray.toList.loop, if_pos (by omega)] at e
  rw [e] at h1
  simp at h1

theorem head_at {s : ByteArray} (hin : 0 < s.size) (c : UInt8) : headIs s c = decide (s[0] = c) := by
  have h := Lib.data_getElem? s 0 hin
  unfold headIs
  rw [List.head?_eq_getElem?, h]
  by_cases e : s[0] = c <;> simp [e]

theorem body_size (s : ByteArray) : (bodyB s).size ≤ s.size := by
  unfold bodyB
  split
  · rw [ByteArray.size_extract]; omega
  · exact Nat.le_refl _

theorem isFrac_none (w : World) : IsFrac w (.agg #[.bool false, .slice none 0 0, .bool false, .slice none 0 0]) 0 0 :=
  ⟨none, 0, none, 0, by rw [show (0 : Int).natAbs = 0 from rfl, digs_zero]; rfl, by rw [show (0 : Int).natAbs = 0 from rfl, digs_zero]; exact Rd.nil _ _ _ _, by rw [digs_zero]; exact Rd.nil _ _ _ _⟩

theorem results_dec {fn : Func} {p u : Tmp} (h : fn.results = #[.cell p 30, .tmp u]) (tmps : Array Value) (w : World) (g : Nat) {v0 v1 v2 v3 : Value} (hp : tmps.getD p undef = .pointer (some ⟨g, 0, none⟩))
    (c0 : w.cell? ⟨g, 0, none⟩ = some v0) (c1 : w.cell? ⟨g, 1, none⟩ = some v1) (c2 : w.cell? ⟨g, 2, none⟩ = some v2) (c3 : w.cell? ⟨g, 3, none⟩ = some v3) : (results fn tmps).run Tryz.prog w = .ok (.tuple #[.agg #[v0, v1, v2, v3], tmps.getD u undef]) w :=
  results_frac h tmps w g hp c0 c1 c2 c3

set_option maxRecDepth 100000 in
set_option maxHeartbeats 4000000 in
theorem decimal_any (w : World) (s : ByteArray) (hT : Tabs w) :
    Calls Tryz.prog 32 #[.string s] w (Dec s w) := by
  go_enter Tryz.func32, Tryz.ntmps32
  by_cases hs : 26 < s.size
  · have HS := Lib.hid hs
    have z1 : (26 : Int) < (s.size : Int) := by omega
    clear hs
    go_wp2_with fail
    (try simp only [Exit.inBlock, Exit.then])
    refine bodyPost_ret (results_frac rfl _ _ w.heap.size rfl (fbox_made w).r0 (fbox_made w).r1 (fbox_made w).r2 (fbox_made w).r3) rfl ?_
    exact ⟨_, false, 0, 0, rfl, isFrac_none _, (Below.refl _ _).alloc (Nat.le_refl _) _, Lib.hid (Or.inl ⟨HS.out, rfl, rfl, rfl⟩)⟩
  · have HS := Lib.hid hs
    have z1 : ¬ (26 : Int) < (s.size : Int) := by omega
    have HF := Lib.hid (fbox_made w)
    obtain ⟨W, hW⟩ : ∃ W, W = (w.alloc (.cells #[.bool false, .slice none 0 0, .bool false, .slice none 0 0] 30)) := ⟨_, rfl⟩
    rw [← hW] at HF
    obtain ⟨N, hN⟩ : ∃ N, N = headIs s 45 := ⟨_, rfl⟩
    obtain ⟨M, hM⟩ : ∃ M, M = (headIs s 45 || headIs s 43) := ⟨_, rfl⟩
    have HN := Lib.hid (And.intro hN hM)
    clear hN hM
    go_upto_region 3 with fail
    rw [← hW]
    clear hW
    go_cut [4] (fun s4 wx => s4 = .bool N ∧ W = wx)
    case first =>
      by_cases h0 : s.size = 0
      · obtain rfl : s = ByteArray.empty := by
          apply ByteArray.ext
          exact Array.eq_empty_of_size_eq_zero h0
        have hN : N = false := by rw [HN.out.1]; rfl
        have HN1 := Lib.hid hN
        clear h0 hN
        go_wp2_with fail
        go_meet
        exact ⟨by rw [HN1.out], rfl⟩
      · have hz0 : (0 : Int) < (s.size : Int) := by omega
        have hin : 0 < s.size := by omega
        have hne : ¬ s.toList = [] := toList_ne h0
        have hN := HN.out.1
        rw [head_at hin] at hN
        obtain ⟨x, hx⟩ : ∃ x : UInt8, s[0] = x := ⟨_, rfl⟩
        rw [hx] at hN
        by_cases hd : x = 45
        · subst hd
          have HN1 := Lib.hid (hN.trans (decide_eq_true rfl))
          clear hN h0
          go_wp2_with fail
          go_meet
          exact ⟨by rw [HN1.out]; simp [hne], rfl⟩
        · have HN1 := Lib.hid (hN.trans (decide_eq_false hd))
          have z2 : (((x.toNat : Nat) : Int) == 45) = false := beq_eq_false_iff_ne.2 (fun e => hd (UInt8.toNat_inj.1 (by show x.toNat = 45; omega)))
          clear hN h0 hd
          go_wp2_with fail
          go_meet
          exact ⟨by rw [HN1.out], rfl⟩
    case rest =>
    obtain ⟨rfl, rfl⟩ := hcut
    go_upto_region 4 with fail
    go_cut [38] (fun s38 wx => s38 = .bool M ∧ W = wx)
    case first =>
      by_cases hNt : N = true
      · have hM : M = true := by rw [HN.out.2, ← HN.out.1, hNt]; rfl
        subst hNt
        have HM := Lib.hid hM
        clear hM
        go_wp2_with fail
        go_meet
        exact ⟨by rw [HM.out], rfl⟩
      · have hNf : N = false := by simpa using hNt
        have hM : M = headIs s 43 := by rw [HN.out.2, ← HN.out.1, hNf]; rfl
        clear hNt
        subst hNf
        by_cases h0 : s.size = 0
        · obtain rfl : s = ByteArray.empty := by
            apply ByteArray.ext
            exact Array.eq_empty_of_size_eq_zero h0
          have HM := Lib.hid (show M = false by rw [hM]; rfl)
          clear h0 hM
          go_wp2_with fail
          go_meet
          exact ⟨by rw [HM.out], rfl⟩
        · have hz0 : (0 : Int) < (s.size : Int) := by omega
          have hin : 0 < s.size := by omega
          have hne : ¬ s.toList = [] := toList_ne h0
          rw [head_at hin] at hM
          obtain ⟨x, hx⟩ : ∃ x : UInt8, s[0] = x := ⟨_, rfl⟩
          rw [hx] at hM
          by_cases hd : x = 43
          · subst hd
            have HM := Lib.hid (hM.trans (decide_eq_true rfl))
            clear hM h0
            go_wp2_with fail
            go_meet
            exact ⟨by rw [HM.out]; simp [hne], rfl⟩
          · have HM := Lib.hid (hM.trans (decide_eq_false hd))
            have z2 : (((x.toNat : Nat) : Int) == 43) = false := beq_eq_false_iff_ne.2 (fun e => hd (UInt8.toNat_inj.1 (by show x.toNat = 43; omega)))
            clear hM h0 hd
            go_wp2_with fail
            go_meet
            exact ⟨by rw [HM.out], rfl⟩
    case rest =>
    obtain ⟨rfl, rfl⟩ := hcut
    go_upto_if 38 with fail
    obtain ⟨t, ht⟩ : ∃ t, t = bodyB s := ⟨_, rfl⟩
    have hts : t.size ≤ 26 := by rw [ht]; exact Nat.le_trans (body_size s) (by omega)
    have HB := Lib.hid ht
    clear ht
    go_cut [0] (fun s0 wx => s0 = .string t ∧ W = wx)
    case first =>
      have hB := HB.out
      unfold bodyB at hB
      rw [← HN.out.2] at hB
      have hpos : M = true → s.size ≠ 0 := by
        intro h e
        have e2 : s = ByteArray.empty := by
          apply ByteArray.ext
          exact Array.eq_empty_of_size_eq_zero e
        have := HN.out.2
        rw [h, e2] at this
        cases this
      cases M with
      | true =>
        rw [if_pos rfl] at hB
        have h0 := hpos rfl
        have i1 : (1 : Int) ≤ (s.size : Int) := by omega
        have HBB := Lib.hid hB
        clear hB hpos h0
        go_wp2_with fail
        go_meet
        exact ⟨by rw [HBB.out], rfl⟩
      | false =>
        rw [if_neg (by decide)] at hB
        have HBB := Lib.hid hB
        clear hB hpos
        go_wp2_with fail
        go_meet
        exact ⟨by rw [HBB.out], rfl⟩
    case rest =>
    obtain ⟨rfl, rfl⟩ := hcut
    clear hs z1
    go_wp2_with fail
    refine (cut_any _ t (by omega)).mono ?_
    rintro _ _ ⟨f, b, p, rfl, hcu, n0, rfl⟩
    have hfs : f.size ≤ 26 := by
      rcases hcu.out with ⟨_, e, _⟩ | ⟨_, k, hk, _, _, e, _⟩
      · rw [e]; exact hts
      · rw [e, ByteArray.size_extract]; omega
    have hbs : b.size ≤ 26 := by
      rcases hcu.out with ⟨_, _, e, _⟩ | ⟨_, k, hk, _, _, _, e⟩
      · rw [e]; decide
      · rw [e, ByteArray.size_extract]; omega
    have hbp : p = false → b = ByteArray.empty := by
      intro h
      rcases hcu.out with ⟨_, _, e, _⟩ | ⟨e, _⟩
      · exact e
      · rw [h] at e; cases e
    have HBP := Lib.hid hbp
    clear hbp
    go_wp2_with fail
    refine (digits_any _ f 15 (by decide)).mono ?_
    rintro _ _ ⟨fv, fo, rfl, hfd, rfl⟩
    go_upto_if 52 with fail
    go_cut [10, 11] (fun s10 s11 wx => ∃ (pv : Nat) (g : Bool), s10 = .int .u64 (pv : Int) ∧ s11 = .bool g ∧ Hid (g = (!p || isNum b 9) ∧ (g = true → pv = dval b.data.toList)) ∧ W.drewN n0 = wx)
    case first =>
      cases p with
      | true =>
        go_wp2_with fail
        refine (digits_any _ b 9 (by decide)).mono ?_
        rintro _ _ ⟨bv, bo, rfl, hbd, rfl⟩
        go_wp2_with fail
        go_meet
        refine ⟨bv, bo, rfl, rfl, Lib.hid ⟨by rw [hbd.out.1]; rfl, fun h => ?_⟩, rfl⟩
        have h2 := hbd.out
        rw [h2.2, if_pos (by rw [← h2.1]; exact h)]
      | false =>
        go_wp2_with fail
        go_meet
        exact ⟨0, true, rfl, rfl, Lib.hid ⟨rfl, fun _ => by rw [show b = ByteArray.empty by simpa using HBP.out]; rfl⟩, rfl⟩
    case rest =>
    obtain ⟨pv, g, rfl, rfl, hg, rfl⟩ := hcut
    by_cases hok : fo = true ∧ g = true
    · obtain ⟨h1, h2⟩ := hok
      subst h1 h2
      have hb9 : b.size ≤ 9 := by
        have h3 := hg.out.1
        cases p with
        | true =>
          have h4 : isNum b 9 = true := by simpa using h3.symm
          unfold isNum at h4
          simp at h4
          omega
        | false => rw [show b = ByteArray.empty by simpa using HBP.out]; decide
      have hfv : fv = dval f.data.toList := by
        have h3 := hfd.out
        rw [h3.2, if_pos h3.1.symm]
      have hf15 : isNum f 15 = true := hfd.out.1.symm
      have hpv : pv = dval b.data.toList := by simpa using hg.out.2
      have hgo : (!p || isNum b 9) = true := hg.out.1.symm
      have hfl : fv < 1000000000000000 := by
        rw [hfv]
        have h3 := hf15
        unfold isNum at h3
        simp only [Bool.and_eq_true, decide_eq_true_eq] at h3
        have h4 := dval_lt f.data.toList h3.2
        have h5 : f.data.toList.length ≤ 15 := by rw [show f.data.toList.length = f.size by rw [Array.length_toList]; rfl]; exact h3.1.2
        exact Nat.lt_of_lt_of_le h4 (Nat.le_trans (Nat.pow_le_pow_right (by decide) h5) (by decide))
      have hpl : pv < 1000000000 := by
        rw [hpv]
        cases p with
        | true =>
          have h3 : isNum b 9 = true := by simpa using hgo
          unfold isNum at h3
          simp only [Bool.and_eq_true, decide_eq_true_eq] at h3
          have h4 := dval_lt b.data.toList h3.2
          have h5 : b.data.toList.length ≤ 9 := by rw [show b.data.toList.length = b.size by rw [Array.length_toList]; rfl]; exact h3.1.2
          exact Nat.lt_of_lt_of_le h4 (Nat.le_trans (Nat.pow_le_pow_right (by decide) h5) (by decide))
        | false => rw [show b = ByteArray.empty by simpa using HBP.out]; decide
      have HV := Lib.hid (And.intro hfv (And.intro hpv (And.intro hf15 hgo)))
      clear hfv hpv hf15 hgo hfd hg
      go_wp2_with fail
      go_loop [12, 67] (fun a i => ∃ k q : Nat, k ≤ b.size ∧ i = .int .i64 (k : Int) ∧ a = .int .u64 (q : Int) ∧ Hid (q = 10 ^ k)) (fun _ i => b.size - (intOf i).toNat)
      case atStart => exact ⟨0, 1, Nat.zero_le _, rfl, rfl, Lib.hid rfl⟩
      case round =>
        obtain ⟨k, q, hk, rfl, rfl, hq⟩ := hrel
        have hq9 : q ≤ 1000000000 := by
          rw [hq.out]
          exact Nat.le_trans (Nat.pow_le_pow_right (by decide) (by omega : k ≤ 9)) (by decide)
        by_cases hkb : k < b.size
        · have hz : (k : Int) < (b.size : Int) := by omega
          have i1 : IntKind.u64.wrap ((q : Int) * 10) = ((q * 10 : Nat) : Int) := by rw [IntWalk.u64_in _ (by omega)]; omega
          go_wp2_with fail
          go_round
          case rel => exact ⟨k + 1, q * 10, by omega, by go_num, rfl, Lib.hid (by rw [hq.out, Nat.pow_succ])⟩
          case measure => simp [intOf]; omega
        · obtain rfl : k = b.size := by omega
          have hq1 : 1 ≤ q := by rw [hq.out]; exact Nat.one_le_pow _ _ (by decide)
          have hmul : fv * q ≤ 1000000000000000 * 1000000000 := Nat.mul_le_mul (Nat.le_of_lt hfl) hq9
          obtain ⟨P, hP⟩ : ∃ P, P = fv * q := ⟨_, rfl⟩
          obtain ⟨hi, hhi⟩ : ∃ hi, hi = P / 18446744073709551616 := ⟨_, rfl⟩
          obtain ⟨lo, hlo⟩ : ∃ lo, lo = P % 18446744073709551616 := ⟨_, rfl⟩
          obtain ⟨ls, hls⟩ : ∃ ls, ls = (lo + pv + 0) % 18446744073709551616 := ⟨_, rfl⟩
          obtain ⟨cy, hcy⟩ : ∃ cy, cy = (lo + pv + 0) / 18446744073709551616 := ⟨_, rfl⟩
          obtain ⟨hs, hhs⟩ : ∃ hs, hs = hi + cy := ⟨_, rfl⟩
          have hadd : ∀ V, (callFunc 64 #[.int .u64 (lo : Int), .int .u64 (pv : Int), .int .u64 0]).run Tryz.prog V = .ok (.value (.tuple #[.int .u64 (ls : Int), .int .u64 (cy : Int)])) V := fun V => by
            rw [hls, hcy]
            exact Any7.bits_Add64 Tryz.lays7n25 lo pv 0 (by decide) V
          rw [← hP] at hmul
          have hmul2 : Calls Tryz.prog 63 #[.int .u64 (fv : Int), .int .u64 (q : Int)] (W.drewN n0) fun e w' => e = .returned (.tuple #[.int .u64 (hi : Int), .int .u64 (lo : Int)]) ∧ W.drewN n0 = w' := by
            rw [hhi, hlo, hP]
            exact (Any.bits_Mul64 Tryz.lays264 fv q (by omega) (by omega) _).mono fun _ _ h => ⟨h.1, h.2.symm⟩
          have hlol : lo < 18446744073709551616 := by rw [hlo]; exact Nat.mod_lt _ (by decide)
          have hlsl : ls < 18446744073709551616 := by rw [hls]; exact Nat.mod_lt _ (by decide)
          have hcyl : cy ≤ 1 := by omega
          have hhsl : hs < 1000000 := by omega
          have hsum : hs * 18446744073709551616 + ls = P + pv := by omega
          have i1 : IntKind.u64.wrap ((hi : Int) + (cy : Int)) = (hs : Int) := by rw [IntWalk.u64_in _ (by omega)]; omega
          have HX := Lib.hid (And.intro hP (And.intro hsum (And.intro hlsl hhsl)))
          clear hkb hk hhi hlo hls hcy hhs hmul hP hsum
          go_wp2_with fail
          refine hmul2.mono ?_
          rintro _ _ ⟨rfl, rfl⟩
          have HF0 := Lib.hid (HF.out.after (below_drewN (Below.refl W.heap.size W) n0))
          obtain ⟨W1, hW1⟩ : ∃ W1, W1 = W.drewN n0 := ⟨_, rfl⟩
          rw [← hW1] at HF0 ⊢
          clear hW1 hmul2
          go_wp2_with fail
          clear hadd
          refine (words64_any hs ls W1 (by omega) hlsl).mono ?_
          rintro _ W2 ⟨v2, rfl, hO, hb2⟩
          rw [HX.out.2.1] at hO
          obtain ⟨A2, c2, rfl, R2⟩ := own_rd hO (ok_digs _)
          have H2 := Lib.hid (HF0.out.after hb2)
          clear hO hb2
          go_wp2_with fail
          refine (big_any W2 N A2 c2 (P + pv) R2).mono ?_
          rintro _ W3 ⟨v3, rfl, hI, hb3⟩
          have H3 := Lib.hid (And.intro hI (H2.out.after hb3))
          clear hI hb3 R2
          go_wp2_with fail
          refine (words64_any 0 q W3 (by decide) (by omega)).mono ?_
          rintro _ W4 ⟨v4, rfl, hO, hb4⟩
          rw [Nat.zero_mul, Nat.zero_add] at hO
          obtain ⟨A4, c4, rfl, R4⟩ := own_rd hO (ok_digs _)
          have H4 := Lib.hid (And.intro (H3.out.1.below hb4) (H3.out.2.after hb4))
          clear hO hb4
          obtain ⟨Z0, hZ0⟩ : ∃ Z0, Z0 = sgnd N (P + pv) := ⟨_, rfl⟩
          have hZ1 : Z0.natAbs = P + pv := by rw [hZ0]; exact sgnd_abs _ _
          have hZ2 : (digs Z0.natAbs).length ≤ 3 := by rw [hZ1]; exact (lt_len_iff _ 3).2 (by have := HX.out; omega)
          have hq2 : (digs q).length ≤ 1 := (lt_len_iff _ 1).2 (by omega)
          have HZ := Lib.hid (And.intro hZ0 (And.intro hZ1 (And.intro hZ2 hq2)))
          clear hZ0 hZ1 hZ2 hq2
          go_wp2_with fail
          refine (lowest_any W4 v3 Z0 q A4 c4 (by rw [HZ.out.1]; exact H4.out.1) R4 (by omega) (by have := HZ.out.2.2.1; omega) (by have := HZ.out.2.2.2; omega) (hT.below H4.out.2.bel)).mono ?_
          rintro _ W5 hF
          obtain ⟨A5, c5, A6, c6, Z1, D1, k1, rfl, R5, R6, hb5, hk1⟩ := frac_open hF
          have S5 := H4.out.2.after hb5
          have HS5 := Lib.hid S5
          clear hF hb5 S5
          go_upto_region 21 with fail
          obtain ⟨W6, hW6⟩ : ∃ W6, W6 = W5.alloc (.cells #[.bool (decide (Z1 < 0)), .slice A5 (digs Z1.natAbs).length c5, .bool false, .slice A6 (digs D1).length c6] 30) := ⟨_, rfl⟩
          rw [← hW6]
          have hb6 : Below W5.heap.size W5 W6 := by rw [hW6]; exact (Below.refl _ _).alloc (Nat.le_refl _) _
          have t0 : W6.cell? ⟨W5.heap.size, 0, none⟩ = some (.bool (decide (Z1 < 0))) := by rw [hW6]; simp [go_sem]
          have t1 : W6.cell? ⟨W5.heap.size, 1, none⟩ = some (.slice A5 (digs Z1.natAbs).length c5) := by rw [hW6]; simp [go_sem]
          have t2 : W6.cell? ⟨W5.heap.size, 2, none⟩ = some (.bool false) := by rw [hW6]; simp [go_sem]
          have t3 : W6.cell? ⟨W5.heap.size, 3, none⟩ = some (.slice A6 (digs D1).length c6) := by rw [hW6]; simp [go_sem]
          have S6 := HS5.out.after hb6
          have r0 := S6.r0
          have r1 := S6.r1
          have r2 := S6.r2
          have r3 := S6.r3
          have f0 := S6.fr 0
          have f1 := S6.fr 1
          have f2 := S6.fr 2
          have f3 := S6.fr 3
          obtain ⟨e, d0, d1, d2, d3⟩ := S6.filled ((R5.below hb6).more hb6.size) ((R6.below hb6).more hb6.size) _ rfl
          have HE := Lib.hid (And.intro e (And.intro d0 (And.intro d1 (And.intro d2 d3))))
          clear hW6 hb6 S6 e d0 d1 d2 d3 R5 R6 R4 H2 H3 H4 HS5 HF0 i1
          go_wp2_with fail
          (try simp only [Exit.inBlock, Exit.then])
          refine bodyPost_ret (results_frac rfl _ _ w.heap.size rfl HE.out.2.1 HE.out.2.2.1 HE.out.2.2.2.1 HE.out.2.2.2.2) rfl ?_
          refine ⟨_, true, Z1, D1, rfl, HE.out.1.1, HE.out.1.2, Lib.hid (Or.inr ⟨by have := HS.out; omega, f, b, p, by rw [← HB.out]; exact hcu.out, by rw [HV.out.2.2.1]; exact HV.out.2.2.2.symm, (fun h => by cases h), fun _ => ?_⟩)⟩
          have hk2 := hk1.out
          have hz := HZ.out
          have hx := HX.out
          have hfit : fits (Z0.tdiv (Nat.gcd Z0.natAbs q : Nat)) (q / Nat.gcd Z0.natAbs q) = true := by
            unfold fits
            rw [decide_eq_true, decide_eq_true]
            · rfl
            · exact Nat.le_trans (len_mono (Nat.div_le_self _ _)) (by omega)
            · refine Nat.le_trans (len_mono (n := Z0.natAbs) ?_) (by omega)
              rw [Int.natAbs_tdiv, Int.natAbs_natCast]
              exact Nat.div_le_self _ _
          rw [if_pos hfit, if_pos hfit, if_pos hfit, hz.2.1, hz.1] at hk2
          rw [← HV.out.1, ← HV.out.2.1, ← hq.out, ← hx.1, ← HN.out.1]
          exact hk2.2
    · have ho : (fo && g) = false := by simpa using hok
      have HO := Lib.hid ho
      have hfo := HF.out
      have r0 := hfo.r0
      have r1 := hfo.r1
      have r2 := hfo.r2
      have r3 := hfo.r3
      have f0 := hfo.fr 0
      have f1 := hfo.fr 1
      have f2 := hfo.fr 2
      have f3 := hfo.fr 3
      have HFD := Lib.hid (hfo.after (below_drewN (Below.refl W.heap.size W) n0))
      clear hfo hok
      obtain ⟨e, d0, d1, d2, d3⟩ := HFD.out.filled (z := 0) (d := 0) (A := none) (c := 0) (A' := none) (c' := 0) (by rw [show digs (0 : Int).natAbs = [] from digs_zero]; exact Rd.nil _ _ _ _) (by rw [digs_zero]; exact Rd.nil _ _ _ _) _ rfl
      simp only [show digs (0 : Int).natAbs = [] from digs_zero, digs_zero, List.length_nil, show decide ((0 : Int) < 0) = false from rfl] at e d0 d1 d2 d3
      have HE := Lib.hid (And.intro e (And.intro d0 (And.intro d1 (And.intro d2 d3))))
      clear e d0 d1 d2 d3
      have hD : DecIs s false 0 0 := by
        refine Or.inr ⟨by have := HS.out; omega, f, b, p, ?_, ?_, fun _ => ⟨rfl, rfl⟩, fun h => by cases h⟩
        · rw [← HB.out]; exact hcu.out
        · rw [← hfd.out.1, ← hg.out.1, HO.out]
      have HDD := Lib.hid hD
      clear hD
      cases fo with
      | true =>
        have hg0 : g = false := by simpa using ho
        subst hg0
        clear ho
        go_wp2_with fail
        (try simp only [Exit.inBlock, Exit.then])
        refine bodyPost_ret (results_frac rfl _ _ w.heap.size rfl HE.out.2.1 HE.out.2.2.1 HE.out.2.2.2.1 HE.out.2.2.2.2) rfl ?_
        exact ⟨_, false, 0, 0, rfl, HE.out.1.1, HE.out.1.2, HDD⟩
      | false =>
        clear ho
        go_wp2_with fail
        (try simp only [Exit.inBlock, Exit.then])
        refine bodyPost_ret (results_frac rfl _ _ w.heap.size rfl HE.out.2.1 HE.out.2.2.1 HE.out.2.2.2.1 HE.out.2.2.2.2) rfl ?_
        exact ⟨_, false, 0, 0, rfl, HE.out.1.1, HE.out.1.2, HDD⟩

end Go.Proofs.YtbeidpeoichakaaGreatDoor.he
