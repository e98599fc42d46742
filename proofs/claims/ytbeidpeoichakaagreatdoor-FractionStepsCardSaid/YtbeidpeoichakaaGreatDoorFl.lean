/- fraction: guess. -/
import Derived.Test.YtbeidpeoichakaaGreatDoorFh
import Derived.Test.YtbeidpeoichakaaGreatDoorShelf
namespace Go.Proofs.YtbeidpeoichakaaGreatDoor.fl
open Go.RowKit Go.Proofs.YtbeidpeoichakaaGreatDoor.fm Go.Proofs.YtbeidpeoichakaaGreatDoor.mem Go.Proofs.YtbeidpeoichakaaGreatDoor.fa Go.Proofs.YtbeidpeoichakaaGreatDoor.fb

theorem split_top2 (l : List Nat) (m : Nat) (h : l.length = m + 2) : val l = l.getD (m + 1) 0 * 4294967296 * 4294967296 ^ m + l.getD m 0 * 4294967296 ^ m + val (l.take m) := by
  have h1 := val_split l m (by omega)
  have h2 := val_drop l m (by omega)
  have h3 := val_drop l (m + 1) (by omega)
  rw [List.drop_of_length_le (show l.length ≤ m + 1 + 1 by omega), show val [] = 0 from rfl] at h3
  rw [h1, h2, h3, Nat.mul_add, Nat.mul_comm (4294967296 ^ m) (l.getD m 0), Nat.mul_comm (4294967296 ^ m), Nat.mul_zero, Nat.add_zero, Nat.mul_comm 4294967296]
  omega

theorem split_top3 (l : List Nat) (m : Nat) (h : l.length = m + 3) : val l = (l.getD (m + 2) 0 * 4294967296 + l.getD (m + 1) 0) * 4294967296 * 4294967296 ^ m + l.getD m 0 * 4294967296 ^ m + val (l.take m) := by
  have h1 := val_split l m (by omega)
  have h2 := val_drop l m (by omega)
  have h3 := val_drop l (m + 1) (by omega)
  have h4 := val_drop l (m + 2) (by omega)
  rw [List.drop_of_length_le (show l.length ≤ m + 2 + 1 by omega), show val [] = 0 from rfl] at h4
  simp only [Nat.mul_zero, Nat.add_zero] at h4
  rw [h1, h2, h3, h4, show 4294967296 * (l.getD (m + 1) 0 + 4294967296 * l.getD (m + 2) 0) = (l.getD (m + 2) 0 * 4294967296 + l.getD (m + 1) 0) * 4294967296 by omega, Nat.mul_add,
    Nat.mul_comm (4294967296 ^ m) (l.getD m 0), Nat.mul_comm (4294967296 ^ m)]
  omega

/-- What is known while the guess is made smaller. -/
structure Guess (U V top v1 d r : Nat) : Prop where
  eq : d * v1 + r = top
  ge : U < (d + 1) * V
  rest : r < 4294967296
  most : d ≤ 4294967297

set_option maxRecDepth 100000 in
set_option maxHeartbeats 4000000 in
theorem guess_any (w : World) (bu ou cu bv ov cv m : Nat) (P L : List Nat) (hP : P.length = m + 3) (hL : L.length = m + 2) (okP : ok P) (okL : ok L) (hm : m ≤ 1000000)
    (cu1 : ∀ t, t < m + 3 → w.cell? ⟨bu, ou + t, none⟩ = some (.int .u32 ((P.getD t 0 : Nat) : Int))) (cv1 : ∀ t, t < m + 2 → w.cell? ⟨bv, ov + t, none⟩ = some (.int .u32 ((L.getD t 0 : Nat) : Int)))
    (htop : 2147483648 ≤ L.getD (m + 1) 0) (hlt : val P < val L * 4294967296) :
    Calls Tryz.prog 80 #[.slice (some ⟨bu, ou, none⟩) (m + 3) cu, .slice (some ⟨bv, ov, none⟩) (m + 2) cv] w fun e w' => ∃ d : Nat, e = .returned (.int .u64 (d : Int)) ∧ (d < 4294967296 ∧ val P < (d + 1) * val L ∧ d * val L ≤ val P + val L) ∧ ∃ k, w' = w.drewN k := by
  have c1 := cu1 (m + 2) (by omega)
  have c2 := cu1 (m + 1) (by omega)
  have c3 := cu1 m (by omega)
  have c4 := cv1 (m + 1) (by omega)
  have c5 := cv1 m (by omega)
  have hV := split_top2 L m hL
  have hU := split_top3 P m hP
  have hvl : val (L.take m) < 4294967296 ^ m := by
    have := val_lt (ok_take okL m); rwa [List.length_take, Nat.min_eq_left (by omega)] at this
  have hul : val (P.take m) < 4294967296 ^ m := by
    have := val_lt (ok_take okP m); rwa [List.length_take, Nat.min_eq_left (by omega)] at this
  have b1 := ok_getD okP (m + 2)
  have b2 := ok_getD okP (m + 1)
  have b3 := ok_getD okP m
  have b4 := ok_getD okL (m + 1)
  have b5 := ok_getD okL m
  clear cu1 cv1 okP okL hP hL
  generalize P.getD (m + 2) 0 = un at *
  generalize P.getD (m + 1) 0 = um at *
  generalize P.getD m 0 = u2 at *
  generalize L.getD (m + 1) 0 = v1 at *
  generalize L.getD m 0 = v2 at *
  generalize val (P.take m) = ul at *
  generalize val (L.take m) = vl at *
  generalize val P = U at *
  generalize val L = V at *
  generalize (4294967296 : Nat) ^ m = p at *
  have ht := guess_top V U p v1 v2 vl u2 ul un um hV hU hvl b5 hlt b2
  obtain ⟨top, htop2⟩ : ∃ top, un * 4294967296 + um = top := ⟨_, rfl⟩
  rw [htop2] at hU ht
  have hor : bits .or .u64 ((un : Int) * 4294967296) (um : Int) = (top : Int) := by rw [or_join' um un b2 b1]; omega
  have hq : (top : Int) / (v1 : Int) = ((top / v1 : Nat) : Int) := (Int.natCast_ediv top v1).symm
  have hr : (top : Int) % (v1 : Int) = ((top % v1 : Nat) : Int) := (Int.natCast_emod top v1).symm
  have hdm : top / v1 * v1 + top % v1 = top := by rw [Nat.mul_comm]; exact Nat.div_add_mod top v1
  have hrl : top % v1 < v1 := Nat.mod_lt _ (by omega)
  have G0 : Guess U V top v1 (top / v1) (top % v1) := ⟨hdm, guess_first V U p v1 v2 vl u2 ul top _ _ hV hU hul b3 hdm hrl, by omega, first_digit v1 top _ _ hdm htop ht.2⟩
  have HH := Lib.hid (And.intro hV (And.intro hU (And.intro hvl (And.intro hul (And.intro ht.2 hlt)))))
  clear hV hU hvl hul hdm hrl hlt htop2
  generalize top / v1 = d0 at *
  generalize top % v1 = r0 at *
  have z0 : ((v1 : Int) == 0) = false := beq_eq_false_iff_ne.2 (by omega)
  have i0 : (0 : Int) ≤ (m : Int) := by omega
  have i1 : IntKind.i64.wrap ((m : Int) + 2 - 1) = (m : Int) + 1 := by rw [IntWalk.i64_in _ (by omega)]; omega
  have i2 : IntKind.i64.wrap ((m : Int) + 1) = (m : Int) + 1 := IntWalk.i64_in _ (by omega)
  have i3 : (0 : Int) ≤ (m : Int) + 1 := by omega
  have i4 : (m : Int) + 1 < (m : Int) + 2 := by omega
  have i5 : (m : Int) + 1 < (m : Int) + 3 := by omega
  have i6 : (m : Int) + 2 < (m : Int) + 3 := by omega
  have i7 : (0 : Int) ≤ (m : Int) + 2 := by omega
  have i8 : ((m : Int) + 1).toNat = m + 1 := by omega
  have i9 : ((m : Int) + 2).toNat = m + 2 := by omega
  have htb : top < 18446744073709551616 := by omega
  have j1 : IntKind.u64.wrap ((un : Int) * 4294967296) = (un : Int) * 4294967296 := by rw [IntKind.wrap_u64]; omega
  go_enter Tryz.func80, Tryz.ntmps80
  go_wp2
  go_quiet (fail)
  go_wp2
  go_quiet (fail)
  go_wp2
  have hd0 : IntKind.u64.wrap (d0 : Int) = (d0 : Int) := by have := G0.most; rw [IntKind.wrap_u64]; omega
  have H0 := Lib.hid (And.intro hd0 hr)
  clear c1 c2 b1 b2 hor hq hr j1 i6 i7 i9 hd0
  go_loopw [7, 8] (fun dv rv wr => ∃ (d r : Nat), dv = .int .u64 d ∧ rv = .int .u64 r ∧ Guess U V top v1 d r ∧ ∃ k, wr = w.drewN k) (fun dv _ _ => (intOf dv).toNat)
  case atStart => exact ⟨d0, r0, congrArg (Value.int .u64) H0.out.1, congrArg (Value.int .u64) H0.out.2, G0, _, World.drewN_drewN _ _ _⟩
  case round =>
    obtain ⟨d, r, rfl, rfl, G, kk, rfl⟩ := hrel
    have hb := G.rest
    have hmost := G.most
    obtain ⟨hV, hU, hvl, hul, htt, hlt⟩ := HH.out
    have k0 : IntKind.i64.wrap ((m : Int) + 2 - 2) = (m : Int) := by rw [IntWalk.i64_in _ (by omega)]; omega
    have k1 : (m : Int) < (m : Int) + 2 := by omega
    have k2 : (m : Int) < (m : Int) + 3 := by omega
    have k3 : IntKind.i64.wrap (m : Int) = (m : Int) := IntWalk.i64_in _ (by omega)
    have hVp : 0 < V := by
      rcases Nat.eq_zero_or_pos V with h0 | h0
      · subst h0; omega
      · exact h0
    -- what follows where the guess is too great
    have over : U < d * V → ∃ e : Nat, d = e + 1 ∧ (r + v1 < 4294967296 → Guess U V top v1 e (r + v1)) ∧ (4294967296 ≤ r + v1 → e < 4294967296 ∧ U < (e + 1) * V ∧ e * V ≤ U + V) := by
      intro ho
      obtain ⟨e, rfl⟩ : ∃ e, d = e + 1 := by
        refine ⟨d - 1, ?_⟩
        rcases Nat.eq_zero_or_pos d with h0 | h0
        · subst h0; omega
        · omega
      have heq : e * v1 + (r + v1) = top := by have := G.eq; rw [Nat.add_mul] at this; omega
      refine ⟨e, rfl, fun h1 => ⟨heq, ho, h1, by omega⟩, fun h1 => ?_⟩
      have hbr := guess_break v1 v2 u2 top e (r + v1) heq h1 htt b5
      exact ⟨hbr.1, ho, guess_near V U p v1 v2 vl u2 ul top e (r + v1) hV hU hvl heq hbr.1 (by omega) hbr.2⟩
    have Over := Lib.hid over
    clear over
    have bt : top < 18446744073709551616 := htb
    by_cases hw : 4294967296 ≤ d
    · obtain ⟨e, rfl, G1, G2⟩ := Over.out (guess_wide V U d hlt hw)
      have hgd : decide ((4294967296 : Int) ≤ (e : Int) + 1) = true := by simp; omega
      have HG := Lib.hid (And.intro G1 G2)
      clear G1 G2 hV hU hvl hul htt hlt G Over HH H0 G0
      by_cases hbr : 4294967296 ≤ r + v1
      · have d2 : decide ((4294967296 : Int) ≤ (r : Int) + (v1 : Int)) = true := by simp; omega
        go_wp2
        go_quiet (fail)
        go_wp2
        go_ret
        exact ⟨e, rfl, HG.out.2 hbr, _, rfl⟩
      · have d2 : decide ((4294967296 : Int) ≤ (r : Int) + (v1 : Int)) = false := by simp; omega
        go_wp2
        go_quiet (fail)
        go_wp2
        go_roundw
        case rel => exact ⟨e, r + v1, rfl, congrArg (Value.int .u64) (by omega), HG.out.1 (by omega), _, rfl⟩
        case measure => simp [intOf]
    · have hgd : decide ((4294967296 : Int) ≤ (d : Int)) = false := by simp; omega
      have hor : bits .or .u64 ((r : Int) * 4294967296) (u2 : Int) = ((u2 + 4294967296 * r : Nat) : Int) := or_join' u2 r b3 hb
      have hmul : IntKind.u64.wrap ((d : Int) * (v2 : Int)) = ((d * v2 : Nat) : Int) := by
        have h1 : d * v2 ≤ 4294967296 * 4294967295 := Nat.mul_le_mul (by omega) (by omega)
        rw [← Int.natCast_mul, IntKind.wrap_u64]
        generalize d * v2 = t at *
        omega
      have hsh : IntKind.u64.wrap ((r : Int) * 4294967296) = (r : Int) * 4294967296 := by rw [IntKind.wrap_u64]; omega
      have near : d * v2 ≤ u2 + 4294967296 * r → d < 4294967296 ∧ U < (d + 1) * V ∧ d * V ≤ U + V := fun h1 =>
        ⟨by omega, G.ge, guess_near V U p v1 v2 vl u2 ul top d r hV hU hvl G.eq (by omega) (by omega) (by omega)⟩
      have over2 : u2 + 4294967296 * r < d * v2 → U < d * V := fun h1 => guess_over V U p v1 v2 vl u2 ul top d r hV hU hul G.eq (by omega)
      have HG := Lib.hid (And.intro near over2)
      clear near over2 hV hU hvl hul htt hlt G HH H0 G0
      generalize hX : d * v2 = X at *
      generalize hY : u2 + 4294967296 * r = Y at *
      have HX := Lib.hid (And.intro hX hY)
      clear hX hY
      by_cases hc : Y < X
      · have d3 : decide (Y < X) = true := by simp; omega
        have d4 : decide ((Y : Int) < (X : Int)) = true := by simp; omega
        obtain ⟨e, he, G1, G2⟩ := Over.out (HG.out.2 hc)
        have HG2 := Lib.hid (And.intro he (And.intro G1 G2))
        have hd1 : 1 ≤ d := by omega
        clear G1 G2 HG Over HX he
        by_cases hbr : 4294967296 ≤ r + v1
        · have d2 : decide ((4294967296 : Int) ≤ (r : Int) + (v1 : Int)) = true := by simp; omega
          go_wp2
          go_quiet (fail)
          go_wp2
          go_ret
          exact ⟨e, ret_int (by have := HG2.out.1; omega), HG2.out.2.2 hbr, _, rfl⟩
        · have d2 : decide ((4294967296 : Int) ≤ (r : Int) + (v1 : Int)) = false := by simp; omega
          go_wp2
          go_quiet (fail)
          go_wp2
          go_roundw
          case rel => exact ⟨e, r + v1, congrArg (Value.int .u64) (by have := HG2.out.1; omega), congrArg (Value.int .u64) (by omega), HG2.out.2.1 (by omega), _, rfl⟩
          case measure => have := HG2.out.1; simp [intOf]; omega
      · have d3 : decide (Y < X) = false := by simp; omega
        have d4 : decide ((Y : Int) < (X : Int)) = false := by simp; omega
        have hfin := HG.out.1 (by omega)
        have HF := Lib.hid hfin
        clear hfin HG Over HX
        go_wp2
        go_quiet (fail)
        go_wp2
        go_ret
        exact ⟨d, rfl, HF.out, _, World.drewN_drewN _ _ _⟩

end Go.Proofs.YtbeidpeoichakaaGreatDoor.fl

/- fraction: subtractProduct, addBack. -/
namespace Go.Proofs.YtbeidpeoichakaaGreatDoor.fo
open Go.RowKit Go.Proofs.YtbeidpeoichakaaGreatDoor.fm Go.Proofs.YtbeidpeoichakaaGreatDoor.mem Go.Proofs.YtbeidpeoichakaaGreatDoor.fa Go.Proofs.YtbeidpeoichakaaGreatDoor.fb Go.Proofs.YtbeidpeoichakaaGreatDoor.fd Go.Proofs.YtbeidpeoichakaaGreatDoor.fe

theorem mask32 (T : Nat) (h : T < 18446744073709551616) : bits .and .u64 (T : Int) 4294967295 = ((T % 4294967296 : Nat) : Int) := by
  have := u64_and_nat T 4294967295 h (by decide)
  rw [show ((4294967295 : Nat) : Int) = 4294967295 from rfl] at this
  rw [this]
  congr 1
  exact Nat.and_two_pow_sub_one_eq_mod T 32

theorem drop_set (X : List Nat) (j i x : Nat) : (X.set (j + i) x).drop j = (X.drop j).set i x := by
  rw [List.drop_set, if_neg (by omega)]
  congr 1
  omega

theorem getD_drop (X : List Nat) (j i : Nat) : (X.drop j).getD i 0 = X.getD (j + i) 0 := by
  rw [List.getD_eq_getElem?_getD, List.getElem?_drop, ← List.getD_eq_getElem?_getD]

theorem getD_of_drop {X Y : List Nat} {k : Nat} (h : X.drop k = Y.drop k) (t : Nat) (ht : k ≤ t) : X.getD t 0 = Y.getD t 0 := by
  have e1 : (X.drop k)[t - k]? = (Y.drop k)[t - k]? := by rw [h]
  rw [List.getElem?_drop, List.getElem?_drop, show k + (t - k) = t by omega] at e1
  rw [List.getD_eq_getElem?_getD, List.getD_eq_getElem?_getD, e1]

set_option maxRecDepth 100000 in
set_option maxHeartbeats 2000000 in
theorem subtractProduct_any (w : World) (base g N cap j n cj dg : Nat) (A' : Option Addr) (c' : Nat) (X y : List Nat) (h : w.ownsRow base 59 1 (.slice (some ⟨g, 0, none⟩) N cap) N (ws X)) (ho : ok X)
    (h' : Rd w w.heap.size A' c' y) (hne : ∀ ad, A' = some ad → 0 < y.length → ad.block ≠ g) (hyn : y.length = n) (hj : j + n + 1 ≤ N) (hN : N ≤ 2000000) (hdg : dg < 4294967296) :
    Calls Tryz.prog 81 #[.slice (some ⟨g, j, none⟩) (n + 1) cj, .slice A' n c', .int .u64 (dg : Int)] w fun e w' =>
      ∃ (X' : List Nat) (x : Nat), e = .returned (.bool ((x : Int) != 0)) ∧ x ≤ 1 ∧ w'.ownsRow base 59 1 (.slice (some ⟨g, 0, none⟩) N cap) N (ws X') ∧ ok X' ∧ X'.take j = X.take j ∧ X'.drop (j + (n + 1)) = X.drop (j + (n + 1)) ∧
        val ((X'.drop j).take (n + 1)) + dg * val y = val ((X.drop j).take (n + 1)) + 4294967296 ^ (n + 1) * x ∧ w.grownBy w' (some g) := by
  have hlx := own_len h
  have hg := h.lt g rfl
  go_enter Tryz.func81, Tryz.ntmps81
  go_wp2
  go_loopw [7, 8, 14] (fun cv rv i wr => ∃ (k c r : Nat) (Y : List Nat), k ≤ n ∧ i = .int .i64 k ∧ cv = .int .u64 c ∧ rv = .int .u64 r ∧ r ≤ 1 ∧ c < 4294967296 ∧ ok Y ∧ Y.take j = X.take j ∧ Y.drop (j + k) = X.drop (j + k) ∧
      val ((Y.drop j).take k) + dg * val (y.take k) = val ((X.drop j).take k) + 4294967296 ^ k * (c + r) ∧ wr.ownsRow base 59 1 (.slice (some ⟨g, 0, none⟩) N cap) N (ws Y) ∧ w.grownBy wr (some g))
    (fun _ _ i _ => n - (intOf i).toNat)
  case atStart => exact ⟨0, 0, 0, X, Nat.zero_le _, rfl, rfl, rfl, by omega, by decide, ho, rfl, rfl, by simp [val], h, World.grownBy.refl _ _⟩
  case round =>
    obtain ⟨k, c, r, Y, hk, rfl, rfl, rfl, hr, hc, hok, htk, hdr, hE, hown, hgr⟩ := hrel
    have hl := own_len hown
    have c1 := own_cell hown (j + k) (by omega)
    have c3 := hown.frozenAt (j + k)
    have ex : Y.getD (j + k) 0 = X.getD (j + k) 0 := getD_of_drop hdr (j + k) (Nat.le_refl _)
    rw [ex] at c1
    have b1 := ok_getD ho (j + k)
    by_cases hkx : k < n
    · obtain ⟨b', off', rfl, hb', hc'⟩ := h'.cells (by omega)
      have c4 := (hgr.cell_far ⟨b', off' + k, none⟩ hb' (fun e => hne _ rfl (by omega) (by injection e))).trans (hc' k (by omega))
      have b2 := ok_getD h'.ok k
      obtain ⟨f1, f2, f3, f4, f5, f6⟩ := word_prod dg (y.getD k 0) 0 c hdg b2 (by decide) hc
      have hT : c + dg * y.getD k 0 < 18446744073709551616 := by simp only [Nat.add_zero] at f1; omega
      simp only [Nat.add_zero, Int.natCast_zero, Int.add_zero] at f1 f2 f6
      obtain ⟨E, D, d, r', w1, w2, w3, w4, hr', hd, heq, hD⟩ := borrow (X.getD (j + k) 0) r ((c + dg * y.getD k 0) % 4294967296) b1 hr (Nat.mod_lt _ (by decide))
      have hmask := mask32 (c + dg * y.getD k 0) hT
      have hE2 := subprod_step (X.drop j) y (Y.drop j) k dg c r d r' (by simp; omega) (by rw [getD_drop]; exact heq) hE
      rw [← drop_set] at hE2
      have hdr2 : (Y.set (j + k) d).drop (j + (k + 1)) = X.drop (j + (k + 1)) := by
        rw [List.drop_set_of_lt (by omega), ← Nat.add_assoc, ← List.drop_drop, hdr, List.drop_drop]
      have htk2 : (Y.set (j + k) d).take j = X.take j := by rw [List.take_set_of_le (by omega), htk]
      have own2 := own_set hown (j + k) d ((D : Int) % 4294967296) (by omega)
      have gr2 : w.grownBy (wr.setCell ⟨g, j + k, none⟩ (.int .u32 ((D : Int) % 4294967296))) (some g) := hgr.trans (hown.stored (j + k) _).2
      have O := Lib.hid (And.intro own2 (And.intro gr2 (And.intro hE2 (And.intro hdr2 (And.intro htk2 (And.intro (ok_set hok (j + k) hd) f1))))))
      have V := Lib.hid (And.intro w3 (And.intro w4 (And.intro hr' hd)))
      clear own2 gr2 hE2 hdr2 htk2 hE hdr htk ex hok heq w3 w4 hr' hd hown hc' hgr f1 f5 hl hlx
      obtain ⟨T, hTe⟩ : ∃ T, T = c + dg * y.getD k 0 := ⟨_, rfl⟩
      rw [← hTe] at hmask hT w2 f2 O
      have g1 : IntKind.u64.wrap ((dg : Int) * ((y.getD k 0 : Nat) : Int)) = (dg : Int) * ((y.getD k 0 : Nat) : Int) := f4
      have g2 : IntKind.u64.wrap ((c : Int) + (dg : Int) * ((y.getD k 0 : Nat) : Int)) = (T : Int) := f6.trans f2.symm
      have g3 : (c : Int) + (dg : Int) * ((y.getD k 0 : Nat) : Int) = (T : Int) := f2.symm
      have HT := Lib.hid hTe
      clear f2 f4 f6 hTe
      generalize X.getD (j + k) 0 = xk at *
      generalize y.getD k 0 = yk at *
      generalize hLo : T % 4294967296 = lo at *
      have HL := Lib.hid hLo
      clear hLo
      go_wp2
      go_roundw
      case rel =>
        obtain ⟨o1, o2, o3, o4, o5, o6, o7⟩ := O.out
        exact ⟨k + 1, T / 4294967296, r', _, by omega, by go_num, congrArg (Value.int .u64) (by omega), congrArg (Value.int .u64) (by have := V.out.2.1; omega), V.out.2.2.1, o7, o6, o5, o4, o3, o1, o2⟩
      case measure => simp [intOf]; omega
    · obtain rfl : k = n := by omega
      obtain ⟨E, D, d, r', w1, w2, w3, w4, hr', hd, heq, hD⟩ := borrow (X.getD (j + k) 0) r c b1 hr hc
      have hdr2 : (Y.set (j + k) d).drop (j + (k + 1)) = X.drop (j + (k + 1)) := by
        rw [List.drop_set_of_lt (by omega), ← Nat.add_assoc, ← List.drop_drop, hdr, List.drop_drop]
      have htk2 : (Y.set (j + k) d).take j = X.take j := by rw [List.take_set_of_le (by omega), htk]
      have hE2 : val (((Y.set (j + k) d).drop j).take (k + 1)) + dg * val y = val ((X.drop j).take (k + 1)) + 4294967296 ^ (k + 1) * r' := by
        rw [drop_set, val_take_set _ _ _ (by simp; omega), val_take_next (X.drop j), getD_drop, Nat.pow_succ]
        rw [List.take_of_length_le (show y.length ≤ k by omega)] at hE
        have h2 : 4294967296 ^ k * (d + c + r) = 4294967296 ^ k * (X.getD (j + k) 0 + 4294967296 * r') := by rw [heq]
        generalize 4294967296 ^ k = p at *
        simp only [Nat.mul_add, ← Nat.mul_assoc] at h2 hE ⊢
        omega
      have own2 := own_set hown (j + k) d ((D : Int) % 4294967296) (by omega)
      have gr2 : w.grownBy (wr.setCell ⟨g, j + k, none⟩ (.int .u32 ((D : Int) % 4294967296))) (some g) := hgr.trans (hown.stored (j + k) _).2
      have hw4 : (D : Int) / 9223372036854775808 = (r' : Int) := by omega
      have O := Lib.hid (And.intro own2 (And.intro gr2 (And.intro hE2 (And.intro hdr2 (And.intro htk2 (And.intro (ok_set hok (j + k) hd) hr'))))))
      have W := Lib.hid hw4
      clear own2 gr2 hE2 hdr2 htk2 hE hdr htk ex hok heq w3 w4 hr' hd hown hgr hl hlx hw4
      generalize X.getD (j + k) 0 = xk at *
      go_wp2
      go_ret
      obtain ⟨o1, o2, o3, o4, o5, o6, o7⟩ := O.out
      exact ⟨_, r', by rw [← W.out]; rfl, o7, o1, o6, o5, o4, o3, o2⟩

set_option maxRecDepth 100000 in
set_option maxHeartbeats 2000000 in
theorem addBack_any (w : World) (base g N cap j n cj : Nat) (A' : Option Addr) (c' : Nat) (X y : List Nat) (h : w.ownsRow base 59 1 (.slice (some ⟨g, 0, none⟩) N cap) N (ws X)) (ho : ok X)
    (h' : Rd w w.heap.size A' c' y) (hne : ∀ ad, A' = some ad → 0 < y.length → ad.block ≠ g) (hyn : y.length = n) (hj : j + n + 1 ≤ N) (hN : N ≤ 2000000) :
    Calls Tryz.prog 82 #[.slice (some ⟨g, j, none⟩) (n + 1) cj, .slice A' n c'] w fun e w' =>
      ∃ (X' : List Nat) (x : Nat), e = .returned (.tuple #[]) ∧ w'.ownsRow base 59 1 (.slice (some ⟨g, 0, none⟩) N cap) N (ws X') ∧ ok X' ∧ X'.take j = X.take j ∧ X'.drop (j + (n + 1)) = X.drop (j + (n + 1)) ∧
        val ((X'.drop j).take (n + 1)) + 4294967296 ^ (n + 1) * x = val ((X.drop j).take (n + 1)) + val y ∧ w.grownBy w' (some g) := by
  have hlx := own_len h
  have hg := h.lt g rfl
  go_enter Tryz.func82, Tryz.ntmps82
  go_wp2
  go_loopw [4, 8] (fun cv i wr => ∃ (k c : Nat) (Y : List Nat), k ≤ n ∧ i = .int .i64 k ∧ cv = .int .u64 c ∧ c ≤ 1 ∧ ok Y ∧ Y.take j = X.take j ∧ Y.drop (j + k) = X.drop (j + k) ∧
      val ((Y.drop j).take k) + 4294967296 ^ k * c = val ((X.drop j).take k) + val (y.take k) ∧ wr.ownsRow base 59 1 (.slice (some ⟨g, 0, none⟩) N cap) N (ws Y) ∧ w.grownBy wr (some g))
    (fun _ i _ => n - (intOf i).toNat)
  case atStart => exact ⟨0, 0, X, Nat.zero_le _, rfl, rfl, by omega, ho, rfl, rfl, by simp [val], h, World.grownBy.refl _ _⟩
  case round =>
    obtain ⟨k, c, Y, hk, rfl, rfl, hc, hok, htk, hdr, hE, hown, hgr⟩ := hrel
    have hl := own_len hown
    have c1 := own_cell hown (j + k) (by omega)
    have c3 := hown.frozenAt (j + k)
    have ex : Y.getD (j + k) 0 = X.getD (j + k) 0 := getD_of_drop hdr (j + k) (Nat.le_refl _)
    rw [ex] at c1
    have b1 := ok_getD ho (j + k)
    by_cases hkx : k < n
    · obtain ⟨b', off', rfl, hb', hc'⟩ := h'.cells (by omega)
      have c4 := (hgr.cell_far ⟨b', off' + k, none⟩ hb' (fun e => hne _ rfl (by omega) (by injection e))).trans (hc' k (by omega))
      have b2 := ok_getD h'.ok k
      have hE2 := add_step (X.drop j) y (Y.drop j) k c (by simp; omega) hE
      rw [getD_drop, ← drop_set] at hE2
      obtain ⟨T, hT⟩ : ∃ T, T = c + X.getD (j + k) 0 + y.getD k 0 := ⟨_, rfl⟩
      rw [← hT] at hE2
      have hd : T % 4294967296 < 4294967296 := Nat.mod_lt _ (by decide)
      have hdr2 : (Y.set (j + k) (T % 4294967296)).drop (j + (k + 1)) = X.drop (j + (k + 1)) := by
        rw [List.drop_set_of_lt (by omega), ← Nat.add_assoc, ← List.drop_drop, hdr, List.drop_drop]
      have htk2 : (Y.set (j + k) (T % 4294967296)).take j = X.take j := by rw [List.take_set_of_le (by omega), htk]
      have own2 := own_set hown (j + k) (T % 4294967296) ((T : Int) % 4294967296) (by omega)
      have gr2 : w.grownBy (wr.setCell ⟨g, j + k, none⟩ (.int .u32 ((T : Int) % 4294967296))) (some g) := hgr.trans (hown.stored (j + k) _).2
      have O := Lib.hid (And.intro own2 (And.intro gr2 (And.intro hE2 (And.intro hdr2 (And.intro htk2 (ok_set hok (j + k) hd))))))
      have i1 : (k : Int) < (n : Int) + 1 := by omega
      have i2 : (k : Int) < (n : Int) := by omega
      have i3 : (0 : Int) ≤ (k : Int) := by omega
      have s1 : IntKind.u64.wrap (((X.getD (j + k) 0 : Nat) : Int) + ((y.getD k 0 : Nat) : Int)) = ((X.getD (j + k) 0 : Nat) : Int) + ((y.getD k 0 : Nat) : Int) := by rw [IntKind.wrap_u64]; omega
      have s2 : IntKind.u64.wrap ((c : Int) + (((X.getD (j + k) 0 : Nat) : Int) + ((y.getD k 0 : Nat) : Int))) = (T : Int) := by rw [IntKind.wrap_u64]; omega
      have s3 : (c : Int) + (((X.getD (j + k) 0 : Nat) : Int) + ((y.getD k 0 : Nat) : Int)) = (T : Int) := by omega
      have hTb : T ≤ 8589934591 := by omega
      clear own2 gr2 hE2 hdr2 htk2 hE hdr htk ex hok hd hown hc' hgr hl hlx hT
      generalize X.getD (j + k) 0 = xk at *
      generalize y.getD k 0 = yk at *
      go_wp2
      go_quiet (fail)
      go_wp2
      go_roundw
      case rel =>
        obtain ⟨o1, o2, o3, o4, o5, o6⟩ := O.out
        exact ⟨k + 1, T / 4294967296, _, by omega, by go_num, congrArg (Value.int .u64) (by omega), by omega, o6, o5, o4, o3, o1, ⟨o2.os, o2.tape, o2.output, o2.size, o2.block⟩⟩
      case measure => simp [intOf]; omega
    · obtain rfl : k = n := by omega
      obtain ⟨T, hT⟩ : ∃ T, T = X.getD (j + k) 0 + c := ⟨_, rfl⟩
      have hd : T % 4294967296 < 4294967296 := Nat.mod_lt _ (by decide)
      have hdr2 : (Y.set (j + k) (T % 4294967296)).drop (j + (k + 1)) = X.drop (j + (k + 1)) := by
        rw [List.drop_set_of_lt (by omega), ← Nat.add_assoc, ← List.drop_drop, hdr, List.drop_drop]
      have htk2 : (Y.set (j + k) (T % 4294967296)).take j = X.take j := by rw [List.take_set_of_le (by omega), htk]
      have hE2 : val (((Y.set (j + k) (T % 4294967296)).drop j).take (k + 1)) + 4294967296 ^ (k + 1) * (T / 4294967296) = val ((X.drop j).take (k + 1)) + val y := by
        rw [drop_set, val_take_set _ _ _ (by simp; omega), val_take_next (X.drop j), getD_drop, Nat.pow_succ]
        rw [List.take_of_length_le (show y.length ≤ k by omega)] at hE
        have h2 : 4294967296 ^ k * (4294967296 * (T / 4294967296) + T % 4294967296) = 4294967296 ^ k * (X.getD (j + k) 0 + c) := by rw [Nat.div_add_mod, hT]
        generalize 4294967296 ^ k = p at *
        simp only [Nat.mul_add, ← Nat.mul_assoc] at h2 hE ⊢
        omega
      have own2 := own_set hown (j + k) (T % 4294967296) ((T : Int) % 4294967296) (by omega)
      have gr2 : w.grownBy (wr.setCell ⟨g, j + k, none⟩ (.int .u32 ((T : Int) % 4294967296))) (some g) := hgr.trans (hown.stored (j + k) _).2
      have O := Lib.hid (And.intro own2 (And.intro gr2 (And.intro hE2 (And.intro hdr2 (And.intro htk2 (ok_set hok (j + k) hd))))))
      have s3 : ((X.getD (j + k) 0 : Nat) : Int) + (c : Int) = (T : Int) := by omega
      have s4 : (c : Int) % 4294967296 = (c : Int) := by omega
      clear own2 gr2 hE2 hdr2 htk2 hE hdr htk ex hok hd hown hgr hl hlx hT
      generalize X.getD (j + k) 0 = xk at *
      go_wp2
      go_end0
      obtain ⟨o1, o2, o3, o4, o5, o6⟩ := O.out
      exact ⟨_, _, rfl, o1, o6, o5, o4, o3, o2⟩

end Go.Proofs.YtbeidpeoichakaaGreatDoor.fo

/- Plain mathematics for layer 1: the divisor with its top bit set, and one word of the quotient. -/
namespace Go.Proofs.YtbeidpeoichakaaGreatDoor.fp
open Go.RowKit Go.Proofs.YtbeidpeoichakaaGreatDoor.fm Go.Proofs.YtbeidpeoichakaaGreatDoor.mem

theorem bitLen_spec (x : Nat) (h0 : x ≠ 0) (h : x < 18446744073709551616) : ∃ k, Lib.bitLen x = k + 1 ∧ 2 ^ k ≤ x ∧ x < 2 ^ (k + 1) := by
  induction x using Nat.strongRecOn with
  | _ x ih =>
    have e := Lib.bitLen_half x h0 h
    by_cases h1 : x = 1
    · subst h1
      exact ⟨0, by decide +kernel, by decide, by decide⟩
    · obtain ⟨k, hk, h2, h3⟩ := ih (x / 2) (by omega) (by omega) (by omega)
      refine ⟨k + 1, by rw [e, hk]; omega, ?_, ?_⟩
      · rw [Nat.pow_succ]; omega
      · rw [Nat.pow_succ]; omega

theorem lz32 (x : Nat) (hx : x < 4294967296) (h0 : x ≠ 0) (w : World) :
    Calls Tryz.prog 78 #[.int .u32 (x : Int)] w fun e w' => ∃ s : Nat, e = .returned (.int .i64 (s : Int)) ∧ (s < 32 ∧ 2147483648 ≤ x * 2 ^ s ∧ x * 2 ^ s < 4294967296) ∧ w = w' := by
  obtain ⟨k, hk, h1, h2⟩ := bitLen_spec x h0 (by omega)
  have hk32 : k < 32 := by
    apply Nat.lt_of_not_le
    intro hle
    have : 2 ^ 32 ≤ 2 ^ k := Nat.pow_le_pow_right (by decide) hle
    omega
  refine (Any.bits_LeadingZeros32 Tryz.lays133 (x : Int) w (by omega) (by omega)).mono fun e w' ⟨he, hw⟩ => ⟨31 - k, ?_, ⟨by omega, ?_, ?_⟩, hw.symm⟩
  · rw [he, Int.toNat_natCast, hk]
    congr 2
    omega
  · have : 2 ^ k * 2 ^ (31 - k) ≤ x * 2 ^ (31 - k) := Nat.mul_le_mul_right _ h1
    rw [← Nat.pow_add, show k + (31 - k) = 31 by omega] at this
    exact this
  · have : x * 2 ^ (31 - k) < 2 ^ (k + 1) * 2 ^ (31 - k) := Nat.mul_lt_mul_of_pos_right h2 (Nat.pow_pos (by decide))
    rw [← Nat.pow_add, show k + 1 + (31 - k) = 32 by omega] at this
    exact this

/-- the divisor, shifted so that its top bit is set -/
theorem shifted (n m s : Nat) (hm : (digs n).length = m + 2) (hs : s < 32) (h1 : 2147483648 ≤ (digs n).getD (m + 1) 0 * 2 ^ s) (h2 : (digs n).getD (m + 1) 0 * 2 ^ s < 4294967296) :
    (digs (n * 2 ^ s)).length = m + 2 ∧ 2147483648 ≤ (digs (n * 2 ^ s)).getD (m + 1) 0 ∧ 0 < n * 2 ^ s ∧ n * 2 ^ s < 4294967296 ^ (m + 2) := by
  have e1 := val_split (digs n) (m + 1) (by omega)
  have e2 := val_drop (digs n) (m + 1) (by omega)
  rw [List.drop_of_length_le (show (digs n).length ≤ m + 1 + 1 by omega), show val [] = 0 from rfl] at e2
  simp only [Nat.mul_zero, Nat.add_zero] at e2
  rw [val_digs, e2] at e1
  have e3 := val_lt (ok_take (ok_digs n) (m + 1))
  rw [List.length_take, Nat.min_eq_left (by omega)] at e3
  generalize (digs n).getD (m + 1) 0 = t at *
  generalize val ((digs n).take (m + 1)) = lo at *
  have hp : 0 < 2 ^ s := Nat.pow_pos (by decide)
  have ht : t + 1 ≤ 2 ^ (32 - s) := by
    have : 2 ^ s * 2 ^ (32 - s) = 4294967296 := by rw [← Nat.pow_add, show s + (32 - s) = 32 by omega]
    rw [← this, Nat.mul_comm] at h2
    exact Nat.lt_of_mul_lt_mul_left h2
  have hq2 : (4294967296 : Nat) ^ (m + 2) = 4294967296 ^ (m + 1) * 4294967296 := by rw [Nat.pow_succ]
  have key : n * 2 ^ s < 4294967296 ^ (m + 1) * 4294967296 ∧ 4294967296 ^ (m + 1) * 2147483648 ≤ n * 2 ^ s := by
    generalize (4294967296 : Nat) ^ (m + 1) = q at *
    have h5 : 2 ^ (32 - s) * 2 ^ s = 4294967296 := by rw [← Nat.pow_add, show 32 - s + s = 32 by omega]
    generalize 2 ^ s = p at *
    constructor
    · have a1 : n + 1 ≤ q * (t + 1) := by rw [Nat.mul_add]; omega
      have a2 : n * p + p ≤ q * (t + 1) * p := by
        have := Nat.mul_le_mul_right p a1; rw [Nat.add_mul, Nat.one_mul] at this; exact this
      have a3 : q * (t + 1) * p ≤ q * 4294967296 := by
        rw [Nat.mul_assoc]
        apply Nat.mul_le_mul_left
        have := Nat.mul_le_mul_right p ht
        omega
      omega
    · have a1 : q * t ≤ n := by omega
      have a2 := Nat.mul_le_mul_right p a1
      have a3 : q * 2147483648 ≤ q * (t * p) := Nat.mul_le_mul_left _ h1
      rw [← Nat.mul_assoc] at a3
      omega
  obtain ⟨hb, hl⟩ := key
  have hpp := pow_pos' (m + 1)
  have hlen : (digs (n * 2 ^ s)).length = m + 2 := by
    have l1 := (lt_len_iff (n * 2 ^ s) (m + 2)).2 (by rw [hq2]; exact hb)
    have l2 : ¬ (digs (n * 2 ^ s)).length ≤ m + 1 := fun hle => by
      have := (lt_len_iff (n * 2 ^ s) (m + 1)).1 hle
      generalize (4294967296 : Nat) ^ (m + 1) = q at *
      omega
    omega
  refine ⟨hlen, ?_, ?_, by rw [hq2]; exact hb⟩
  · generalize n * 2 ^ s = V at *
    have f1 := val_split (digs V) (m + 1) (by omega)
    have f2 := val_drop (digs V) (m + 1) (by omega)
    rw [List.drop_of_length_le (show (digs V).length ≤ m + 1 + 1 by omega), show val [] = 0 from rfl] at f2
    simp only [Nat.mul_zero, Nat.add_zero] at f2
    rw [val_digs, f2] at f1
    have f3 := val_lt (ok_take (ok_digs V) (m + 1))
    rw [List.length_take, Nat.min_eq_left (by omega)] at f3
    apply Nat.le_of_not_lt
    intro hlt
    have h6 : 4294967296 ^ (m + 1) * ((digs V).getD (m + 1) 0 + 1) ≤ 4294967296 ^ (m + 1) * 2147483648 := Nat.mul_le_mul_left _ hlt
    rw [Nat.mul_add] at h6
    generalize (4294967296 : Nat) ^ (m + 1) = q at *
    omega
  · generalize (4294967296 : Nat) ^ (m + 1) = q at *
    omega

/-- The rest behind a place, and the part that a divisor of m + 2 words can change. -/
theorem part_val (X : List Nat) (j m V : Nat) (ho : ok X) (hj : j + (m + 3) ≤ X.length) (hV : V < 4294967296 ^ (m + 2)) (hr : val (X.drop (j + 1)) < V) :
    val ((X.drop j).take (m + 3)) = val (X.drop j) ∧ val (X.drop j) < V * 4294967296 ∧ val (X.drop (j + (m + 3))) = 0 := by
  have e1 := val_drop X j (by omega)
  have e2 := val_split (X.drop (j + 1)) (m + 2) (by simp; omega)
  rw [List.drop_drop, show j + 1 + (m + 2) = j + (m + 3) by omega] at e2
  have hz : val (X.drop (j + (m + 3))) = 0 := by
    rcases Nat.eq_zero_or_pos (val (X.drop (j + (m + 3)))) with h | h
    · exact h
    · have : 4294967296 ^ (m + 2) * 1 ≤ 4294967296 ^ (m + 2) * val (X.drop (j + (m + 3))) := Nat.mul_le_mul_left _ h
      generalize (4294967296 : Nat) ^ (m + 2) = q at *
      omega
  have e3 := val_split (X.drop j) (m + 3) (by simp; omega)
  rw [List.drop_drop, hz, Nat.mul_zero, Nat.add_zero] at e3
  have hx := ok_getD ho j
  refine ⟨e3.symm, ?_, hz⟩
  rw [e1]
  have : 4294967296 * (val (X.drop (j + 1)) + 1) ≤ 4294967296 * V := Nat.mul_le_mul_left _ hr
  rw [Nat.mul_add] at this
  rw [Nat.mul_comm V]
  omega

/-- The rest after one word of the quotient. -/
theorem part_done (X X' Q : List Nat) (j m V A q r : Nat) (hX' : X'.take j = X.take j) (hj : j + (m + 3) ≤ X.length) (hl : X'.length = X.length) (hd : X'.drop (j + (m + 3)) = X.drop (j + (m + 3)))
    (hz : val (X.drop (j + (m + 3))) = 0) (hr : val ((X'.drop j).take (m + 3)) = r) (hP : val (X.drop j) = q * V + r) (hjQ : j < Q.length)
    (hA : A = 4294967296 ^ (j + 1) * (val (Q.drop (j + 1)) * V) + val X) :
    val (X'.drop j) = r ∧ A = 4294967296 ^ j * (val ((Q.set j q).drop j) * V) + val X' := by
  have e3 := val_split (X'.drop j) (m + 3) (by simp; omega)
  rw [List.drop_drop, hd, hz, Nat.mul_zero, Nat.add_zero, hr] at e3
  refine ⟨e3, ?_⟩
  have e4 := val_split X j (by omega)
  have e5 := val_split X' j (by omega)
  rw [hX', e3] at e5
  have e6 := val_drop (Q.set j q) j (by simpa using hjQ)
  have e7 : (Q.set j q).drop (j + 1) = Q.drop (j + 1) := List.drop_set_of_lt (by omega)
  rw [e7, fm.getD_set_self Q j q hjQ] at e6
  rw [hA, e6, e5, e4, hP, Nat.pow_succ]
  generalize 4294967296 ^ j = p
  generalize val (Q.drop (j + 1)) = t
  simp only [Nat.add_mul, Nat.mul_add]
  have : p * 4294967296 * (t * V) = p * (4294967296 * t * V) := by simp only [Nat.mul_assoc]
  omega

end Go.Proofs.YtbeidpeoichakaaGreatDoor.fp

/- fraction: divWords. -/
namespace Go.Proofs.YtbeidpeoichakaaGreatDoor.fq
open Go.RowKit Go.Proofs.YtbeidpeoichakaaGreatDoor.fm Go.Proofs.YtbeidpeoichakaaGreatDoor.mem Go.Proofs.YtbeidpeoichakaaGreatDoor.fa Go.Proofs.YtbeidpeoichakaaGreatDoor.fb Go.Proofs.YtbeidpeoichakaaGreatDoor.fc Go.Proofs.YtbeidpeoichakaaGreatDoor.fd Go.Proofs.YtbeidpeoichakaaGreatDoor.ff Go.Proofs.YtbeidpeoichakaaGreatDoor.fh Go.Proofs.YtbeidpeoichakaaGreatDoor.fi Go.Proofs.YtbeidpeoichakaaGreatDoor.fl Go.Proofs.YtbeidpeoichakaaGreatDoor.fo Go.Proofs.YtbeidpeoichakaaGreatDoor.fp

theorem cmp_lt {m n : Nat} (h : m < n) : cmp m n = -1 := by unfold cmp; rw [if_pos h]
theorem cmp_ge {m n : Nat} (h : n ≤ m) : 0 ≤ cmp m n := by unfold cmp; rw [if_neg (by omega)]; split <;> omega

/-- What a division leaves. -/
def Divided (w : World) (m n : Nat) (e : Ending) (w' : World) : Prop :=
  ∃ q r, e = .returned (.tuple #[q, r]) ∧ Owns w.heap.size w' q (digs (m / n)) ∧ Owns w.heap.size w' r (digs (m % n)) ∧ Below w.heap.size w w'

set_option maxRecDepth 100000 in
set_option maxHeartbeats 1000000 in
theorem div_less (w : World) (A A' : Option Addr) (c c' m n : Nat) (h : Rd w w.heap.size A c (digs m)) (h' : Rd w w.heap.size A' c' (digs n)) (hs : (digs m).length ≤ 1000000) (hs' : (digs n).length ≤ 1000000) (hlt : m < n) :
    Calls Tryz.prog 59 #[.slice A (digs m).length c, .slice A' (digs n).length c'] w (Divided w m n) := by
  have e := cmp_lt hlt
  have hq : m / n = 0 := Nat.div_eq_of_lt hlt
  have hr : m % n = m := Nat.mod_eq_of_lt hlt
  go_enter Tryz.func59, Tryz.ntmps59
  go_wp2_with fail
  refine (cmpWords_any w _ A A' c c' m n h h' (by omega) (by omega)).mono ?_
  rintro _ _ ⟨rfl, k, rfl⟩
  rw [e]
  go_wp2_with fail
  refine (clone_any _ A c (digs m) (h.drewN k) hs).mono ?_
  rintro _ w2 ⟨v, rfl, hown, hbel⟩
  have H := Lib.hid (And.intro hown (And.intro hbel (And.intro hq hr)))
  clear hown hbel hq hr e
  go_wp2
  go_ret2
  refine ⟨_, _, rfl, ?_, ?_, ?_⟩
  · rw [H.out.2.2.1]; exact World.ownsRow_nil _ _ _ _
  · rw [H.out.2.2.2]; exact H.out.1
  · obtain ⟨o1, o2, o3, o4, o5⟩ := H.out.2.1
    exact ⟨o1, o2, o3, o4, o5⟩

set_option maxRecDepth 100000 in
set_option maxHeartbeats 1000000 in
theorem div_one (w : World) (A A' : Option Addr) (c c' m n : Nat) (h : Rd w w.heap.size A c (digs m)) (h' : Rd w w.heap.size A' c' (digs n)) (hs : (digs m).length ≤ 1000000) (hn : (digs n).length = 1) (hle : n ≤ m) :
    Calls Tryz.prog 59 #[.slice A (digs m).length c, .slice A' (digs n).length c'] w (Divided w m n) := by
  have e := cmp_ge hle
  obtain ⟨b, hb⟩ : ∃ b, digs n = [b] := List.length_eq_one_iff.1 hn
  have hbn : b = n := by have := val_digs n; rw [hb] at this; simpa [val] using this
  subst hbn
  have hb2 : b < 4294967296 := by have := ok_digs b; rw [hb] at this; exact this b (by simp)
  have hb1 : 1 ≤ b := by
    rcases Nat.eq_zero_or_pos b with h0 | h0
    · subst h0; simp [digs_zero] at hn
    · exact h0
  obtain ⟨ba, off, rfl, hba, hc⟩ := h'.cells (by omega)
  have c1 := hc 0 (by omega)
  rw [hb] at c1
  simp only [List.getD_cons_zero, Nat.add_zero] at c1
  have i1 : (0 : Int) < ((digs b).length : Int) := by omega
  have z1 : (((digs b).length : Int) == 1) = true := beq_iff_eq.2 (by omega)
  have HN := Lib.hid hn
  clear hc hn hb
  go_enter Tryz.func59, Tryz.ntmps59
  go_wp2_with fail
  refine (cmpWords_any w _ A _ c c' m b h h' (by omega) (by have := HN.out; omega)).mono ?_
  rintro _ _ ⟨rfl, k, rfl⟩
  generalize cmp m b = cv at *
  go_wp2_with fail
  refine (divWord_any _ A c b (digs m) (h.drewN k) hb1 hb2 hs).mono ?_
  rintro _ w2 ⟨v, rfl, hown, hbel⟩
  rw [val_digs] at hown ⊢
  have H := Lib.hid (And.intro hown hbel)
  have hr : m % b < b := Nat.mod_lt _ hb1
  clear hown hbel
  generalize hR : m % b = R at *
  go_wp2_with fail
  have ho : ok [R] := by intro x hx; simp at hx; omega
  have e1 : #[Value.int IntKind.u32 (R : Int)] = (ws [R]).toArray := by simp [ws]
  have hown2 := own_new w2 [R] _ e1 (by simp [maxLen])
  have Hown2 := Lib.hid hown2
  clear hown2 e1
  refine (trim_own _ w2.heap.size w2.heap.size 1 1 [R] R Hown2.out ho (by omega) (by simp [val])).mono ?_
  rintro _ w3 ⟨rfl, ho3, rfl⟩
  have O3 := Lib.hid ho3
  clear ho3
  go_wp2
  go_ret2
  obtain ⟨h1, h2⟩ := H.out
  have hsz : w.heap.size ≤ w2.heap.size := h2.size
  refine ⟨_, _, rfl, ?_, ?_, ?_⟩
  · exact h1.alloc _
  · have h3 := O3.out
    rw [hR]
    refine ⟨h3.1, ?_⟩
    rcases h3.2 with h4 | ⟨g, cap, cur, e1, e2, e3⟩
    · exact .inl h4
    · exact .inr ⟨g, cap, cur, e1, by omega, e3⟩
  · obtain ⟨o1, o2, o3, o4, o5⟩ := h2
    exact (show Below w.heap.size w w2 from ⟨o1, o2, o3, o4, o5⟩).alloc hsz _

end Go.Proofs.YtbeidpeoichakaaGreatDoor.fq
