/- fraction: guess. -/
import Derived.Test.YtfnfnagdecpobaaDoorFi
namespace Go.Proofs.YtfnfnagdecpobaaDoor.fl
open Go.RowKit Go.Proofs.YtfnfnagdecpobaaDoor.fm Go.Proofs.YtfnfnagdecpobaaDoor.mem Go.Proofs.YtfnfnagdecpobaaDoor.fa Go.Proofs.YtfnfnagdecpobaaDoor.fb

theorem split_top2 (l : List Nat) (m : Nat) (h : l.length = m + 2) : val l = l.getD (m + 1) 0 * 4294967296 * 4294967296 ^ m + l.getD m 0 * 4294967296 ^ m + val (l.take m) := by
  have h1 := val_split l m (by omega)
  have h2 := val_drop l m (by omega)
  have h3 := val_drop l (m + 1) (by omega)
  rw [List.drop_of_length_le (show l.length ≤ m + 1 + 1 by omega), show val [] = 0 from rfl] at h3
  rw [h1, h2, h3, Nat.mul_add, Nat.mul_comm (4294967296 ^ m) (l.getD m 0), Nat.mul_comm (4294967296 ^ m), Nat.mul_zero, Nat.add_zero, Nat.mul_comm 4294967296]
  omega

theorem split_top3 (l : List Nat) (m : Nat) (h : l.length = m + 3) : val l = (l.getD (m + 2) 0 * 4294967296 + l.getD (m + 1) 0) * 4294967296 * 4294967296 ^ m + l.getD m 0 * 4294967296 ^ m + val (l.take m) := by
  have h1 := val_split l m (by omega)
  have h2 := val_drop l m (by omega)
  have h3 := val_drop l (m + 1) (by omega)
  have h4 := val_drop l (m + 2) (by omega)
  rw [List.drop_of_length_le (show l.length ≤ m + 2 + 1 by omega), show val [] = 0 from rfl] at h4
  simp only [Nat.mul_zero, Nat.add_zero] at h4
  rw [h1, h2, h3, h4, show 4294967296 * (l.getD (m + 1) 0 + 4294967296 * l.getD (m + 2) 0) = (l.getD (m + 2) 0 * 4294967296 + l.getD (m + 1) 0) * 4294967296 by omega, Nat.mul_add,
    Nat.mul_comm (4294967296 ^ m) (l.getD m 0), Nat.mul_comm (4294967296 ^ m)]
  omega

/-- What is known while the guess is made smaller. -/
structure Guess (U V top v1 d r : Nat) : Prop where
  eq : d * v1 + r = top
  ge : U < (d + 1) * V
  rest : r < 4294967296
  most : d ≤ 4294967297

set_option maxRecDepth 100000 in
set_option maxHeartbeats 4000000 in
theorem guess_any (w : World) (bu ou cu bv ov cv m : Nat) (P L : List Nat) (hP : P.length = m + 3) (hL : L.length = m + 2) (okP : ok P) (okL : ok L) (hm : m ≤ 1000000)
    (cu1 : ∀ t, t < m + 3 → w.cell? ⟨bu, ou + t, none⟩ = some (.int .u32 ((P.getD t 0 : Nat) : Int))) (cv1 : ∀ t, t < m + 2 → w.cell? ⟨bv, ov + t, none⟩ = some (.int .u32 ((L.getD t 0 : Nat) : Int)))
    (htop : 2147483648 ≤ L.getD (m + 1) 0) (hlt : val P < val L * 4294967296) :
    Calls Tryd.prog 92 #[.slice (some ⟨bu, ou, none⟩) (m + 3) cu, .slice (some ⟨bv, ov, none⟩) (m + 2) cv] w fun e w' => ∃ d : Nat, e = .returned (.int .u64 (d : Int)) ∧ (d < 4294967296 ∧ val P < (d + 1) * val L ∧ d * val L ≤ val P + val L) ∧ ∃ k, w' = w.drewN k := by
  have c1 := cu1 (m + 2) (by omega)
  have c2 := cu1 (m + 1) (by omega)
  have c3 := cu1 m (by omega)
  have c4 := cv1 (m + 1) (by omega)
  have c5 := cv1 m (by omega)
  have hV := split_top2 L m hL
  have hU := split_top3 P m hP
  have hvl : val (L.take m) < 4294967296 ^ m := by
    have := val_lt (ok_take okL m); rwa [List.length_take, Nat.min_eq_left (by omega)] at this
  have hul : val (P.take m) < 4294967296 ^ m := by
    have := val_lt (ok_take okP m); rwa [List.length_take, Nat.min_eq_left (by omega)] at this
  have b1 := ok_getD okP (m + 2)
  have b2 := ok_getD okP (m + 1)
  have b3 := ok_getD okP m
  have b4 := ok_getD okL (m + 1)
  have b5 := ok_getD okL m
  clear cu1 cv1 okP okL hP hL
  generalize P.getD (m + 2) 0 = un at *
  generalize P.getD (m + 1) 0 = um at *
  generalize P.getD m 0 = u2 at *
  generalize L.getD (m + 1) 0 = v1 at *
  generalize L.getD m 0 = v2 at *
  generalize val (P.take m) = ul at *
  generalize val (L.take m) = vl at *
  generalize val P = U at *
  generalize val L = V at *
  generalize (4294967296 : Nat) ^ m = p at *
  have ht := guess_top V U p v1 v2 vl u2 ul un um hV hU hvl b5 hlt b2
  obtain ⟨top, htop2⟩ : ∃ top, un * 4294967296 + um = top := ⟨_, rfl⟩
  rw [htop2] at hU ht
  have hor : bits .or .u64 ((un : Int) * 4294967296) (um : Int) = (top : Int) := by rw [or_join' um un b2 b1]; omega
  have hq : (top : Int) / (v1 : Int) = ((top / v1 : Nat) : Int) := (Int.natCast_ediv top v1).symm
  have hr : (top : Int) % (v1 : Int) = ((top % v1 : Nat) : Int) := (Int.natCast_emod top v1).symm
  have hdm : top / v1 * v1 + top % v1 = top := by rw [Nat.mul_comm]; exact Nat.div_add_mod top v1
  have hrl : top % v1 < v1 := Nat.mod_lt _ (by omega)
  have G0 : Guess U V top v1 (top / v1) (top % v1) := ⟨hdm, guess_first V U p v1 v2 vl u2 ul top _ _ hV hU hul b3 hdm hrl, by omega, first_digit v1 top _ _ hdm htop ht.2⟩
  have HH := Lib.hid (And.intro hV (And.intro hU (And.intro hvl (And.intro hul (And.intro ht.2 hlt)))))
  clear hV hU hvl hul hdm hrl hlt htop2
  generalize top / v1 = d0 at *
  generalize top % v1 = r0 at *
  have z0 : ((v1 : Int) == 0) = false := beq_eq_false_iff_ne.2 (by omega)
  have i0 : (0 : Int) ≤ (m : Int) := by omega
  have i1 : IntKind.i64.wrap ((m : Int) + 2 - 1) = (m : Int) + 1 := by rw [IntWalk.i64_in _ (by omega)]; omega
  have i2 : IntKind.i64.wrap ((m : Int) + 1) = (m : Int) + 1 := IntWalk.i64_in _ (by omega)
  have i3 : (0 : Int) ≤ (m : Int) + 1 := by omega
  have i4 : (m : Int) + 1 < (m : Int) + 2 := by omega
  have i5 : (m : Int) + 1 < (m : Int) + 3 := by omega
  have i6 : (m : Int) + 2 < (m : Int) + 3 := by omega
  have i7 : (0 : Int) ≤ (m : Int) + 2 := by omega
  have i8 : ((m : Int) + 1).toNat = m + 1 := by omega
  have i9 : ((m : Int) + 2).toNat = m + 2 := by omega
  have htb : top < 18446744073709551616 := by omega
  have j1 : IntKind.u64.wrap ((un : Int) * 4294967296) = (un : Int) * 4294967296 := by rw [IntKind.wrap_u64]; omega
  go_enter Tryd.func92, Tryd.ntmps92
  go_wp2
  go_quiet (fail)
  go_wp2
  go_quiet (fail)
  go_wp2
  have hd0 : IntKind.u64.wrap (d0 : Int) = (d0 : Int) := by have := G0.most; rw [IntKind.wrap_u64]; omega
  have H0 := Lib.hid (And.intro hd0 hr)
  clear c1 c2 b1 b2 hor hq hr j1 i6 i7 i9 hd0
  go_loopw [7, 8] (fun dv rv wr => ∃ (d r : Nat), dv = .int .u64 d ∧ rv = .int .u64 r ∧ Guess U V top v1 d r ∧ ∃ k, wr = w.drewN k) (fun dv _ _ => (intOf dv).toNat)
  case atStart => exact ⟨d0, r0, congrArg (Value.int .u64) H0.out.1, congrArg (Value.int .u64) H0.out.2, G0, _, World.drewN_drewN _ _ _⟩
  case round =>
    obtain ⟨d, r, rfl, rfl, G, kk, rfl⟩ := hrel
    have hb := G.rest
    have hmost := G.most
    obtain ⟨hV, hU, hvl, hul, htt, hlt⟩ := HH.out
    have k0 : IntKind.i64.wrap ((m : Int) + 2 - 2) = (m : Int) := by rw [IntWalk.i64_in _ (by omega)]; omega
    have k1 : (m : Int) < (m : Int) + 2 := by omega
    have k2 : (m : Int) < (m : Int) + 3 := by omega
    have k3 : IntKind.i64.wrap (m : Int) = (m : Int) := IntWalk.i64_in _ (by omega)
    have hVp : 0 < V := by
      rcases Nat.eq_zero_or_pos V with h0 | h0
      · subst h0; omega
      · exact h0
    -- what follows where the guess is too great
    have over : U < d * V → ∃ e : Nat, d = e + 1 ∧ (r + v1 < 4294967296 → Guess U V top v1 e (r + v1)) ∧ (4294967296 ≤ r + v1 → e < 4294967296 ∧ U < (e + 1) * V ∧ e * V ≤ U + V) := by
      intro ho
      obtain ⟨e, rfl⟩ : ∃ e, d = e + 1 := by
        refine ⟨d - 1, ?_⟩
        rcases Nat.eq_zero_or_pos d with h0 | h0
        · subst h0; omega
        · omega
      have heq : e * v1 + (r + v1) = top := by have := G.eq; rw [Nat.add_mul] at this; omega
      refine ⟨e, rfl, fun h1 => ⟨heq, ho, h1, by omega⟩, fun h1 => ?_⟩
      have hbr := guess_break v1 v2 u2 top e (r + v1) heq h1 htt b5
      exact ⟨hbr.1, ho, guess_near V U p v1 v2 vl u2 ul top e (r + v1) hV hU hvl heq hbr.1 (by omega) hbr.2⟩
    have Over := Lib.hid over
    clear over
    have bt : top < 18446744073709551616 := htb
    by_cases hw : 4294967296 ≤ d
    · obtain ⟨e, rfl, G1, G2⟩ := Over.out (guess_wide V U d hlt hw)
      have hgd : decide ((4294967296 : Int) ≤ (e : Int) + 1) = true := by simp; omega
      have HG := Lib.hid (And.intro G1 G2)
      clear G1 G2 hV hU hvl hul htt hlt G Over HH H0 G0
      by_cases hbr : 4294967296 ≤ r + v1
      · have d2 : decide ((4294967296 : Int) ≤ (r : Int) + (v1 : Int)) = true := by simp; omega
        go_wp2
        go_quiet (fail)
        go_wp2
        go_ret
        exact ⟨e, rfl, HG.out.2 hbr, _, rfl⟩
      · have d2 : decide ((4294967296 : Int) ≤ (r : Int) + (v1 : Int)) = false := by simp; omega
        go_wp2
        go_quiet (fail)
        go_wp2
        go_roundw
        case rel => exact ⟨e, r + v1, rfl, congrArg (Value.int .u64) (by omega), HG.out.1 (by omega), _, rfl⟩
        case measure => simp [intOf]
    · have hgd : decide ((4294967296 : Int) ≤ (d : Int)) = false := by simp; omega
      have hor : bits .or .u64 ((r : Int) * 4294967296) (u2 : Int) = ((u2 + 4294967296 * r : Nat) : Int) := or_join' u2 r b3 hb
      have hmul : IntKind.u64.wrap ((d : Int) * (v2 : Int)) = ((d * v2 : Nat) : Int) := by
        have h1 : d * v2 ≤ 4294967296 * 4294967295 := Nat.mul_le_mul (by omega) (by omega)
        rw [← Int.natCast_mul, IntKind.wrap_u64]
        generalize d * v2 = t at *
        omega
      have hsh : IntKind.u64.wrap ((r : Int) * 4294967296) = (r : Int) * 4294967296 := by rw [IntKind.wrap_u64]; omega
      have near : d * v2 ≤ u2 + 4294967296 * r → d < 4294967296 ∧ U < (d + 1) * V ∧ d * V ≤ U + V := fun h1 =>
        ⟨by omega, G.ge, guess_near V U p v1 v2 vl u2 ul top d r hV hU hvl G.eq (by omega) (by omega) (by omega)⟩
      have over2 : u2 + 4294967296 * r < d * v2 → U < d * V := fun h1 => guess_over V U p v1 v2 vl u2 ul top d r hV hU hul G.eq (by omega)
      have HG := Lib.hid (And.intro near over2)
      clear near over2 hV hU hvl hul htt hlt G HH H0 G0
      generalize hX : d * v2 = X at *
      generalize hY : u2 + 4294967296 * r = Y at *
      have HX := Lib.hid (And.intro hX hY)
      clear hX hY
      by_cases hc : Y < X
      · have d3 : decide (Y < X) = true := by simp; omega
        have d4 : decide ((Y : Int) < (X : Int)) = true := by simp; omega
        obtain ⟨e, he, G1, G2⟩ := Over.out (HG.out.2 hc)
        have HG2 := Lib.hid (And.intro he (And.intro G1 G2))
        have hd1 : 1 ≤ d := by omega
        clear G1 G2 HG Over HX he
        by_cases hbr : 4294967296 ≤ r + v1
        · have d2 : decide ((4294967296 : Int) ≤ (r : Int) + (v1 : Int)) = true := by simp; omega
          go_wp2
          go_quiet (fail)
          go_wp2
          go_ret
          exact ⟨e, ret_int (by have := HG2.out.1; omega), HG2.out.2.2 hbr, _, rfl⟩
        · have d2 : decide ((4294967296 : Int) ≤ (r : Int) + (v1 : Int)) = false := by simp; omega
          go_wp2
          go_quiet (fail)
          go_wp2
          go_roundw
          case rel => exact ⟨e, r + v1, congrArg (Value.int .u64) (by have := HG2.out.1; omega), congrArg (Value.int .u64) (by omega), HG2.out.2.1 (by omega), _, rfl⟩
          case measure => have := HG2.out.1; simp [intOf]; omega
      · have d3 : decide (Y < X) = false := by simp; omega
        have d4 : decide ((Y : Int) < (X : Int)) = false := by simp; omega
        have hfin := HG.out.1 (by omega)
        have HF := Lib.hid hfin
        clear hfin HG Over HX
        go_wp2
        go_quiet (fail)
        go_wp2
        go_ret
        exact ⟨d, rfl, HF.out, _, World.drewN_drewN _ _ _⟩

end Go.Proofs.YtfnfnagdecpobaaDoor.fl
