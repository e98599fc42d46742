/- fraction: gcd64 and scale. -/
import Derived.Test.YtfnfnagdecpobaaDoorFr
import Derived.Test.YtfnfnagdecpobaaDoorFj
import Derived.Deep.OwnRows
namespace Go.Proofs.YtfnfnagdecpobaaDoor.fs
open Go.RowKit Go.Proofs.YtfnfnagdecpobaaDoor.fm Go.Proofs.YtfnfnagdecpobaaDoor.mem Go.Proofs.YtfnfnagdecpobaaDoor.fa Go.Proofs.YtfnfnagdecpobaaDoor.fb Go.Proofs.YtfnfnagdecpobaaDoor.fc Go.Proofs.YtfnfnagdecpobaaDoor.fd Go.Proofs.YtfnfnagdecpobaaDoor.fh Go.Proofs.YtfnfnagdecpobaaDoor.fj Go.Proofs.YtfnfnagdecpobaaDoor.fr

/-- One step of gcd64. -/
theorem gcd_down {x y : Nat} (hx : x % 2 = 1) (hy : y % 2 = 1) (hlt : y < x) :
    (x - y) / 2 ^ tz (x - y) % 2 = 1 ∧ Nat.gcd ((x - y) / 2 ^ tz (x - y)) y = Nat.gcd x y ∧ (x - y) / 2 ^ tz (x - y) < x ∧ tz (x - y) < 64 * x + 64 := by
  have h0 : x - y ≠ 0 := by omega
  obtain ⟨h1, h2⟩ := tz_div h0
  refine ⟨h2, gcd_step (by omega) hy h1, Nat.lt_of_le_of_lt (Nat.div_le_self _ _) (by omega), ?_⟩
  have := tz_lt (k := x - y) h0 Nat.lt_two_pow_self
  omega

set_option maxRecDepth 100000 in
set_option maxHeartbeats 1000000 in
theorem gcd64_any (w : World) (a b : Nat) (ha : a < 18446744073709551616) (hb : b < 18446744073709551616) (oa : a % 2 = 1) (ob : b % 2 = 1) (hT : Tabs w) :
    Calls Tryd.prog 111 #[.int .u64 (a : Int), .int .u64 (b : Int)] w fun e w' => e = .returned (.int .u64 ((Nat.gcd a b : Nat) : Int)) ∧ w = w' := by
  go_enter Tryd.func111, Tryd.ntmps111
  go_wp2
  go_loop [0, 1] (fun v u => ∃ x y : Nat, v = .int .u64 x ∧ u = .int .u64 y ∧ x < 18446744073709551616 ∧ y < 18446744073709551616 ∧ x % 2 = 1 ∧ y % 2 = 1 ∧ Nat.gcd x y = Nat.gcd a b) (fun v u => (intOf v).toNat + (intOf u).toNat)
  case atStart => exact ⟨a, b, rfl, rfl, ha, hb, oa, ob, rfl⟩
  case round =>
    obtain ⟨x, y, rfl, rfl, hx, hy, ox, oy, hg⟩ := hrel
    have HG := Lib.hid hg
    clear hg oa ob ha hb
    rcases Nat.lt_trichotomy x y with hlt | heq | hlt
    · obtain ⟨g1, g2, g3, g4⟩ := gcd_down oy ox hlt
      have GG := Lib.hid (And.intro g1 (And.intro g2 (And.intro g3 g4)))
      have z1 : (((x : Nat) : Int) != (y : Int)) = true := by rw [bne_iff_ne]; omega
      have z2 : (x : Int) < (y : Int) := by omega
      have z3 : IntKind.u64.wrap ((y : Int) - (x : Int)) = ((y - x : Nat) : Int) := by show ((y : Int) - (x : Int)) % 18446744073709551616 = _; omega
      have z4 : (y : Int) - (x : Int) = ((y - x : Nat) : Int) := by omega
      obtain ⟨d, hd⟩ : ∃ d, y - x = d := ⟨_, rfl⟩
      rw [hd] at z3 z4 GG
      have hd1 : d < 18446744073709551616 := by omega
      have hd2 : d ≠ 0 := by omega
      have HD := Lib.hid (And.intro hd2 (And.intro ox oy))
      clear g1 g2 g3 g4 hd ox oy hlt hd2
      go_wp2_with fail
      refine (tz64 d hd1 HD.out.1 _ hT).mono ?_
      rintro _ _ ⟨rfl, rfl⟩
      have hs := tz_lt (k := 64) HD.out.1 hd1
      generalize hS : tz d = s at *
      have HS := Lib.hid hS
      clear hS
      have hq : d / 2 ^ s < 18446744073709551616 := Nat.lt_of_le_of_lt (Nat.div_le_self _ _) hd1
      go_wp2_with fail
      have hk : (d : Int) / 2 ^ s = ((d / 2 ^ s : Nat) : Int) := by simp
      rw [hk]
      refine ⟨⟨d / 2 ^ s, _, rfl, rfl, hq, by assumption, GG.out.1, HD.out.2.1, ?_⟩, ?_⟩
      · rw [GG.out.2.1]; rw [Nat.gcd_comm]; exact HG.out
      · have := GG.out.2.2.1
        generalize d / 2 ^ s = dd at *
        simp [intOf]; omega
    · subst heq
      have z1 : (((x : Nat) : Int) != (x : Int)) = false := by simp
      have e : Nat.gcd x x = x := Nat.gcd_self x
      have E := Lib.hid e
      clear e
      go_wp2
      go_ret
      exact ⟨ret_int (by rw [← HG.out, E.out]), rfl⟩
    · obtain ⟨g1, g2, g3, g4⟩ := gcd_down ox oy hlt
      have GG := Lib.hid (And.intro g1 (And.intro g2 (And.intro g3 g4)))
      have z1 : (((x : Nat) : Int) != (y : Int)) = true := by rw [bne_iff_ne]; omega
      have z2 : (y : Int) ≤ (x : Int) := by omega
      have z3 : IntKind.u64.wrap ((x : Int) - (y : Int)) = ((x - y : Nat) : Int) := by show ((x : Int) - (y : Int)) % 18446744073709551616 = _; omega
      have z4 : (x : Int) - (y : Int) = ((x - y : Nat) : Int) := by omega
      obtain ⟨d, hd⟩ : ∃ d, x - y = d := ⟨_, rfl⟩
      rw [hd] at z3 z4 GG
      have hd1 : d < 18446744073709551616 := by omega
      have hd2 : d ≠ 0 := by omega
      have HD := Lib.hid (And.intro hd2 (And.intro ox oy))
      clear g1 g2 g3 g4 hd ox oy hlt hd2
      go_wp2_with fail
      refine (tz64 d hd1 HD.out.1 _ hT).mono ?_
      rintro _ _ ⟨rfl, rfl⟩
      have hs := tz_lt (k := 64) HD.out.1 hd1
      generalize hS : tz d = s at *
      have HS := Lib.hid hS
      clear hS
      have hq : d / 2 ^ s < 18446744073709551616 := Nat.lt_of_le_of_lt (Nat.div_le_self _ _) hd1
      go_wp2_with fail
      have hk : (d : Int) / 2 ^ s = ((d / 2 ^ s : Nat) : Int) := by simp
      rw [hk]
      refine ⟨⟨d / 2 ^ s, _, rfl, rfl, hq, by assumption, GG.out.1, HD.out.2.2, ?_⟩, ?_⟩
      · rw [GG.out.2.1]; exact HG.out
      · have := GG.out.2.2.1
        generalize d / 2 ^ s = dd at *
        simp [intOf]; omega

theorem Rd_drew_alloc {w : World} {A : Option Addr} {c : Nat} {l : List Nat} (h : Rd w w.heap.size A c l) (o : Obj) : Rd (w.drew.alloc o) (w.drew.alloc o).heap.size A c l := by
  have hb : Below w.heap.size w.drew (w.drew.alloc o) := (Below.refl w.heap.size w.drew).alloc (Nat.le_refl _) o
  exact (Rd.below (w := w.drew) (h.drewN 1) hb).more hb.size

theorem zeros_own (w : World) (q : Nat) (hq : q ≤ 1000000) : (w.alloc (.cells (madeCells #[.int .u32 0] q) 66)).ownsRow w.heap.size 66 1 (.slice (some ⟨w.heap.size, 0, none⟩) q q) q (ws (List.replicate q 0)) := by
  have h := own_new w (List.replicate q 0) (madeCells #[.int .u32 0] q) (by rw [ws_replicate, ← toList_madeCells_one]) (by simp [maxLen]; omega)
  simpa [Owns] using h

theorem own_news {base : Nat} {w : World} {g n cap : Nat} {S : List Nat} (h : w.ownsRow base 66 1 (.slice (some ⟨g, 0, none⟩) n cap) n (ws S)) : ∀ j u, (ws S)[j]? = some u → w.cell? ((⟨g, 0, none⟩ : Addr).add j) = some u := by
  intro j u hu
  have hl := own_len h
  have hj : j < S.length := by
    have := (List.getElem?_eq_some_iff.1 hu).1
    rwa [ws_length] at this
  rw [ws_get S j hj] at hu
  have hadd : (⟨g, 0, none⟩ : Addr).add j = ⟨g, j, none⟩ := by unfold Addr.add; split <;> simp_all
  rw [hadd, own_cell h j (by omega)]
  exact hu

/-- What scale joins: the zeros, and the words behind them. -/
def Joined (w w1 : World) (g gl q k : Nat) (L : List Nat) : Prop :=
  w1.ownsRow w.heap.size 66 1 (.slice (some ⟨g, 0, none⟩) q q) q (ws (List.replicate q 0)) ∧ w1.ownsRow w.heap.size 66 1 (.slice (some ⟨gl, 0, none⟩) k k) k (ws L) ∧ Below w.heap.size w w1 ∧ ok L

theorem scale_val {m n q r : Nat} {L : List Nat} (hn : n = 32 * q + r) (hL : val L = val (digs m) * 2 ^ r) : val (List.replicate q 0 ++ L) = m * 2 ^ n := by
  rw [val_append, val_replicate, List.length_replicate, Nat.zero_add, hL, val_digs, hn, Nat.pow_add, Nat.pow_mul, show (2 : Nat) ^ 32 = 4294967296 by decide, Nat.mul_left_comm]

theorem joined_a {w w1 : World} {q k x : Nat} {L : List Nat} (hq : q ≤ 1000000)
    (hL : w1.ownsRow (w.alloc (.cells (madeCells #[.int .u32 0] q) 66)).drew.heap.size 66 1 (.slice (some ⟨(w.alloc (.cells (madeCells #[.int .u32 0] q) 66)).drew.heap.size, 0, none⟩) k k) k (ws L) ∧ ok L ∧ val L = x ∧
      Below (w.alloc (.cells (madeCells #[.int .u32 0] q) 66)).drew.heap.size (w.alloc (.cells (madeCells #[.int .u32 0] q) 66)).drew w1) :
    Joined w w1 w.heap.size (w.heap.size + 1) q k L := by
  have e : (w.alloc (.cells (madeCells #[.int .u32 0] q) 66)).drew.heap.size = w.heap.size + 1 := by simp
  rw [e] at hL
  refine ⟨own_below (w := (w.alloc (.cells (madeCells #[.int .u32 0] q) 66)).drew) (zeros_own w q hq) hL.2.2.2 (by omega), own_base hL.1 (by omega), ?_, hL.2.1⟩
  have hb : Below w.heap.size w (w.alloc (.cells (madeCells #[.int .u32 0] q) 66)).drew := ((Below.refl w.heap.size w).alloc (Nat.le_refl _) _).drew
  exact hb.trans (hL.2.2.2.mono (by omega))

theorem joined_b {w w1 : World} {q k x : Nat} {L : List Nat} (hq : q ≤ 1000000)
    (hL : w1.ownsRow w.drew.heap.size 66 1 (.slice (some ⟨w.drew.heap.size, 0, none⟩) k k) k (ws L) ∧ ok L ∧ val L = x ∧ Below w.drew.heap.size w.drew w1) :
    Joined w (w1.alloc (.cells (madeCells #[.int .u32 0] q) 66)) w1.heap.size w.drew.heap.size q k L := by
  have hsz : w.heap.size ≤ w1.heap.size := hL.2.2.2.size
  refine ⟨own_base (zeros_own w1 q hq) hsz, hL.1.alloc _, ?_, hL.2.1⟩
  have hc := hL.2.2.2.alloc hsz (.cells (madeCells #[.int .u32 0] q) 66)
  exact ⟨hc.os, hc.tape, hc.output, hc.size, hc.block⟩

set_option maxRecDepth 100000 in
set_option maxHeartbeats 1000000 in
theorem scale_any (w : World) (A : Option Addr) (c m n : Nat) (h : Rd w w.heap.size A c (digs m)) (hs : (digs m).length + n / 32 ≤ 1000000) :
    Calls Tryd.prog 110 #[.slice A (digs m).length c, .int .i64 (n : Int)] w fun e w' => ∃ v, e = .returned v ∧ Owns w.heap.size w' v (digs (m * 2 ^ n)) ∧ Below w.heap.size w w' := by
  obtain ⟨i0, hi, hz0, hz1, hz2⟩ := info_parts info_u32
  obtain ⟨q, hq⟩ : ∃ q, n / 32 = q := ⟨_, rfl⟩
  obtain ⟨r, hr⟩ : ∃ r, n % 32 = r := ⟨_, rfl⟩
  have e1 : (n : Int) / 32 = (q : Int) := by omega
  have e2 : (n : Int) % 32 = (r : Int) := by omega
  have e3 : (n : Int).tdiv 32 = (q : Int) := by rw [Int.tdiv_eq_ediv_of_nonneg (by omega)]; exact e1
  have e4 : IntKind.i64.wrap ((n : Int).tdiv 32) = (q : Int) := by rw [e3]; exact IntWalk.i64_in _ (by omega)
  have e5 : (n : Int).tmod 32 = (r : Int) := by rw [Int.tmod_eq_emod_of_nonneg (by omega)]; exact e2
  have e6 : IntKind.i64.wrap ((n : Int).tmod 32) = (r : Int) := by rw [e5]; exact IntWalk.i64_in _ (by omega)
  have e7 : IntKind.i64.wrap (q : Int) = (q : Int) := IntWalk.i64_in _ (by omega)
  have e8 : IntKind.i64.wrap (r : Int) = (r : Int) := IntWalk.i64_in _ (by omega)
  have hn : n = 32 * q + r := by omega
  have hl32 : r < 32 := by omega
  have hs1 : (digs m).length ≤ 1000000 := by omega
  have hq6 : q ≤ 1000000 := by omega
  rw [hq] at hs
  have HQ := Lib.hid (And.intro hq (And.intro hr hn))
  clear hq hr hn
  go_enter Tryd.func110, Tryd.ntmps110
  have hmk := run_make_row' (P := Tryd.prog) 26 66 (.int .u32 0) 4 Tryd.underlying26 info_u32 rfl .i64 .i64 q (by omega) (by omega)
  go_wp2_with fail
  go_region_held3 (fun _ => True) (exact trivial) (first
    | (go_at_call 91; refine (shiftLeft_any _ A c r (digs m) (by first | exact h.drewN 1 | exact Rd_drew_alloc h _) hs1 hl32).mono ?_; rintro _ w1 ⟨L, rfl, hL⟩)
    | (have J := joined_a hq6 hL; have HJ := Lib.hid J; clear J
       refine step_append_lies _ (by rfl) _ _ _ (by rfl) w.heap.size 66 i0 _ 1 4 Tryd.underlying26 hi hz0 hz1 hz2 rfl (by omega) _ q (ws (List.replicate q 0)) (by rfl) HJ.out.1
              ⟨w.heap.size + 1, 0, none⟩ ((digs m).length + 1) ((digs m).length + 1) (ws L) (by rfl) (by rw [ws_length, own_len HJ.out.2.1, Nat.mul_one]) (own_news HJ.out.2.1) (ws_oneCell L)
              (by omega) (by unfold maxLen; omega) (by omega) HJ.out.2.2.1.size _ rfl ?_; intro gg cap w2 hown2 hgrow hat hlt1)
    | (have J := joined_b hq6 hL; have HJ := Lib.hid J; clear J
       refine step_append_lies _ (by rfl) _ _ _ (by rfl) w.heap.size 66 i0 _ 1 4 Tryd.underlying26 hi hz0 hz1 hz2 rfl (by omega) _ q (ws (List.replicate q 0)) (by rfl) HJ.out.1
              ⟨w.heap.size, 0, none⟩ ((digs m).length + 1) ((digs m).length + 1) (ws L) (by rfl) (by rw [ws_length, own_len HJ.out.2.1, Nat.mul_one]) (own_news HJ.out.2.1) (ws_oneCell L)
              (by omega) (by unfold maxLen; omega) (by omega) HJ.out.2.2.1.size _ rfl ?_; intro gg cap w2 hown2 hgrow hat hlt1)
    | (have hok := ok_append.2 ⟨ok_replicate q, HJ.out.2.2.2⟩
       go_at_call 88
       refine (trim_own w2 w.heap.size gg (q + ((digs m).length + 1)) cap (List.replicate q 0 ++ L) (m * 2 ^ n) (by rw [ws_append]; exact hown2) hok (by omega) (scale_val HQ.out.2.2 hL.2.2.1)).mono ?_
       rintro _ _ ⟨rfl, hown3, rfl⟩))
  all_goals
    have hsz := hL.2.2.2.size
    have hb := HJ.out.2.2.1.grown hgrow HJ.out.2.2.1.size (by simp [Value.ownBlock] at hsz ⊢ <;> omega)
    have HH := Lib.hid (And.intro hown3 hb)
    clear hsz hb hown3 hown2 hgrow hat hlt1 hok hL hmk e1 e2 e3 e4 e5 e6 e7 e8
    go_wp2
    go_ret
    exact ⟨_, rfl, HH.out.1, HH.out.2⟩

end Go.Proofs.YtfnfnagdecpobaaDoor.fs
