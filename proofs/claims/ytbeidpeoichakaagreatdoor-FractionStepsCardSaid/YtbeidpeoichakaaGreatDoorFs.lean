/- fraction: gcd64 and scale. -/
import Derived.Test.YtbeidpeoichakaaGreatDoorFr
import Derived.Test.YtbeidpeoichakaaGreatDoorFj
import Derived.Deep.OwnRows
import Derived.Deep.LoopGhost
import Derived.Deep.DeepCutAuto
namespace Go.Proofs.YtbeidpeoichakaaGreatDoor.fs
open Go.RowKit Go.Proofs.YtbeidpeoichakaaGreatDoor.fm Go.Proofs.YtbeidpeoichakaaGreatDoor.mem Go.Proofs.YtbeidpeoichakaaGreatDoor.fa Go.Proofs.YtbeidpeoichakaaGreatDoor.fb Go.Proofs.YtbeidpeoichakaaGreatDoor.fc Go.Proofs.YtbeidpeoichakaaGreatDoor.fd Go.Proofs.YtbeidpeoichakaaGreatDoor.fh Go.Proofs.YtbeidpeoichakaaGreatDoor.fj Go.Proofs.YtbeidpeoichakaaGreatDoor.fr

/-- One step of gcd64. -/
theorem gcd_down {x y : Nat} (hx : x % 2 = 1) (hy : y % 2 = 1) (hlt : y < x) :
    (x - y) / 2 ^ tz (x - y) % 2 = 1 ∧ Nat.gcd ((x - y) / 2 ^ tz (x - y)) y = Nat.gcd x y ∧ (x - y) / 2 ^ tz (x - y) < x ∧ tz (x - y) < 64 * x + 64 := by
  have h0 : x - y ≠ 0 := by omega
  obtain ⟨h1, h2⟩ := tz_div h0
  refine ⟨h2, gcd_step (by omega) hy h1, Nat.lt_of_le_of_lt (Nat.div_le_self _ _) (by omega), ?_⟩
  have := tz_lt (k := x - y) h0 Nat.lt_two_pow_self
  omega

set_option maxRecDepth 100000 in
set_option maxHeartbeats 1000000 in
theorem gcd64_any (w : World) (a b : Nat) (ha : a < 18446744073709551616) (hb : b < 18446744073709551616) (oa : a % 2 = 1) (ob : b % 2 = 1) (hT : Tabs w) :
    Calls Tryz.prog 88 #[.int .u64 (a : Int), .int .u64 (b : Int)] w fun e w' => e = .returned (.int .u64 ((Nat.gcd a b : Nat) : Int)) ∧ w = w' := by
  go_enter Tryz.func88, Tryz.ntmps88
  go_wp2
  go_loop [0, 1] (fun v u => ∃ x y : Nat, v = .int .u64 x ∧ u = .int .u64 y ∧ x < 18446744073709551616 ∧ y < 18446744073709551616 ∧ x % 2 = 1 ∧ y % 2 = 1 ∧ Nat.gcd x y = Nat.gcd a b) (fun v u => (intOf v).toNat + (intOf u).toNat)
  case atStart => exact ⟨a, b, rfl, rfl, ha, hb, oa, ob, rfl⟩
  case round =>
    obtain ⟨x, y, rfl, rfl, hx, hy, ox, oy, hg⟩ := hrel
    have HG := Lib.hid hg
    clear hg oa ob ha hb
    rcases Nat.lt_trichotomy x y with hlt | heq | hlt
    · obtain ⟨g1, g2, g3, g4⟩ := gcd_down oy ox hlt
      have GG := Lib.hid (And.intro g1 (And.intro g2 (And.intro g3 g4)))
      have z1 : (((x : Nat) : Int) != (y : Int)) = true := by rw [bne_iff_ne]; omega
      have z2 : (x : Int) < (y : Int) := by omega
      have z3 : IntKind.u64.wrap ((y : Int) - (x : Int)) = ((y - x : Nat) : Int) := by show ((y : Int) - (x : Int)) % 18446744073709551616 = _; omega
      have z4 : (y : Int) - (x : Int) = ((y - x : Nat) : Int) := by omega
      obtain ⟨d, hd⟩ : ∃ d, y - x = d := ⟨_, rfl⟩
      rw [hd] at z3 z4 GG
      have hd1 : d < 18446744073709551616 := by omega
      have hd2 : d ≠ 0 := by omega
      have HD := Lib.hid (And.intro hd2 (And.intro ox oy))
      clear g1 g2 g3 g4 hd ox oy hlt hd2
      go_wp2_with fail
      refine (tz64 d hd1 HD.out.1 _ hT).mono ?_
      rintro _ _ ⟨rfl, rfl⟩
      have hs := tz_lt (k := 64) HD.out.1 hd1
      generalize hS : tz d = s at *
      have HS := Lib.hid hS
      clear hS
      have hq : d / 2 ^ s < 18446744073709551616 := Nat.lt_of_le_of_lt (Nat.div_le_self _ _) hd1
      go_wp2_with fail
      have hk : (d : Int) / 2 ^ s = ((d / 2 ^ s : Nat) : Int) := by simp
      rw [hk]
      refine ⟨⟨d / 2 ^ s, _, rfl, rfl, hq, by assumption, GG.out.1, HD.out.2.1, ?_⟩, ?_⟩
      · rw [GG.out.2.1]; rw [Nat.gcd_comm]; exact HG.out
      · have := GG.out.2.2.1
        generalize d / 2 ^ s = dd at *
        simp [intOf]; omega
    · subst heq
      have z1 : (((x : Nat) : Int) != (x : Int)) = false := by simp
      have e : Nat.gcd x x = x := Nat.gcd_self x
      have E := Lib.hid e
      clear e
      go_wp2
      go_ret
      exact ⟨ret_int (by rw [← HG.out, E.out]), rfl⟩
    · obtain ⟨g1, g2, g3, g4⟩ := gcd_down ox oy hlt
      have GG := Lib.hid (And.intro g1 (And.intro g2 (And.intro g3 g4)))
      have z1 : (((x : Nat) : Int) != (y : Int)) = true := by rw [bne_iff_ne]; omega
      have z2 : (y : Int) ≤ (x : Int) := by omega
      have z3 : IntKind.u64.wrap ((x : Int) - (y : Int)) = ((x - y : Nat) : Int) := by show ((x : Int) - (y : Int)) % 18446744073709551616 = _; omega
      have z4 : (x : Int) - (y : Int) = ((x - y : Nat) : Int) := by omega
      obtain ⟨d, hd⟩ : ∃ d, x - y = d := ⟨_, rfl⟩
      rw [hd] at z3 z4 GG
      have hd1 : d < 18446744073709551616 := by omega
      have hd2 : d ≠ 0 := by omega
      have HD := Lib.hid (And.intro hd2 (And.intro ox oy))
      clear g1 g2 g3 g4 hd ox oy hlt hd2
      go_wp2_with fail
      refine (tz64 d hd1 HD.out.1 _ hT).mono ?_
      rintro _ _ ⟨rfl, rfl⟩
      have hs := tz_lt (k := 64) HD.out.1 hd1
      generalize hS : tz d = s at *
      have HS := Lib.hid hS
      clear hS
      have hq : d / 2 ^ s < 18446744073709551616 := Nat.lt_of_le_of_lt (Nat.div_le_self _ _) hd1
      go_wp2_with fail
      have hk : (d : Int) / 2 ^ s = ((d / 2 ^ s : Nat) : Int) := by simp
      rw [hk]
      refine ⟨⟨d / 2 ^ s, _, rfl, rfl, hq, by assumption, GG.out.1, HD.out.2.2, ?_⟩, ?_⟩
      · rw [GG.out.2.1]; exact HG.out
      · have := GG.out.2.2.1
        generalize d / 2 ^ s = dd at *
        simp [intOf]; omega

theorem Rd_drew_alloc {w : World} {A : Option Addr} {c : Nat} {l : List Nat} (h : Rd w w.heap.size A c l) (o : Obj) : Rd (w.drew.alloc o) (w.drew.alloc o).heap.size A c l := by
  have hb : Below w.heap.size w.drew (w.drew.alloc o) := (Below.refl w.heap.size w.drew).alloc (Nat.le_refl _) o
  exact (Rd.below (w := w.drew) (h.drewN 1) hb).more hb.size

theorem zeros_own (w : World) (q : Nat) (hq : q ≤ 1000000) : (w.alloc (.cells (madeCells #[.int .u32 0] q) 59)).ownsRow w.heap.size 59 1 (.slice (some ⟨w.heap.size, 0, none⟩) q q) q (ws (List.replicate q 0)) := by
  have h := own_new w (List.replicate q 0) (madeCells #[.int .u32 0] q) (by rw [ws_replicate, ← toList_madeCells_one]) (by simp [maxLen]; omega)
  simpa [Owns] using h

theorem own_news {base : Nat} {w : World} {g n cap : Nat} {S : List Nat} (h : w.ownsRow base 59 1 (.slice (some ⟨g, 0, none⟩) n cap) n (ws S)) : ∀ j u, (ws S)[j]? = some u → w.cell? ((⟨g, 0, none⟩ : Addr).add j) = some u := by
  intro j u hu
  have hl := own_len h
  have hj : j < S.length := by
    have := (List.getElem?_eq_some_iff.1 hu).1
    rwa [ws_length] at this
  rw [ws_get S j hj] at hu
  have hadd : (⟨g, 0, none⟩ : Addr).add j = ⟨g, j, none⟩ := by unfold Addr.add; split <;> simp_all
  rw [hadd, own_cell h j (by omega)]
  exact hu

/-- What scale joins: the zeros, and the words behind them. -/
def Joined (w w1 : World) (g gl q k : Nat) (L : List Nat) : Prop :=
  w1.ownsRow w.heap.size 59 1 (.slice (some ⟨g, 0, none⟩) q q) q (ws (List.replicate q 0)) ∧ w1.ownsRow w.heap.size 59 1 (.slice (some ⟨gl, 0, none⟩) k k) k (ws L) ∧ Below w.heap.size w w1 ∧ ok L

theorem scale_val {m n q r : Nat} {L : List Nat} (hn : n = 32 * q + r) (hL : val L = val (digs m) * 2 ^ r) : val (List.replicate q 0 ++ L) = m * 2 ^ n := by
  rw [val_append, val_replicate, List.length_replicate, Nat.zero_add, hL, val_digs, hn, Nat.pow_add, Nat.pow_mul, show (2 : Nat) ^ 32 = 4294967296 by decide, Nat.mul_left_comm]

theorem joined_a {w w1 : World} {q k x : Nat} {L : List Nat} (hq : q ≤ 1000000)
    (hL : w1.ownsRow (w.alloc (.cells (madeCells #[.int .u32 0] q) 59)).drew.heap.size 59 1 (.slice (some ⟨(w.alloc (.cells (madeCells #[.int .u32 0] q) 59)).drew.heap.size, 0, none⟩) k k) k (ws L) ∧ ok L ∧ val L = x ∧
      Below (w.alloc (.cells (madeCells #[.int .u32 0] q) 59)).drew.heap.size (w.alloc (.cells (madeCells #[.int .u32 0] q) 59)).drew w1) :
    Joined w w1 w.heap.size (w.heap.size + 1) q k L := by
  have e : (w.alloc (.cells (madeCells #[.int .u32 0] q) 59)).drew.heap.size = w.heap.size + 1 := by simp
  rw [e] at hL
  refine ⟨own_below (w := (w.alloc (.cells (madeCells #[.int .u32 0] q) 59)).drew) (zeros_own w q hq) hL.2.2.2 (by omega), own_base hL.1 (by omega), ?_, hL.2.1⟩
  have hb : Below w.heap.size w (w.alloc (.cells (madeCells #[.int .u32 0] q) 59)).drew := ((Below.refl w.heap.size w).alloc (Nat.le_refl _) _).drew
  exact hb.trans (hL.2.2.2.mono (by omega))

theorem joined_b {w w1 : World} {q k x : Nat} {L : List Nat} (hq : q ≤ 1000000)
    (hL : w1.ownsRow w.drew.heap.size 59 1 (.slice (some ⟨w.drew.heap.size, 0, none⟩) k k) k (ws L) ∧ ok L ∧ val L = x ∧ Below w.drew.heap.size w.drew w1) :
    Joined w (w1.alloc (.cells (madeCells #[.int .u32 0] q) 59)) w1.heap.size w.drew.heap.size q k L := by
  have hsz : w.heap.size ≤ w1.heap.size := hL.2.2.2.size
  refine ⟨own_base (zeros_own w1 q hq) hsz, hL.1.alloc _, ?_, hL.2.1⟩
  have hc := hL.2.2.2.alloc hsz (.cells (madeCells #[.int .u32 0] q) 59)
  exact ⟨hc.os, hc.tape, hc.output, hc.size, hc.block⟩

set_option maxRecDepth 100000 in
set_option maxHeartbeats 1000000 in
theorem scale_any (w : World) (A : Option Addr) (c m n : Nat) (h : Rd w w.heap.size A c (digs m)) (hs : (digs m).length + n / 32 ≤ 1000000) :
    Calls Tryz.prog 86 #[.slice A (digs m).length c, .int .i64 (n : Int)] w fun e w' => ∃ v, e = .returned v ∧ Owns w.heap.size w' v (digs (m * 2 ^ n)) ∧ Below w.heap.size w w' := by
  obtain ⟨i0, hi, hz0, hz1, hz2⟩ := info_parts info_u32
  obtain ⟨q, hq⟩ : ∃ q, n / 32 = q := ⟨_, rfl⟩
  obtain ⟨r, hr⟩ : ∃ r, n % 32 = r := ⟨_, rfl⟩
  have e1 : (n : Int) / 32 = (q : Int) := by omega
  have e2 : (n : Int) % 32 = (r : Int) := by omega
  have e3 : (n : Int).tdiv 32 = (q : Int) := by rw [Int.tdiv_eq_ediv_of_nonneg (by omega)]; exact e1
  have e4 : IntKind.i64.wrap ((n : Int).tdiv 32) = (q : Int) := by rw [e3]; exact IntWalk.i64_in _ (by omega)
  have e5 : (n : Int).tmod 32 = (r : Int) := by rw [Int.tmod_eq_emod_of_nonneg (by omega)]; exact e2
  have e6 : IntKind.i64.wrap ((n : Int).tmod 32) = (r : Int) := by rw [e5]; exact IntWalk.i64_in _ (by omega)
  have e7 : IntKind.i64.wrap (q : Int) = (q : Int) := IntWalk.i64_in _ (by omega)
  have e8 : IntKind.i64.wrap (r : Int) = (r : Int) := IntWalk.i64_in _ (by omega)
  have hn : n = 32 * q + r := by omega
  have hl32 : r < 32 := by omega
  have hs1 : (digs m).length ≤ 1000000 := by omega
  have hq6 : q ≤ 1000000 := by omega
  rw [hq] at hs
  have HQ := Lib.hid (And.intro hq (And.intro hr hn))
  clear hq hr hn
  go_enter Tryz.func86, Tryz.ntmps86
  have hmk := run_make_row' (P := Tryz.prog) 26 59 (.int .u32 0) 4 Tryz.underlying26 info_u32 rfl .i64 .i64 q (by omega) (by omega)
  go_wp2_with fail
  go_region_held3 (fun _ => True) (exact trivial) (first
    | (go_at_call 79; refine (shiftLeft_any _ A c r (digs m) (by first | exact h.drewN 1 | exact Rd_drew_alloc h _) hs1 hl32).mono ?_; rintro _ w1 ⟨L, rfl, hL⟩)
    | (have J := joined_a hq6 hL; have HJ := Lib.hid J; clear J
       refine step_append_lies _ (by rfl) _ _ _ (by rfl) w.heap.size 59 i0 _ 1 4 Tryz.underlying26 hi hz0 hz1 hz2 rfl (by omega) _ q (ws (List.replicate q 0)) (by rfl) HJ.out.1
              ⟨w.heap.size + 1, 0, none⟩ ((digs m).length + 1) ((digs m).length + 1) (ws L) (by rfl) (by rw [ws_length, own_len HJ.out.2.1, Nat.mul_one]) (own_news HJ.out.2.1) (ws_oneCell L)
              (by omega) (by unfold maxLen; omega) (by omega) HJ.out.2.2.1.size _ rfl ?_; intro gg cap w2 hown2 hgrow hat hlt1)
    | (have J := joined_b hq6 hL; have HJ := Lib.hid J; clear J
       refine step_append_lies _ (by rfl) _ _ _ (by rfl) w.heap.size 59 i0 _ 1 4 Tryz.underlying26 hi hz0 hz1 hz2 rfl (by omega) _ q (ws (List.replicate q 0)) (by rfl) HJ.out.1
              ⟨w.heap.size, 0, none⟩ ((digs m).length + 1) ((digs m).length + 1) (ws L) (by rfl) (by rw [ws_length, own_len HJ.out.2.1, Nat.mul_one]) (own_news HJ.out.2.1) (ws_oneCell L)
              (by omega) (by unfold maxLen; omega) (by omega) HJ.out.2.2.1.size _ rfl ?_; intro gg cap w2 hown2 hgrow hat hlt1)
    | (have hok := ok_append.2 ⟨ok_replicate q, HJ.out.2.2.2⟩
       go_at_call 72
       refine (trim_own w2 w.heap.size gg (q + ((digs m).length + 1)) cap (List.replicate q 0 ++ L) (m * 2 ^ n) (by rw [ws_append]; exact hown2) hok (by omega) (scale_val HQ.out.2.2 hL.2.2.1)).mono ?_
       rintro _ _ ⟨rfl, hown3, rfl⟩))
  all_goals
    have hsz := hL.2.2.2.size
    have hb := HJ.out.2.2.1.grown hgrow HJ.out.2.2.1.size (by simp [Value.ownBlock] at hsz ⊢ <;> omega)
    have HH := Lib.hid (And.intro hown3 hb)
    clear hsz hb hown3 hown2 hgrow hat hlt1 hok hL hmk e1 e2 e3 e4 e5 e6 e7 e8
    go_wp2
    go_ret
    exact ⟨_, rfl, HH.out.1, HH.out.2⟩

end Go.Proofs.YtbeidpeoichakaaGreatDoor.fs

/- fraction: gcdWords. -/
namespace Go.Proofs.YtbeidpeoichakaaGreatDoor.ft
open Go.RowKit Go.Proofs.YtbeidpeoichakaaGreatDoor.fm Go.Proofs.YtbeidpeoichakaaGreatDoor.mem Go.Proofs.YtbeidpeoichakaaGreatDoor.fa Go.Proofs.YtbeidpeoichakaaGreatDoor.fb Go.Proofs.YtbeidpeoichakaaGreatDoor.fc Go.Proofs.YtbeidpeoichakaaGreatDoor.fd Go.Proofs.YtbeidpeoichakaaGreatDoor.fh Go.Proofs.YtbeidpeoichakaaGreatDoor.fi Go.Proofs.YtbeidpeoichakaaGreatDoor.fj Go.Proofs.YtbeidpeoichakaaGreatDoor.fq Go.Proofs.YtbeidpeoichakaaGreatDoor.fr Go.Proofs.YtbeidpeoichakaaGreatDoor.fs

theorem own_some {base : Nat} {w : World} {v : Value} {l : List Nat} (h : Owns base w v l) (hl : l ≠ []) : ∃ g cap, v = .slice (some ⟨g, 0, none⟩) l.length cap ∧ base ≤ g ∧ g < w.heap.size := by
  rcases h.2 with ⟨_, h0⟩ | ⟨g, cap, cur, hv, hb, hg, _⟩
  · exact absurd (List.eq_nil_of_length_eq_zero h0) hl
  · exact ⟨g, cap, hv, hb, (Array.getElem?_eq_some_iff.1 hg).1⟩

theorem digs_ne {n : Nat} (h : n ≠ 0) : digs n ≠ [] := fun e => h (digs_eq_nil.1 e)

theorem rd_of_own {base : Nat} {w : World} {g n cap : Nat} {l : List Nat} (h : w.ownsRow base 59 1 (.slice (some ⟨g, 0, none⟩) n cap) n (ws l)) (ho : ok l) : Rd w w.heap.size (some ⟨g, 0, none⟩) cap l := by
  have hl := own_len h
  subst hl
  obtain ⟨A, c, e, R⟩ := own_rd (base := base) h ho
  injection e with e1 e2 e3
  subst e1 e3
  exact R

theorem le_mod_len {x y N : Nat} (h0 : y ≠ 0) (h : (digs y).length ≤ N) : (digs (x % y)).length ≤ N := Nat.le_trans (len_mono (Nat.le_of_lt (Nat.mod_lt x (by omega)))) h

theorem tz_bound {z N : Nat} (h0 : z ≠ 0) (h : (digs z).length ≤ N) : tz z < 32 * N + 1 := by
  have h1 : z < 4294967296 ^ N := (lt_len_iff z N).1 h
  rw [show (4294967296 : Nat) = 2 ^ 32 by decide, ← Nat.pow_mul] at h1
  have := tz_lt h0 h1
  omega

theorem short_bound {x : Nat} (h : (digs x).length ≤ 2) : x < 18446744073709551616 := by
  have := (lt_len_iff x 2).1 h
  omega

theorem right_form {base : Nat} {w : World} {v : Value} {g cap q : Nat} (h : w.ownsRow base 59 1 v (digs q).length (ws (digs q))) (hv : v = .slice none 0 0 ∨ ∃ k, v = .slice (some ⟨g, 0, none⟩) k cap) (hq : q ≠ 0) :
    v = .slice (some ⟨g, 0, none⟩) (digs q).length cap := by
  obtain ⟨g2, cap2, e, _⟩ := own_some h (digs_ne hq)
  rcases hv with hv | ⟨k, hv⟩
  · rw [hv] at e; injection e with e1 _ _; cases e1
  · subst hv
    injection e with e1 e2 e3
    subst e2
    rfl

/-- The two numbers, each in a block of its own. -/
structure Two (w wr : World) (X Y gx gy cx cy : Nat) : Prop where
  ox : wr.ownsRow w.heap.size 59 1 (.slice (some ⟨gx, 0, none⟩) (digs X).length cx) (digs X).length (ws (digs X))
  oy : wr.ownsRow w.heap.size 59 1 (.slice (some ⟨gy, 0, none⟩) (digs Y).length cy) (digs Y).length (ws (digs Y))
  ne : gx ≠ gy
  bel : Below w.heap.size w wr
  lx : (digs X).length ≤ 500000
  ly : (digs Y).length ≤ 500000

theorem Two.rx {w wr : World} {X Y gx gy cx cy : Nat} (T : Two w wr X Y gx gy cx cy) : Rd wr wr.heap.size (some ⟨gx, 0, none⟩) cx (digs X) := rd_of_own T.ox (ok_digs _)
theorem Two.ry {w wr : World} {X Y gx gy cx cy : Nat} (T : Two w wr X Y gx gy cx cy) : Rd wr wr.heap.size (some ⟨gy, 0, none⟩) cy (digs Y) := rd_of_own T.oy (ok_digs _)
theorem Two.swap {w wr : World} {X Y gx gy cx cy : Nat} (T : Two w wr X Y gx gy cx cy) : Two w wr Y X gy gx cy cx := ⟨T.oy, T.ox, T.ne.symm, T.bel, T.ly, T.lx⟩
theorem Two.turn {w wr w' : World} {X Y X' gx gy cx cy : Nat} (T : Two w wr X Y gx gy cx cy) (h : w'.ownsRow w.heap.size 59 1 (.slice (some ⟨gx, 0, none⟩) (digs X').length cx) (digs X').length (ws (digs X'))) (hg : wr.grownBy w' (some gx)) (hl : X' ≤ X) :
    Two w w' X' Y gx gy cx cy :=
  ⟨h, own_grown T.oy hg T.ne.symm, T.ne, T.bel.grown hg T.bel.size (by have := (h.lt gx rfl).1; simp; omega), Nat.le_trans (len_mono hl) T.lx, T.ly⟩
theorem Two.drew {w wr : World} {X Y gx gy cx cy : Nat} (T : Two w wr X Y gx gy cx cy) (k : Nat) : Two w (wr.drewN k) X Y gx gy cx cy := ⟨T.ox, T.oy, T.ne, ⟨T.bel.os, T.bel.tape, T.bel.output, T.bel.size, T.bel.block⟩, T.lx, T.ly⟩

theorem two_start {w w1 w2 : World} {Z Y gx gy cx cy : Nat} (o1 : Owns w.heap.size w1 (.slice (some ⟨gy, 0, none⟩) (digs Y).length cy) (digs Y)) (o2 : Owns w1.heap.size w2 (.slice (some ⟨gx, 0, none⟩) (digs Z).length cx) (digs Z))
    (b2 : Below w1.heap.size w1 w2) (b : Below w.heap.size w w2) (h1 : gy < w1.heap.size) (h2 : w1.heap.size ≤ gx) (lx : (digs Z).length ≤ 500000) (ly : (digs Y).length ≤ 500000) (hsz : w.heap.size ≤ w1.heap.size) : Two w w2 Z Y gx gy cx cy :=
  ⟨own_base o2 hsz, own_below o1 b2 h1, by omega, b, lx, ly⟩

set_option maxRecDepth 100000 in
set_option maxHeartbeats 4000000 in
theorem gcdWords_any (w : World) (A A' : Option Addr) (c c' m n : Nat) (h : Rd w w.heap.size A c (digs m)) (h' : Rd w w.heap.size A' c' (digs n)) (hs : (digs m).length ≤ 500000) (hs' : (digs n).length ≤ 500000) (h0 : m ≠ 0) (h0' : n ≠ 0) (hT : Tabs w) :
    Calls Tryz.prog 68 #[.slice A (digs m).length c, .slice A' (digs n).length c'] w fun e w' => ∃ v, e = .returned v ∧ Owns w.heap.size w' v (digs (Nat.gcd m n)) ∧ Below w.heap.size w w' := by
  go_enter Tryz.func68, Tryz.ntmps68
  go_upto_if 13 with ((go_at_call 39; refine (cmpWords_any w _ A A' c c' m n h h' (by omega) (by omega)).mono ?_; rintro _ _ ⟨rfl, k0, rfl⟩))
  go_cut [0, 1] (fun a b wx => ∃ A c A' c' x y k, wx = w.drewN k ∧ a = .slice A (digs x).length c ∧ b = .slice A' (digs y).length c' ∧ Rd w w.heap.size A c (digs x) ∧ Rd w w.heap.size A' c' (digs y) ∧ Nat.gcd x y = Nat.gcd m n ∧
    (digs x).length ≤ 500000 ∧ (digs y).length ≤ 500000 ∧ y ≠ 0)
  case first =>
    by_cases hlt : m < n
    · have e := cmp_lt hlt
      have z : cmp m n < 0 := by omega
      generalize cmp m n = cv at *
      clear e
      go_wp2_with fail
      go_meet
      exact ⟨A', c', A, c, n, m, k0, rfl, rfl, rfl, h', h, Nat.gcd_comm _ _, hs', hs, h0⟩
    · have e := cmp_ge (Nat.le_of_not_lt hlt)
      generalize cmp m n = cv at *
      go_wp2_with fail
      go_meet
      exact ⟨A, c, A', c', m, n, k0, rfl, rfl, rfl, h, h', rfl, hs, hs', h0'⟩
  case rest =>
    obtain ⟨A1, c1, A2, c2, x, y, k, rfl, rfl, rfl, R1, R2, hG, l1, l2, hy0⟩ := hcut
    clear h h' hs hs' h0 h0'
    go_wp2_with fail
    refine (clone_any _ A2 c2 (digs y) (R2.drewN k) (by omega)).mono ?_
    rintro _ w1 ⟨v1, rfl, own1, bel1⟩
    obtain ⟨gy, cy, rfl, hgy, hgy2⟩ := own_some own1 (digs_ne hy0)
    have O1 := Lib.hid own1
    have B1 := Lib.hid bel1
    have R1' := (R1.drewN k).below bel1
    have R2' := (R2.drewN k).below bel1
    clear own1 bel1
    go_wp2_with fail
    refine (divWords_any w1 A1 A2 c1 c2 x y (R1'.more B1.out.size) (R2'.more B1.out.size) (by omega) (by omega) hy0).mono ?_
    rintro _ w2 ⟨q, r, rfl, ownq, ownr, bel2⟩
    have O2 := Lib.hid (And.intro ownr bel2)
    clear ownr bel2 ownq R1' R2'
    have BW : Below w.heap.size w w2 := (show Below w.heap.size w w1 from ⟨B1.out.os, B1.out.tape, B1.out.output, B1.out.size, B1.out.block⟩).trans (O2.out.2.mono B1.out.size)
    by_cases hz : x % y = 0
    · obtain ⟨A3, c3, rfl, _⟩ := own_rd O2.out.1 (ok_digs _)
      have hz2 : (digs (x % y)).length = 0 := digs_len_zero.2 hz
      rw [hz2]
      have hgy3 : Nat.gcd m n = y := by rw [← hG]; exact Nat.gcd_eq_right (Nat.dvd_of_mod_eq_zero hz)
      have HB := Lib.hid (And.intro BW hgy3)
      have own2 := own_below O1.out O2.out.2 hgy2
      have HO := Lib.hid own2
      clear BW hgy3 hz hz2 own2
      go_wp2_with fail
      go_ret
      exact ⟨_, rfl, by rw [HB.out.2]; exact HO.out, HB.out.1⟩
    · obtain ⟨gx, cx, rfl, hgx, hgx2⟩ := own_some O2.out.1 (digs_ne hz)
      have T0 := two_start (w := w) O1.out O2.out.1 O2.out.2 BW hgy2 hgx (le_mod_len hy0 l2) l2 B1.out.size
      have hG2 : Nat.gcd (x % y) y = Nat.gcd m n := by rw [← hG, Nat.gcd_comm x y, Nat.gcd_rec y x]
      have hlz : ¬ (digs (x % y)).length = 0 := fun e => hz (digs_len_zero.1 e)
      have HG := Lib.hid (And.intro hG2 (And.intro hz hy0))
      have HT := Lib.hid (And.intro T0 (hT.below BW))
      clear T0 hG2 hz hy0 BW hG
      generalize x % y = z at *
      go_wp2_with fail
      refine (trailingZeros_any w2 _ (some ⟨gx, 0, none⟩) cx (digs z) HT.out.1.rx (by have := HT.out.1.lx; omega) HT.out.2).mono ?_
      rintro _ _ ⟨rfl, rfl⟩
      rw [val_digs]
      go_wp2_with fail
      refine (trailingZeros_any w2 _ (some ⟨gy, 0, none⟩) cy (digs y) HT.out.1.ry (by have := HT.out.1.ly; omega) HT.out.2).mono ?_
      rintro _ _ ⟨rfl, rfl⟩
      rw [val_digs]
      generalize hti : tz z = i
      generalize htj : tz y = j
      have HI := Lib.hid (And.intro hti htj)
      clear hti htj
      have hib : i ≤ 16000000 := by have := tz_bound HG.out.2.1 HT.out.1.lx; have := HI.out.1; omega
      have hjb : j ≤ 16000000 := by have := tz_bound HG.out.2.2 HT.out.1.ly; have := HI.out.2; omega
      go_wp2_with fail
      refine (trailingZeros_any w2 _ (some ⟨gx, 0, none⟩) cx (digs z) HT.out.1.rx (by have := HT.out.1.lx; omega) HT.out.2).mono ?_
      rintro _ _ ⟨rfl, rfl⟩
      rw [val_digs, HI.out.1]
      go_wp2_with fail
      refine (shiftRight_any w2 w.heap.size gx _ cx i (digs z) HT.out.1.ox (ok_digs _) (by have := HT.out.1.lx; omega) (by omega)).mono ?_
      rintro _ w3 ⟨v3, rfl, own3, gr3, hv3⟩
      rw [val_digs] at own3
      obtain ⟨d1, d2⟩ := tz_div HG.out.2.1
      rw [HI.out.1] at d1 d2
      obtain rfl := right_form own3 hv3 (by omega)
      have T3 := HT.out.1.turn own3 gr3 (Nat.div_le_self _ _)
      generalize hX : z / 2 ^ i = X at *
      have HX := Lib.hid (And.intro d1 d2)
      have HT3 := Lib.hid (And.intro T3 (hT.below T3.bel))
      clear own3 gr3 hv3 d1 d2 T3 hX
      go_wp2_with fail
      refine (trailingZeros_any w3 _ (some ⟨gy, 0, none⟩) cy (digs y) HT3.out.1.ry (by have := HT3.out.1.ly; omega) HT3.out.2).mono ?_
      rintro _ _ ⟨rfl, rfl⟩
      rw [val_digs, HI.out.2]
      go_wp2_with fail
      refine (shiftRight_any w3 w.heap.size gy _ cy j (digs y) HT3.out.1.oy (ok_digs _) (by have := HT3.out.1.ly; omega) (by omega)).mono ?_
      rintro _ w4 ⟨v4, rfl, own4, gr4, hv4⟩
      rw [val_digs] at own4
      obtain ⟨d1, d2⟩ := tz_div HG.out.2.2
      rw [HI.out.2] at d1 d2
      obtain rfl := right_form own4 hv4 (by omega)
      have T4 := (HT3.out.1.swap.turn own4 gr4 (Nat.div_le_self _ _)).swap
      generalize hY : y / 2 ^ j = Y at *
      have hG3 : Nat.gcd m n = 2 ^ min i j * Nat.gcd X Y := by
        rw [← HG.out.1, ← gcd_twos HX.out.2 d2, ← HX.out.1, ← d1]
      have HL := Lib.hid (And.intro hG3 (And.intro HX.out.2 (And.intro d2 T4)))
      clear own4 gr4 hv4 d1 d2 T4 hY hG3 HX HT HT3 HI HG
      have hmin : min (i : Int) (j : Int) = ((min i j : Nat) : Int) := by omega
      have hub : min i j ≤ 16000000 := by omega
      go_wp2_with fail
      generalize min i j = u at *
      clear hmin hib hjb hlz
      clear l1 l2 hgy hgy2 hgx hgx2 O1 B1 O2 R1 R2
      go_loopg [5, 7] (X + Y) (fun g a b wr => ∃ X Y gx gy cx cy, a = .slice (some ⟨gy, 0, none⟩) (digs Y).length cy ∧ b = .slice (some ⟨gx, 0, none⟩) (digs X).length cx ∧ g = X + Y ∧ X % 2 = 1 ∧ Y % 2 = 1 ∧
        Nat.gcd m n = 2 ^ u * Nat.gcd X Y ∧ Two w wr X Y gx gy cx cy)
      case atStart => exact ⟨X, Y, gx, gy, cx, cy, rfl, rfl, rfl, HL.out.2.1, HL.out.2.2.1, HL.out.1, HL.out.2.2.2⟩
      case round =>
        clear HL
        obtain ⟨X, Y, gx, gy, cx, cy, rfl, rfl, rfl, oX, oY, hG, T⟩ := hrel
        have HT := Lib.hid T
        have HG := Lib.hid hG
        have HR := Lib.hid (And.intro oX oY)
        have lX := T.lx
        have lY := T.ly
        clear T hG
        by_cases hC : (digs X).length ≤ 2 ∧ (digs Y).length ≤ 2
        · obtain ⟨hc1, hc2⟩ := hC
          have bX : X < 18446744073709551616 := short_bound hc1
          have bY : Y < 18446744073709551616 := short_bound hc2
          have bG : Nat.gcd X Y < 18446744073709551616 := Nat.lt_of_le_of_lt (Nat.gcd_le_left Y (by have := HR.out.1; omega)) bX
          have lG : (digs (Nat.gcd X Y)).length ≤ 2 := Nat.le_trans (len_mono (Nat.gcd_le_left Y (by have := HR.out.1; omega))) hc1
          have HX := Lib.hid (hT.below HT.out.bel)
          go_wp2_with fail
          refine (short_any wr _ (some ⟨gx, 0, none⟩) cx (digs X) HT.out.rx hc1).mono ?_
          rintro _ _ ⟨rfl, rfl⟩
          rw [val_digs]
          go_wp2_with fail
          refine (short_any wr _ (some ⟨gy, 0, none⟩) cy (digs Y) HT.out.ry hc2).mono ?_
          rintro _ _ ⟨rfl, rfl⟩
          rw [val_digs]
          go_wp2_with fail
          refine (gcd64_any wr X Y bX bY HR.out.1 HR.out.2 HX.out).mono ?_
          rintro _ _ ⟨rfl, rfl⟩
          generalize hGG : Nat.gcd X Y = G at *
          have HGG := Lib.hid hGG
          clear hGG
          go_wp2_with fail
          refine (words64_any 0 G wr (by decide) bG).mono ?_
          rintro _ w5 ⟨v5, rfl, own5, bel5⟩
          rw [Nat.zero_mul, Nat.zero_add] at own5
          obtain ⟨A5, c5, rfl, R5⟩ := own_rd own5 (ok_digs _)
          have HB5 := Lib.hid (HT.out.bel.trans (bel5.mono HT.out.bel.size))
          clear own5 bel5
          go_wp2_with fail
          refine (scale_any w5 A5 c5 G u R5 (by omega)).mono ?_
          rintro _ w6 ⟨v6, rfl, own6, bel6⟩
          have hb := HB5.out.trans (bel6.mono HB5.out.size)
          have hv : G * 2 ^ u = Nat.gcd m n := by rw [HG.out, Nat.mul_comm]
          rw [hv] at own6
          have HE := Lib.hid (And.intro (own_base own6 HB5.out.size) hb)
          clear own6 bel6 hb hv R5
          go_wp2
          go_ret
          exact ⟨_, rfl, HE.out.1, HE.out.2⟩
        · have hor : 2 < (digs X).length ∨ ((digs X).length ≤ 2 ∧ 2 < (digs Y).length) := by omega
          rcases hor with ha | ⟨ha, hb⟩
          all_goals
            go_wp2_with fail
            refine (cmpWords_any wr _ (some ⟨gx, 0, none⟩) (some ⟨gy, 0, none⟩) cx cy X Y HT.out.rx HT.out.ry (by omega) (by omega)).mono ?_
            rintro _ _ ⟨rfl, k1, rfl⟩
            rcases Nat.lt_trichotomy X Y with hlt | heq | hlt
            · have hcv : cmp X Y = -1 := cmp_lt hlt
              rw [hcv]
              have HTS := Lib.hid (HT.out.drew k1).swap
              clear hcv HT
              go_wp2_with fail
              refine (take_any (wr.drewN k1) w.heap.size gy _ cy (some ⟨gx, 0, none⟩) cx (digs Y) (digs X) HTS.out.ox (ok_digs _) HTS.out.ry (fun ad e _ => by injection e with e; subst e; exact HTS.out.ne.symm) (by rw [val_digs, val_digs]; omega) (len_mono (by omega)) (by omega)).mono ?_
              rintro _ w5 ⟨rfl, own5, gr5⟩
              rw [val_digs, val_digs] at own5 ⊢
              have T5 := HTS.out.turn own5 gr5 (Nat.sub_le _ _)
              have hd0 : Y - X ≠ 0 := by omega
              have htb := tz_bound hd0 T5.lx
              have HT5 := Lib.hid (And.intro T5 (hT.below T5.bel))
              obtain ⟨g1, g2, g3, g4⟩ := gcd_down (x := Y) (y := X) HR.out.2 HR.out.1 hlt
              obtain ⟨D, hD⟩ : ∃ D, Y - X = D := ⟨_, rfl⟩
              rw [hD] at HT5 g1 g2 g3 hd0 htb ⊢
              have HD := Lib.hid (And.intro hD hd0)
              have HGG := Lib.hid (And.intro g1 (And.intro g2 g3))
              clear own5 gr5 T5 hD hd0 g1 g2 g3 g4
              go_wp2_with fail
              refine (trailingZeros_any w5 _ (some ⟨gy, 0, none⟩) cy (digs D) HT5.out.1.rx (by have := HT5.out.1.lx; omega) HT5.out.2).mono ?_
              rintro _ _ ⟨rfl, rfl⟩
              rw [val_digs]
              generalize htd : tz D = d at *
              have HTD := Lib.hid htd
              clear htd
              go_wp2_with fail
              refine (shiftRight_any w5 w.heap.size gy _ cy d (digs D) HT5.out.1.ox (ok_digs _) (by have := HT5.out.1.lx; omega) (by omega)).mono ?_
              rintro _ w6 ⟨v6, rfl, own6, gr6, hv6⟩
              rw [val_digs] at own6
              obtain rfl := right_form own6 hv6 (by have := HGG.out.1; omega)
              have T6 := HT5.out.1.turn own6 gr6 (Nat.div_le_self _ _)
              have H6 := Lib.hid T6
              clear own6 gr6 hv6 T6
              generalize D / 2 ^ d = E at *
              go_wp2_with fail
              go_roundg (E + X)
              case measure => have := HGG.out.2.2; omega
              case rel => exact ⟨E, X, gy, gx, cy, cx, rfl, rfl, rfl, HGG.out.1, HR.out.1, by rw [HGG.out.2.1, Nat.gcd_comm Y X]; exact HG.out, H6.out⟩
            · subst heq
              have hcv : cmp X X = 0 := by unfold cmp; simp
              rw [hcv]
              have HTS := Lib.hid (HT.out.drew k1)
              clear hcv HT
              go_wp2_with fail
              refine (scale_any (wr.drewN k1) (some ⟨gx, 0, none⟩) cx X u HTS.out.rx (by omega)).mono ?_
              rintro _ w5 ⟨v5, rfl, own5, bel5⟩
              have hb := HTS.out.bel.trans (bel5.mono HTS.out.bel.size)
              have hv : X * 2 ^ u = Nat.gcd m n := by rw [HG.out, Nat.gcd_self, Nat.mul_comm]
              rw [hv] at own5
              have HE := Lib.hid (And.intro (own_base own5 HTS.out.bel.size) hb)
              clear own5 bel5 hb hv
              go_wp2
              go_ret
              exact ⟨_, rfl, HE.out.1, HE.out.2⟩
            · have hcv : cmp X Y = 1 := by unfold cmp; rw [if_neg (by omega), if_pos hlt]
              rw [hcv]
              have HTS := Lib.hid (HT.out.drew k1)
              clear hcv HT
              go_wp2_with fail
              refine (take_any (wr.drewN k1) w.heap.size gx _ cx (some ⟨gy, 0, none⟩) cy (digs X) (digs Y) HTS.out.ox (ok_digs _) HTS.out.ry (fun ad e _ => by injection e with e; subst e; exact HTS.out.ne.symm) (by rw [val_digs, val_digs]; omega) (len_mono (by omega)) (by omega)).mono ?_
              rintro _ w5 ⟨rfl, own5, gr5⟩
              rw [val_digs, val_digs] at own5 ⊢
              have T5 := HTS.out.turn own5 gr5 (Nat.sub_le _ _)
              have hd0 : X - Y ≠ 0 := by omega
              have htb := tz_bound hd0 T5.lx
              have HT5 := Lib.hid (And.intro T5 (hT.below T5.bel))
              obtain ⟨g1, g2, g3, g4⟩ := gcd_down (x := X) (y := Y) HR.out.1 HR.out.2 hlt
              obtain ⟨D, hD⟩ : ∃ D, X - Y = D := ⟨_, rfl⟩
              rw [hD] at HT5 g1 g2 g3 hd0 htb ⊢
              have HD := Lib.hid (And.intro hD hd0)
              have HGG := Lib.hid (And.intro g1 (And.intro g2 g3))
              clear own5 gr5 T5 hD hd0 g1 g2 g3 g4
              go_wp2_with fail
              refine (trailingZeros_any w5 _ (some ⟨gx, 0, none⟩) cx (digs D) HT5.out.1.rx (by have := HT5.out.1.lx; omega) HT5.out.2).mono ?_
              rintro _ _ ⟨rfl, rfl⟩
              rw [val_digs]
              generalize htd : tz D = d at *
              have HTD := Lib.hid htd
              clear htd
              go_wp2_with fail
              refine (shiftRight_any w5 w.heap.size gx _ cx d (digs D) HT5.out.1.ox (ok_digs _) (by have := HT5.out.1.lx; omega) (by omega)).mono ?_
              rintro _ w6 ⟨v6, rfl, own6, gr6, hv6⟩
              rw [val_digs] at own6
              obtain rfl := right_form own6 hv6 (by have := HGG.out.1; omega)
              have T6 := HT5.out.1.turn own6 gr6 (Nat.div_le_self _ _)
              have H6 := Lib.hid T6
              clear own6 gr6 hv6 T6
              generalize D / 2 ^ d = E at *
              go_wp2_with fail
              go_roundg (E + Y)
              case measure => have := HGG.out.2.2; omega
              case rel => exact ⟨E, Y, gx, gy, cx, cy, rfl, rfl, rfl, HGG.out.1, HR.out.2, by rw [HGG.out.2.1]; exact HG.out, H6.out⟩

end Go.Proofs.YtbeidpeoichakaaGreatDoor.ft
