/- fraction: divWord. -/
import Derived.Test.YtfnfnagdecpobaaDoorFe
namespace Go.Proofs.YtfnfnagdecpobaaDoor.ff
open Go.RowKit Go.Proofs.YtfnfnagdecpobaaDoor.fm Go.Proofs.YtfnfnagdecpobaaDoor.mem Go.Proofs.YtfnfnagdecpobaaDoor.fa Go.Proofs.YtfnfnagdecpobaaDoor.fb

theorem div_word (rest a b : Nat) (ha : a < 4294967296) (hb : 1 ≤ b) (hb2 : b < 4294967296) (hr : rest < b) :
    ∃ T Q R : Nat, bits .or .u64 ((rest : Int) * 4294967296) (a : Int) = (T : Int) ∧ (T : Int) / (b : Int) = (Q : Int) ∧ (T : Int) % (b : Int) = (R : Int) ∧ Q < 4294967296 ∧ R < b ∧ rest * 4294967296 + a = Q * b + R ∧ T < 18446744073709551616 := by
  refine ⟨a + 4294967296 * rest, (a + 4294967296 * rest) / b, (a + 4294967296 * rest) % b, or_join' a rest ha (by omega), by rw [Int.natCast_ediv], by rw [Int.natCast_emod], ?_, Nat.mod_lt _ hb, ?_, by omega⟩
  · rw [Nat.div_lt_iff_lt_mul hb]
    have : 4294967296 * (rest + 1) ≤ 4294967296 * b := Nat.mul_le_mul_left _ hr
    omega
  · have := Nat.div_add_mod (a + 4294967296 * rest) b
    rw [Nat.mul_comm b] at this
    omega

set_option maxRecDepth 100000 in
set_option maxHeartbeats 1000000 in
theorem divWord_any (w : World) (A : Option Addr) (c b : Nat) (x : List Nat) (h : Rd w w.heap.size A c x) (hb : 1 ≤ b) (hb2 : b < 4294967296) (hs : x.length ≤ 1000000) :
    Calls Tryd.prog 62 #[.slice A x.length c, .int .u32 (b : Int)] w fun e w' => ∃ v, e = .returned (.tuple #[v, .int .u32 ((val x % b : Nat) : Int)]) ∧ Owns w.heap.size w' v (digs (val x / b)) ∧ Below w.heap.size w w' := by
  obtain ⟨i0, hi, hz0, hz1, hz2⟩ := info_parts info_u32
  obtain ⟨n, hn⟩ : ∃ n, x.length = n := ⟨_, rfl⟩
  have hx := h.cells
  have ho := h.ok
  have Hx := Lib.hid (And.intro hn hx)
  rw [hn] at hs ⊢
  clear hx h hn
  go_enter Tryd.func62, Tryd.ntmps62
  go_wp2_with (refine wpList_make_full _ rfl _ _ 26 rfl w.heap.size 66 i0 _ 1 Tryd.underlying26 hi hz0 hz1 .i64 .i64 _ _ n rfl rfl rfl rfl (by rw [hz2]; omega) (by unfold maxLen; omega) (Nat.le_refl _) ?_; intro w1 hown hgrow)
  rw [zeros_made] at hown
  have hbel : Below w.heap.size w w1 := (Below.refl _ _).grown hgrow (Nat.le_refl _) (by simp)
  clear hgrow
  go_loopw [6, 7] (fun rv i wr => ∃ (k rest : Nat) (z : Int) (Q : List Nat), k ≤ n ∧ z = (k : Int) - 1 ∧ i = .int .i64 z ∧ rv = .int .u64 rest ∧ rest < b ∧ ok Q ∧ val (x.drop k) = val (Q.drop k) * b + rest ∧
        wr.ownsRow w.heap.size 66 1 (.slice (some ⟨w.heap.size, 0, none⟩) n n) n (ws Q) ∧ Below w.heap.size w wr)
      (fun _ i _ => (intOf i + 1).toNat)
  case atStart => exact ⟨n, 0, _, _, Nat.le_refl _, rfl, rfl, rfl, hb, ok_replicate n, by rw [List.drop_of_length_le (by rw [Hx.out.1]; exact Nat.le_refl _), List.drop_of_length_le (by simp)]; simp [val], hown, hbel⟩
  case round =>
    clear hown hbel
    obtain ⟨k, rest, z, Q, hk, hz, rfl, rfl, hrest, hok, hE, hown, hbel⟩ := hrel
    have hl := own_len hown
    rcases Nat.eq_zero_or_pos k with h0 | h0
    · subst h0
      obtain rfl : z = -1 := by omega
      simp only [List.drop_zero] at hE
      have hq : val Q = val x / b := by
        rw [hE, Nat.mul_comm, Nat.mul_add_div hb, Nat.div_eq_of_lt hrest, Nat.add_zero]
      have hr : rest = val x % b := by
        rw [hE, Nat.mul_comm, Nat.mul_add_mod, Nat.mod_eq_of_lt hrest]
      have H := Lib.hid (And.intro hr hbel)
      clear hr hbel hz hE hl hk
      have e1 : rest < 4294967296 := by omega
      go_wp2_with fail
      refine (trim_own _ w.heap.size _ _ _ Q _ hown hok (by omega) hq).mono ?_
      rintro e w2 ⟨rfl, ho3, rfl⟩
      have O3 := Lib.hid ho3
      clear ho3 hown hq
      go_wp2
      go_ret2
      exact ⟨_, by rw [← H.out.1]; rfl, O3.out, H.out.2⟩
    · obtain ⟨j, rfl⟩ : ∃ j, k = j + 1 := ⟨k - 1, by omega⟩
      obtain rfl : z = (j : Int) := by omega
      obtain ⟨b', off, rfl, hb', hc⟩ := Hx.out.2 (by rw [Hx.out.1]; omega)
      have c1 := (hbel.cell (p := ⟨b', off + j, none⟩) hb').trans (hc j (by rw [Hx.out.1]; omega))
      have c2 := own_cell hown j (by omega)
      have c3 := hown.frozenAt j
      obtain ⟨T, q, r, t1, t2, t3, hq, hr, heq, hT⟩ := div_word rest (x.getD j 0) b (ok_getD ho j) hb hb2 hrest
      have hst := div_step x Q j b rest q r (by rw [Hx.out.1]; omega) (by omega) heq hE
      have own2 := own_set hown j q (q : Int) rfl
      have bel2 := hbel.setCell (p := ⟨w.heap.size, j, none⟩) (Nat.le_refl _) (.int .u32 (q : Int))
      have O := Lib.hid (And.intro own2 (And.intro bel2 (And.intro hst (ok_set hok j hq))))
      have z0 : ((b : Int) == 0) = false := beq_eq_false_iff_ne.2 (by omega)
      have i1 : (j : Int) < (n : Int) := by omega
      have bx := ok_getD ho j
      clear own2 bel2 hst hown hbel hE hok hl hz heq hc
      generalize x.getD j 0 = xj at *
      go_wp2
      go_roundw
      case rel => exact ⟨j, r, (j : Int) - 1, _, by omega, rfl, rfl, congrArg (Value.int .u64) t3, hr, O.out.2.2.2, O.out.2.2.1, O.out.1, O.out.2.1⟩
      case measure => simp [intOf]

end Go.Proofs.YtfnfnagdecpobaaDoor.ff
