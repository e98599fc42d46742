/- fraction: trailingZeros, gcd64; the tables of math/bits. -/
import Derived.Test.YtbeidpeoichakaaGreatDoorFh
import Derived.Test.YtbeidpeoichakaaGreatDoorShelf
namespace Go.Proofs.YtbeidpeoichakaaGreatDoor.fj
open Go.RowKit Go.Proofs.YtbeidpeoichakaaGreatDoor.fm Go.Proofs.YtbeidpeoichakaaGreatDoor.mem Go.Proofs.YtbeidpeoichakaaGreatDoor.fa Go.Proofs.YtbeidpeoichakaaGreatDoor.fb

/-- The tables of math/bits hold what their initialisers lay. -/
structure Tabs (w : World) : Prop where
  t32 : TabAt 1 Lib.deBruijn32tab w
  t64 : TabAt 2 Lib.deBruijn64tab w

theorem tab_below {w w' : World} {g : Nat} {tab : List Nat} {B : Nat} (h : TabAt g tab w) (hb : Below B w w') (hB : B = w.heap.size) : TabAt g tab w' := fun j hj => by
  have h1 := h j hj
  have := World.block_lt_of_cell? w _ h1
  exact (hb.cell (p := ⟨g, j, none⟩) (by rw [hB]; exact this)).trans h1

theorem Tabs.below {w w' : World} (h : Tabs w) (hb : Below w.heap.size w w') : Tabs w' := ⟨tab_below h.t32 hb rfl, tab_below h.t64 hb rfl⟩

theorem tz32 (x : Nat) (hx : x < 4294967296) (h0 : x ≠ 0) (w : World) (hT : Tabs w) :
    Calls Tryz.prog 96 #[.int .u32 (x : Int)] w fun e w' => ∃ c m : Nat, e = .returned (.int .i64 (c : Int)) ∧ (x = 2 ^ c * (2 * m + 1) ∧ c < 32) ∧ w = w' := by
  obtain ⟨m, hm, hc⟩ := Lib.ctzFrom_spec 32 x (by omega) (by omega)
  have e : Lib.ctz 32 x = Lib.ctzFrom 32 x := by unfold Lib.ctz; rw [if_neg h0]
  exact (Any7.bits_TrailingZeros32 Tryz.lays7n28 x hx w fun _ => hT.t32).mono fun _ _ ⟨he, hw⟩ => ⟨_, m, by rw [he, e], ⟨hm, hc⟩, hw.symm⟩

theorem tz64 (x : Nat) (hx : x < 18446744073709551616) (h0 : x ≠ 0) (w : World) (hT : Tabs w) :
    Calls Tryz.prog 97 #[.int .u64 (x : Int)] w fun e w' => e = .returned (.int .i64 ((tz x : Nat) : Int)) ∧ w = w' := by
  obtain ⟨m, hm, hc⟩ := Lib.ctzFrom_spec 64 x (by omega) (by omega)
  have e : Lib.ctz 64 x = Lib.ctzFrom 64 x := by unfold Lib.ctz; rw [if_neg h0]
  have e2 := tz_eq hm
  exact (Any7.bits_TrailingZeros64 Tryz.lays7n29 x hx w fun _ => hT.t64).mono fun _ _ ⟨he, hw⟩ => ⟨by rw [he, e, e2], hw.symm⟩

set_option maxRecDepth 100000 in
set_option maxHeartbeats 1000000 in
theorem trailingZeros_any (w : World) (B : Nat) (A : Option Addr) (c : Nat) (x : List Nat) (h : Rd w B A c x) (hs : x.length ≤ 1000000) (hT : Tabs w) :
    Calls Tryz.prog 85 #[.slice A x.length c] w fun e w' => e = .returned (.int .i64 ((tz (val x) : Nat) : Int)) ∧ w = w' := by
  go_enter Tryz.func85, Tryz.ntmps85
  go_wp2
  go_loop [6] (fun i => ∃ k : Nat, k ≤ x.length ∧ i = .int .i64 k ∧ val x = 4294967296 ^ k * val (x.drop k)) (fun i => x.length - (intOf i).toNat)
  case atStart => exact ⟨0, Nat.zero_le _, rfl, by simp⟩
  case round =>
    obtain ⟨k, hk, rfl, hv⟩ := hrel
    have Hv := Lib.hid hv
    clear hv
    by_cases hkx : k < x.length
    · obtain ⟨b, off, rfl, hb, hc⟩ := h.cells (by omega)
      have c1 := hc k hkx
      have Hc := Lib.hid hc
      clear hc
      have hx := ok_getD h.ok k
      by_cases hz : x.getD k 0 = 0
      · have hv2 : val x = 4294967296 ^ (k + 1) * val (x.drop (k + 1)) := by
          rw [Hv.out, val_drop x k hkx, hz, Nat.zero_add, Nat.pow_succ, Nat.mul_assoc]
        have Hv2 := Lib.hid hv2
        rw [hz] at c1
        clear hz hx hv2
        go_wp2
        go_round
        case rel => exact ⟨k + 1, by omega, by go_num, Hv2.out⟩
        case measure => simp [intOf]; omega
      · have z1 : (((x.getD k 0 : Nat) : Int) != 0) = true := by rw [bne_iff_ne]; omega
        have hv2 : val x = 4294967296 ^ k * (x.getD k 0 + 4294967296 * val (x.drop (k + 1))) := by rw [Hv.out, val_drop x k hkx]
        have Hz := Lib.hid (And.intro hv2 hz)
        clear hv2 hz
        generalize x.getD k 0 = xk at *
        go_wp2_with fail
        refine (tz32 xk hx Hz.out.2 w hT).mono ?_
        rintro e w' ⟨cc, m, rfl, ⟨hm, hcc⟩, rfl⟩
        have e1 := tz_word (k := k) (d := val (x.drop (k + 1))) hm hcc
        rw [← Hz.out.1] at e1
        have E1 := Lib.hid e1
        clear e1 hm
        go_wp2
        go_ret
        exact ⟨ret_int (by rw [E1.out]; omega), rfl⟩
    · obtain rfl : k = x.length := by omega
      have hv := Hv.out
      have hz : tz (val x) = 0 := by
        rw [hv, List.drop_length, show val [] = 0 from rfl, Nat.mul_zero, tz_zero]
      have Hz := Lib.hid hz
      clear hv hz
      go_wp2
      go_ret
      exact ⟨ret_int (by rw [Hz.out]; rfl), rfl⟩

end Go.Proofs.YtbeidpeoichakaaGreatDoor.fj
