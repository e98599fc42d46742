/- The decimal digits of a number, nine at a time. -/
import Derived.Test.YtbeidpeoichakaaGreatDoorFm
import Derived.Lib.ItoaNum
import Derived.Lib.ItoaLen
import Derived.Test.YtbeidpeoichakaaGreatDoorFu
import Derived.Test.YtbeidpeoichakaaGreatDoorShelf
import Derived.Shelf.Strconv.Itoa1
import Derived.Shelf.Strconv.Itoa2
import Derived.Lib.ItoaMem
import Derived.Test.YtbeidpeoichakaaGreatDoorGa
import Derived.Test.YtbeidpeoichakaaGreatDoorFd
import Derived.Test.YtbeidpeoichakaaGreatDoorGc
namespace Go.Proofs.YtbeidpeoichakaaGreatDoor.ha
open Go.Lib

/-- the last k digits of p -/
def pad : Nat → Nat → List UInt8
  | 0, _ => []
  | k + 1, p => pad k (p / 10) ++ [UInt8.ofNat (48 + p % 10)]

theorem pad_zero : ∀ k, pad k 0 = List.replicate k 48
  | 0 => rfl
  | k + 1 => by
    rw [pad, Nat.zero_div, pad_zero k, List.replicate_succ']
    rfl

theorem dec_pad : ∀ (k q p : Nat), q ≠ 0 → p < 10 ^ k → decDigits (q * 10 ^ k + p) = decDigits q ++ pad k p
  | 0, q, p, _, hp => by
    have : p = 0 := by simpa using hp
    subst this
    simp [pad]
  | k + 1, q, p, hq, hp => by
    rw [Nat.pow_succ] at hp ⊢
    have hk : 1 ≤ 10 ^ k := Nat.one_le_pow _ _ (by decide)
    have h1 : 10 ≤ q * (10 ^ k * 10) + p := by
      have : 1 * (1 * 10) ≤ q * (10 ^ k * 10) := Nat.mul_le_mul (by omega) (Nat.mul_le_mul hk (Nat.le_refl _))
      omega
    rw [decDigits, dif_neg (by omega), pad, ← List.append_assoc]
    have e1 : (q * (10 ^ k * 10) + p) / 10 = q * 10 ^ k + p / 10 := by
      rw [show q * (10 ^ k * 10) = q * 10 ^ k * 10 by rw [Nat.mul_assoc]]
      generalize q * 10 ^ k = a
      omega
    have e2 : (q * (10 ^ k * 10) + p) % 10 = p % 10 := by
      rw [show q * (10 ^ k * 10) = q * 10 ^ k * 10 by rw [Nat.mul_assoc]]
      generalize q * 10 ^ k = a
      omega
    rw [e1, e2, dec_pad k q (p / 10) hq (by omega)]

theorem pad_dec : ∀ (k p : Nat), p < 10 ^ (k + 1) → pad (k + 1) p = List.replicate (k + 1 - (decDigits p).length) 48 ++ decDigits p
  | 0, p, hp => by
    have hp' : p < 10 := by simpa using hp
    rw [decDigits, dif_pos hp', pad, pad]
    simp [Nat.mod_eq_of_lt hp']
  | k + 1, p, hp => by
    rw [Nat.pow_succ] at hp
    by_cases h : p < 10
    · rw [decDigits, dif_pos h, pad, show p / 10 = 0 by omega, pad_zero]
      simp [Nat.mod_eq_of_lt h]
    · have e : decDigits p = decDigits (p / 10) ++ [UInt8.ofNat (48 + p % 10)] := by
        conv => lhs; rw [decDigits, dif_neg h]
      rw [pad, pad_dec k (p / 10) (by omega), e, List.append_assoc, List.length_append, List.length_singleton]
      rw [show k + 1 + 1 - ((decDigits (p / 10)).length + 1) = k + 1 - (decDigits (p / 10)).length by omega]

theorem dec_nine (q p : Nat) (hq : q ≠ 0) (hp : p < 1000000000) : decDigits (q * 1000000000 + p) = decDigits q ++ (List.replicate (9 - (decDigits p).length) 48 ++ decDigits p) := by
  have h := dec_pad 9 q p hq (by simpa using hp)
  rw [pad_dec 8 p (by simpa using hp)] at h
  simpa using h

theorem nDigits_le : ∀ (k u : Nat), 1 ≤ k → u < 10 ^ k → nDigits u ≤ k
  | 0, _, h, _ => absurd h (by decide)
  | k + 1, u, _, h => by
    by_cases hs : u < 10
    · rw [nDigits_small hs]; omega
    · rw [nDigits_big hs]
      rw [Nat.pow_succ] at h
      have hk : 1 ≤ k := by
        rcases Nat.eq_zero_or_pos k with e | e
        · subst e; simp at h; omega
        · exact e
      have := nDigits_le k (u / 10) hk (by omega)
      omega

theorem dec_len {p : Nat} (hp : p < 1000000000) : (decDigits p).length ≤ 9 := by
  rw [decDigits_length]
  exact nDigits_le 9 p (by decide) (by simpa using hp)

theorem dec_long {n k : Nat} (hk : 1 ≤ k) (h : n < 4294967296 ^ k) : (decDigits n).length ≤ 10 * k := by
  rw [decDigits_length]
  refine nDigits_le _ _ (by omega) (Nat.lt_of_lt_of_le h ?_)
  rw [Nat.pow_mul]
  exact Nat.pow_le_pow_left (by decide) k

theorem dec_ne (n : Nat) : decDigits n ≠ [] := by
  rw [decDigits]
  split <;> simp

end Go.Proofs.YtbeidpeoichakaaGreatDoor.ha

/- strconv.FormatUint at base 10. -/
set_option linter.unusedSimpArgs false
namespace Go.Proofs.YtbeidpeoichakaaGreatDoor.hb
open Go.RowKit Go.Sort Go.Lib Go.Proofs.YtbeidpeoichakaaGreatDoor.mem

/-- The table of powers of ten holds what its initialiser lays. -/
def Pow (w : World) : Prop := Lib.TabIs Tryz.prog w "internal/strconv.uint64pow10" .u64 Lib.pow10Tab

theorem Pow.below {w w' : World} (h : Pow w) (hb : Below w.heap.size w w') : Pow w' := by
  unfold Pow TabIs World.var? at *
  cases hg : Tryz.prog.globalNamed "internal/strconv.uint64pow10" with
  | none => simp [hg] at h
  | some g =>
    simp only [hg, Option.bind_some] at h ⊢
    have hlt : g < w.heap.size := by
      rcases Nat.lt_or_ge g w.heap.size with h' | h'
      · exact h'
      · rw [Array.getElem?_eq_none h'] at h; simp at h
    rw [hb.block g hlt]
    exact h

theorem holds_zero0 (w : World) (T : TypeId) (nd : Nat) (hs : nd ≤ 24) : Holds (fun (b : UInt8) => Value.int .u8 (b.toNat : Int)) (w.alloc (.cells zeros24 T)) w.heap.size 0 (Array.replicate nd (0 : UInt8)) := fun j hj => by
  have hj' : j < nd := by simpa using hj
  refine ⟨?_, World.frozen?_alloc_new _ _ _ _⟩
  rw [World.cell?_alloc_new, zeros24_at _ (by omega), getElem!_pos _ j hj]
  simp

theorem below_end (w : World) (o : Obj) (dk : Array UInt8) (k : Nat) : Below w.heap.size w ((putRow (fun (b : UInt8) => Value.int .u8 (b.toNat : Int)) (w.alloc o) w.heap.size 0 dk).drewN k) := by
  refine ⟨rfl, rfl, rfl, by simp [putRow, mapBlock], fun b hb => ?_⟩
  have h1 : (putRow (fun (b : UInt8) => Value.int .u8 (b.toNat : Int)) (w.alloc o) w.heap.size 0 dk).heap[b]? = (w.alloc o).heap[b]? := by
    unfold putRow mapBlock
    rw [Array.getElem?_modify, if_neg (by omega)]
  exact h1.trans (Below.heap_alloc w o b hb)

set_option maxRecDepth 100000 in
set_option maxHeartbeats 6400000 in
theorem formatUint_int (w : World) (u : Nat) (hu64 : u < 18446744073709551616) (hP : Pow w) :
    Calls Tryz.prog 84 #[.int .u64 (u : Int), .int .i64 10] w fun e w' => e = .returned (.string ⟨(Lib.decDigits u).toArray⟩) ∧ Below w.heap.size w w' := by
  by_cases hs : u < 100
  · go_enter Tryz.func84, Tryz.ntmps84
    go_wp2_with (go_at_call 92; refine (Any.internal_strconv_small Tryz.lays283 u hs _).mono ?_; rintro e w' ⟨rfl, rfl⟩)
    go_ret
    exact ⟨rfl, Below.refl _ _⟩
  · have hu1 : 1 ≤ u := by omega
    have hnd20 : Lib.nDigits u ≤ 20 := by have := Lib.numDigits_eq u hu1 hu64; split at this <;> omega
    have hal : Tryz.prog.arrayLen 101 = 24 := by kernel_rfl
    have hsl1 : ∀ W, (Instr.sliceAt 101 (.pointer (some ⟨w.heap.size, 0, none⟩)) none (some (.int .i64 (Lib.nDigits u : Int))) none).run Tryz.prog W = .ok (.slice (some ⟨w.heap.size, 0, none⟩) (Lib.nDigits u) 24) W := fun W => by
      rw [run_sliceAt_array_h W 101 ⟨w.heap.size, 0, none⟩ (by kernel_rfl) .i64 (Lib.nDigits u : Int) (by omega) (by rw [hal]; omega)]
      go_simp
    have hH0 := holds_zero0 w 101 (Lib.nDigits u) (by omega)
    have hfmt := Any.internal_strconv_formatBase10 Tryz.lays285 w.heap.size 0 24 u (Array.replicate (Lib.nDigits u) 0) (w.alloc (.cells Lib.zeros24 101)) hH0 (by rw [Array.size_replicate]; exact Lib.lt_pow_nDigits u) hu64 (by rw [Array.size_replicate]; omega)
    rw [Array.size_replicate] at hfmt
    have HH0 := Lib.hid hH0
    clear hH0 hal
    go_enter Tryz.func84, Tryz.ntmps84
    go_wp2_with (first
      | (go_at_call 93; refine (Any.internal_strconv_numDigits Tryz.laysM284 u hu1 hu64 _ (Lib.tabIs_alloc hP _)).mono ?_; rintro e w' ⟨rfl, rfl⟩))
    go_at_call 94
    refine hfmt.mono ?_
    rintro e w' ⟨rfl, k, v', dk, rfl, hF⟩
    have hcv : (convert 22 9 (.slice (some ⟨w.heap.size, 0, none⟩) (Lib.nDigits u) 24)).run Tryz.prog ((putRow (fun (b : UInt8) => Value.int .u8 (b.toNat : Int)) (w.alloc (.cells Lib.zeros24 101)) w.heap.size 0 dk).drewN k) = .ok (.string ⟨(Lib.decDigits u).toArray⟩) ((putRow (fun (b : UInt8) => Value.int .u8 (b.toNat : Int)) (w.alloc (.cells Lib.zeros24 101)) w.heap.size 0 dk).drewN k) := by
      have h := run_convert_bytes_back (P := Tryz.prog) ((putRow (fun (b : UInt8) => Value.int .u8 (b.toNat : Int)) (w.alloc (.cells Lib.zeros24 101)) w.heap.size 0 dk).drewN k) 22 9 5 ⟨w.heap.size, 0, none⟩ 24 (Lib.decDigits u) (by kernel_rfl) (by kernel_rfl) (by kernel_rfl) (fun j hj => by
        rw [Lib.row_is_numeral hF j hj, Lib.add_plain, World.cell?_drewN]
        exact cell?_putRow (fun (b : UInt8) => Value.int .u8 (b.toNat : Int)) _ w.heap.size 0 _ dk HH0.out (by rw [hF.size, Array.size_replicate]) j (by rw [hF.size]; rw [Lib.decDigits_length] at hj; exact hj))
      rw [Lib.decDigits_length] at h
      exact h
    go_wp2
    go_ret
    exact ⟨rfl, below_end w _ dk k⟩

theorem formatUint_any (w : World) (u : Nat) (hu64 : u < 18446744073709551616) (hP : Pow w) :
    Calls Tryz.prog 66 #[.int .u64 (u : Int), .int .i64 10] w fun e w' => e = .returned (.string ⟨(Lib.decDigits u).toArray⟩) ∧ Below w.heap.size w w' := by
  go_enter Tryz.func66, Tryz.ntmps66
  go_wp2_with (go_at_call 84; refine (formatUint_int w u hu64 hP).mono ?_; rintro e w' ⟨rfl, hb⟩)
  go_ret
  exact ⟨rfl, hb⟩

end Go.Proofs.YtbeidpeoichakaaGreatDoor.hb

/- fraction: TextBig. -/
set_option linter.unusedSimpArgs false
namespace Go.Proofs.YtbeidpeoichakaaGreatDoor.hc
open Go.RowKit Go.Proofs.YtbeidpeoichakaaGreatDoor.fm Go.Proofs.YtbeidpeoichakaaGreatDoor.mem Go.Proofs.YtbeidpeoichakaaGreatDoor.fa Go.Proofs.YtbeidpeoichakaaGreatDoor.fb Go.Proofs.YtbeidpeoichakaaGreatDoor.ff Go.Proofs.YtbeidpeoichakaaGreatDoor.fu Go.Proofs.YtbeidpeoichakaaGreatDoor.fv Go.Proofs.YtbeidpeoichakaaGreatDoor.fw Go.Proofs.YtbeidpeoichakaaGreatDoor.fx Go.Proofs.YtbeidpeoichakaaGreatDoor.fy Go.Proofs.YtbeidpeoichakaaGreatDoor.ha Go.Proofs.YtbeidpeoichakaaGreatDoor.hb

/-- bytes -/
def ba (l : List UInt8) : ByteArray := ⟨l.toArray⟩
theorem ba_append (a b : List UInt8) : ba a ++ ba b = ba (a ++ b) := by
  apply ByteArray.ext
  simp [ba]
theorem ba_size (a : List UInt8) : (ba a).size = a.length := by simp [ba, ByteArray.size]
theorem zeros9 (n : Nat) : (⟨#[48, 48, 48, 48, 48, 48, 48, 48, 48]⟩ : ByteArray).extract n 9 = ba (List.replicate (9 - n) 48) := by
  apply ByteArray.ext
  rw [ByteArray.data_extract]
  show (Array.extract #[48, 48, 48, 48, 48, 48, 48, 48, 48] n 9) = (List.replicate (9 - n) 48).toArray
  apply Array.ext'
  rw [Array.toList_extract]
  show ([48, 48, 48, 48, 48, 48, 48, 48, 48] : List UInt8).extract n 9 = List.replicate (9 - n) 48
  by_cases h : n < 9
  · have : ∀ k : Fin 9, ([48, 48, 48, 48, 48, 48, 48, 48, 48] : List UInt8).extract k.val 9 = List.replicate (9 - k.val) 48 := by decide
    exact this ⟨n, h⟩
  · rw [show 9 - n = 0 by omega, List.extract_eq_take_drop, List.take_eq_nil_iff.2 (Or.inl (by omega))]
    rfl

/-- What is written (t) and what is left to be written (m) are the digits of n. -/
def Left (n m : Nat) (t : List UInt8) : Prop := if m = 0 then t = Lib.decDigits n else Lib.decDigits m ++ t = Lib.decDigits n

theorem left_start {n : Nat} (h : n ≠ 0) : Left n n [] := by unfold Left; rw [if_neg h]; simp
theorem left_end {n : Nat} {t : List UInt8} (h : Left n 0 t) : t = Lib.decDigits n := by unfold Left at h; rwa [if_pos rfl] at h
theorem left_last {n m : Nat} {t : List UInt8} (h : Left n m t) (hm : m ≠ 0) (hq : m / 1000000000 = 0) : Left n (m / 1000000000) (Lib.decDigits (m % 1000000000) ++ t) := by
  unfold Left at *
  rw [if_neg hm] at h
  rw [hq, if_pos rfl, Nat.mod_eq_of_lt (by omega)]
  exact h
theorem left_more {n m : Nat} {t : List UInt8} (h : Left n m t) (hm : m ≠ 0) (hq : m / 1000000000 ≠ 0) :
    Left n (m / 1000000000) (List.replicate (9 - (Lib.decDigits (m % 1000000000)).length) 48 ++ Lib.decDigits (m % 1000000000) ++ t) := by
  unfold Left at *
  rw [if_neg hm] at h
  rw [if_neg hq, ← List.append_assoc, ← dec_nine _ _ hq (Nat.mod_lt _ (by decide))]
  rw [show m / 1000000000 * 1000000000 + m % 1000000000 = m by omega]
  exact h

theorem left_last' {n m p q : Nat} {t : List UInt8} (h : Left n m t) (hm : m ≠ 0) (hp : m % 1000000000 = p) (hq : m / 1000000000 = q) (h0 : q = 0) : Left n q (Lib.decDigits p ++ t) := by
  subst hp hq
  exact left_last h hm h0
theorem left_more' {n m p q : Nat} {t : List UInt8} (h : Left n m t) (hm : m ≠ 0) (hp : m % 1000000000 = p) (hq : m / 1000000000 = q) (h0 : q ≠ 0) :
    Left n q (List.replicate (9 - (Lib.decDigits p).length) 48 ++ Lib.decDigits p ++ t) := by
  subst hp hq
  exact left_more h hm h0

theorem left_len {n m : Nat} {t : List UInt8} (h : Left n m t) : t.length ≤ (Lib.decDigits n).length := by
  unfold Left at h
  split at h
  · rw [h]; exact Nat.le_refl _
  · rw [← h, List.length_append]; omega

set_option maxRecDepth 100000 in
set_option maxHeartbeats 4000000 in
theorem textBig_any (w : World) (a : Value) (z : Int) (ha : IsBig w a z) (hl : (digs z.natAbs).length ≤ 256) (hP : Pow w) :
    Calls Tryz.prog 33 #[a] w fun e w' => e = .returned (.string (ba (Lib.itoa z))) ∧ Below w.heap.size w w' := by
  obtain ⟨A, c, rfl, R⟩ := ha
  go_enter Tryz.func33, Tryz.ntmps33
  have hb2 : Below w.heap.size w (w.alloc (.cells #[.bool (decide (z < 0)), .slice A (digs z.natAbs).length c] 28)) := (Below.refl _ _).alloc (Nat.le_refl _) _
  obtain ⟨W, hW⟩ : ∃ W, W = (w.alloc (.cells #[.bool (decide (z < 0)), .slice A (digs z.natAbs).length c] 28)) := ⟨_, rfl⟩
  have hsz : W.heap.size = w.heap.size + 1 := by rw [hW]; simp
  have k0 : W.cell? ⟨w.heap.size, 0, none⟩ = some (.bool (decide (z < 0))) := by rw [hW]; simp [go_sem]
  have k1 : W.cell? ⟨w.heap.size, 1, none⟩ = some (.slice A (digs z.natAbs).length c) := by rw [hW]; simp [go_sem]
  rw [← hW] at hb2
  have HB := Lib.hid (And.intro hb2 (And.intro hsz (And.intro k0 k1)))
  clear hb2 hsz k0 k1
  go_wp2_with fail
  rw [← hW]
  clear hW
  have hbA := HB.out.1.alloc HB.out.1.size (.cells #[.bool (decide (z < 0)), .slice A (digs z.natAbs).length c] 28)
  refine (valid1 (W.alloc _) (w.heap.size + 1) 1 z A c 28 (0, 0) (by rw [← HB.out.2.1]; exact heap_alloc_new W _) ((R.below hbA).more hbA.size) (by omega)).mono ?_
  rintro _ W1 ⟨rfl, hb1⟩
  have hc : Below W.heap.size W W1 := ((Below.refl _ _).alloc (Nat.le_refl _) _).trans (hb1.mono (by simp))
  have hb3 := HB.out.1.trans (hc.mono HB.out.1.size)
  have a0 := (hc.cell (p := ⟨w.heap.size, 0, none⟩) (by show w.heap.size < _; have := HB.out.2.1; omega)).trans HB.out.2.2.1
  have a1 := (hc.cell (p := ⟨w.heap.size, 1, none⟩) (by show w.heap.size < _; have := HB.out.2.1; omega)).trans HB.out.2.2.2
  have hlt : w.heap.size < W1.heap.size := by have := hc.size; have := HB.out.2.1; omega
  have H3 := Lib.hid (And.intro hb3 hlt)
  clear hb1 hc hb3 HB hbA hlt
  by_cases hz : z = 0
  · subst hz
    rw [show (0 : Int).natAbs = 0 from rfl, digs_zero] at *
    go_wp2_with fail
    go_ret
    exact ⟨by rw [show Lib.itoa 0 = [48] by unfold Lib.itoa; rw [if_neg (by decide), Lib.decDigits, dif_pos (by decide)]; rfl]; rfl, H3.out.1⟩
  · have hn : (digs z.natAbs).length ≠ 0 := fun e => hz (by have := digs_len_zero.1 e; omega)
    have z1 : (((digs z.natAbs).length : Int) == 0) = false := beq_eq_false_iff_ne.2 (by omega)
    have R1 := (R.below H3.out.1).more H3.out.1.size
    have HZ := Lib.hid hz
    clear R hn hz
    obtain ⟨n, hN⟩ : ∃ n, z.natAbs = n := ⟨_, rfl⟩
    rw [hN] at R1 hl z1 a1
    simp only [hN]
    have hlong : (Lib.decDigits n).length ≤ 2560 := dec_long (k := 256) (by decide) ((lt_len_iff _ _).1 hl)
    have HN := Lib.hid hN
    have HLong := Lib.hid hlong
    clear hN hlong
    go_wp2_with fail
    go_loopg [3, 4] n (fun g s3 s4 wr => ∃ m t A c, m = g ∧ s3 = .string (ba t) ∧ s4 = .slice A (digs m).length c ∧ Rd wr wr.heap.size A c (digs m) ∧ Hid (Left n m t) ∧ (digs m).length ≤ 256 ∧
      Below w.heap.size w wr ∧ w.heap.size < wr.heap.size ∧ wr.cell? ⟨w.heap.size, 0, none⟩ = some (.bool (decide (z < 0))))
    case atStart => exact ⟨n, [], A, c, rfl, rfl, rfl, R1, Lib.hid (left_start (by have := HN.out; have := HZ.out; omega)), hl, H3.out.1, H3.out.2, a0⟩
    case round =>
      clear a0 a1 z1 hl R1 H3
      obtain ⟨m, t, A, c, rfl, rfl, rfl, R1, HL, hl, hb, hlt, a0⟩ := hrel
      by_cases hm : m = 0
      · subst hm
        rw [show (digs 0).length = 0 from rfl]
        have ht := left_end HL.out
        obtain ⟨T, hT⟩ : ∃ T, T = ba t := ⟨_, rfl⟩
        have hTs : T.size ≤ 2560 := by rw [hT, ba_size, ht]; exact HLong.out
        rw [← hT]
        have HT := Lib.hid (And.intro hT ht)
        clear hT ht R1 hl
        rcases Int.lt_or_le z 0 with hz | hz
        · rw [decide_eq_true hz] at a0
          have HS := Lib.hid hz
          clear hz
          go_wp2_with fail
          go_ret
          refine ⟨?_, hb⟩
          rw [HT.out.1, HT.out.2, show (⟨#[45]⟩ : ByteArray) = ba [45] from rfl, ba_append]
          unfold Lib.itoa
          rw [if_pos HS.out, HN.out]
          rfl
        · rw [decide_eq_false (by omega)] at a0
          have HS := Lib.hid hz
          clear hz
          go_wp2_with fail
          go_ret
          refine ⟨?_, hb⟩
          rw [HT.out.1, HT.out.2]
          unfold Lib.itoa
          have := HS.out
          rw [if_neg (by omega), show z.toNat = n by have := HN.out; omega]
          rfl
      · have hn : (digs m).length ≠ 0 := fun e => hm (digs_len_zero.1 e)
        have z1 : (0 : Int) < ((digs m).length : Int) := by omega
        have HM := Lib.hid hm
        have HB := Lib.hid (And.intro hb (And.intro hlt a0))
        clear hm hn hb hlt a0
        go_wp2_with fail
        refine (divWord_any wr A c 1000000000 (digs m) R1 (by decide) (by decide) (by omega)).mono ?_
        rintro _ w2 ⟨v2, rfl, hO2, hb2⟩
        rw [val_digs] at hO2 ⊢
        obtain ⟨A2, c2, rfl, R2⟩ := own_rd hO2 (ok_digs _)
        obtain ⟨p, hp⟩ : ∃ p, m % 1000000000 = p := ⟨_, rfl⟩
        obtain ⟨q, hq⟩ : ∃ q, m / 1000000000 = q := ⟨_, rfl⟩
        have hp9 : p < 1000000000 := by rw [← hp]; exact Nat.mod_lt _ (by decide)
        have hqm : q < m := by rw [← hq]; have := HM.out; omega
        have hql : (digs q).length ≤ 256 := Nat.le_trans (len_mono (Nat.le_of_lt hqm)) hl
        rw [hp]
        rw [hq] at R2 hO2 ⊢
        have HP := Lib.hid (And.intro hp (And.intro hq (And.intro hp9 hqm)))
        have i1 : IntKind.u64.wrap (p : Int) = (p : Int) := IntWalk.u64_in _ (by omega)
        have hb3 : Below w.heap.size w w2 := HB.out.1.trans (hb2.mono (Nat.le_of_lt HB.out.2.1))
        have a2 : w2.cell? ⟨w.heap.size, 0, none⟩ = some (.bool (decide (z < 0))) := (hb2.cell HB.out.2.1).trans HB.out.2.2
        have hl2 : w.heap.size < w2.heap.size := Nat.lt_of_lt_of_le HB.out.2.1 hb2.size
        have HC := Lib.hid (And.intro hb3 (And.intro hl2 a2))
        clear hp hq hp9 hqm hO2 hb2 R1 hl z1 hb3 a2 hl2 HB
        go_wp2_with fail
        refine (formatUint_any w2 p (by have := HP.out.2.2.1; omega) (hP.below HC.out.1)).mono ?_
        rintro _ w3 ⟨rfl, hb4⟩
        have hs9 : (Lib.decDigits p).length ≤ 9 := dec_len HP.out.2.2.1
        obtain ⟨s, hs⟩ : ∃ s, s = ba (Lib.decDigits p) := ⟨_, rfl⟩
        have hss : s.size ≤ 9 := by rw [hs, ba_size]; exact hs9
        obtain ⟨T, hT⟩ : ∃ T, T = ba t := ⟨_, rfl⟩
        have hTs : T.size ≤ 2560 := by rw [hT, ba_size]; exact Nat.le_trans (left_len HL.out) HLong.out
        rw [show (⟨(Lib.decDigits p).toArray⟩ : ByteArray) = s from hs.symm, ← hT]
        have HS := Lib.hid (And.intro hs hT)
        have R3 := (R2.below hb4).more hb4.size
        have HD := Lib.hid (And.intro (HC.out.1.trans (hb4.mono (Nat.le_of_lt HC.out.2.1))) (And.intro (Nat.lt_of_lt_of_le HC.out.2.1 hb4.size) ((hb4.cell HC.out.2.1).trans HC.out.2.2)))
        clear hs hT hs9 hb4 R2 HC
        by_cases hq : q = 0
        · have hq1 : (digs q).length = 0 := digs_len_zero.2 hq
          rw [hq1]
          have HQ := Lib.hid hq
          have HQ1 := Lib.hid hq1
          clear hq hq1
          go_wp2_with fail
          go_roundg q
          case rel =>
            refine ⟨q, _, A2, c2, rfl, ?_, by rw [HQ1.out], R3, Lib.hid (left_last' HL.out HM.out HP.out.1 HP.out.2.1 HQ.out), hql, HD.out.1, HD.out.2.1, HD.out.2.2⟩
            rw [HS.out.1, HS.out.2, ba_append]
          case measure => exact HP.out.2.2.2
        · have hq0 : (digs q).length ≠ 0 := fun e => hq (digs_len_zero.1 e)
          have z2 : (0 : Int) < ((digs q).length : Int) := by omega
          have HQ := Lib.hid hq
          clear hq hq0
          go_wp2_with fail
          go_roundg q
          case rel =>
            refine ⟨q, _, A2, c2, rfl, ?_, rfl, R3, Lib.hid (left_more' HL.out HM.out HP.out.1 HP.out.2.1 HQ.out), hql, HD.out.1, HD.out.2.1, HD.out.2.2⟩
            rw [HS.out.1, HS.out.2]
            rw [ba_size, zeros9, ba_append, ba_append]
          case measure => exact HP.out.2.2.2

end Go.Proofs.YtbeidpeoichakaaGreatDoor.hc

/- fraction: Text. -/
set_option linter.unusedSimpArgs false
namespace Go.Proofs.YtbeidpeoichakaaGreatDoor.hd
open Go.RowKit Go.Proofs.YtbeidpeoichakaaGreatDoor.fm Go.Proofs.YtbeidpeoichakaaGreatDoor.mem Go.Proofs.YtbeidpeoichakaaGreatDoor.fa Go.Proofs.YtbeidpeoichakaaGreatDoor.fb Go.Proofs.YtbeidpeoichakaaGreatDoor.fj Go.Proofs.YtbeidpeoichakaaGreatDoor.fu Go.Proofs.YtbeidpeoichakaaGreatDoor.fv Go.Proofs.YtbeidpeoichakaaGreatDoor.fw Go.Proofs.YtbeidpeoichakaaGreatDoor.fx Go.Proofs.YtbeidpeoichakaaGreatDoor.gb Go.Proofs.YtbeidpeoichakaaGreatDoor.gc Go.Proofs.YtbeidpeoichakaaGreatDoor.gd Go.Proofs.YtbeidpeoichakaaGreatDoor.ha Go.Proofs.YtbeidpeoichakaaGreatDoor.hb Go.Proofs.YtbeidpeoichakaaGreatDoor.hc

/-- The text of a fraction. -/
def textOf (z : Int) (d : Nat) : List UInt8 := if d = 1 then Lib.itoa z else Lib.itoa z ++ 47 :: Lib.decDigits d

theorem itoa_len {z : Int} (h : (digs z.natAbs).length ≤ 256) : (Lib.itoa z).length ≤ 2561 := by
  have hl : (Lib.decDigits z.natAbs).length ≤ 2560 := dec_long (k := 256) (by decide) ((lt_len_iff _ _).1 h)
  unfold Lib.itoa
  split
  · simp; omega
  · rw [show z.toNat = z.natAbs by omega]; omega

theorem itoa_nat (d : Nat) : Lib.itoa (d : Int) = Lib.decDigits d := Lib.itoa_nonneg d

theorem isBig_den {w : World} {A : Option Addr} {c d : Nat} (R : Rd w w.heap.size A c (digs d)) : IsBig w (.agg #[.bool false, .slice A (digs d).length c]) (d : Int) :=
  ⟨A, c, by rw [decide_eq_false (by omega)]; rfl, R⟩

set_option maxRecDepth 100000 in
set_option maxHeartbeats 4000000 in
theorem text_any (w : World) (a : Value) (z : Int) (d : Nat) (ha : IsFrac w a z d) (F : Fine z d) (hT : Tabs w) (hP : Pow w) :
    Calls Tryz.prog 24 #[a] w fun e w' => e = .returned (.string (ba (textOf z d))) ∧ Below w.heap.size w w' := by
  obtain ⟨A, c, B, k, rfl, R, S⟩ := ha
  go_enter Tryz.func24, Tryz.ntmps24
  have hb2 : Below w.heap.size w (w.alloc (.cells #[.bool (decide (z < 0)), .slice A (digs z.natAbs).length c, .bool false, .slice B (digs d).length k] 30)) := (Below.refl _ _).alloc (Nat.le_refl _) _
  obtain ⟨W, hW⟩ : ∃ W, W = (w.alloc (.cells #[.bool (decide (z < 0)), .slice A (digs z.natAbs).length c, .bool false, .slice B (digs d).length k] 30)) := ⟨_, rfl⟩
  have hsz : W.heap.size = w.heap.size + 1 := by rw [hW]; simp
  have k0 : W.cell? ⟨w.heap.size, 0, none⟩ = some (.bool (decide (z < 0))) := by rw [hW]; simp [go_sem]
  have k1 : W.cell? ⟨w.heap.size, 1, none⟩ = some (.slice A (digs z.natAbs).length c) := by rw [hW]; simp [go_sem]
  have k2 : W.cell? ⟨w.heap.size, 2, none⟩ = some (.bool false) := by rw [hW]; simp [go_sem]
  have k3 : W.cell? ⟨w.heap.size, 3, none⟩ = some (.slice B (digs d).length k) := by rw [hW]; simp [go_sem]
  rw [← hW] at hb2
  have HB := Lib.hid (And.intro hb2 (And.intro hsz (And.intro k0 (And.intro k1 (And.intro k2 k3)))))
  clear hb2 hsz k0 k1 k2 k3
  go_wp2_with fail
  rw [← hW]
  clear hW
  have hbA := HB.out.1.alloc HB.out.1.size (.cells #[.bool (decide (z < 0)), .slice A (digs z.natAbs).length c, .bool false, .slice B (digs d).length k] 30)
  refine (validAll_any (W.alloc _) (w.heap.size + 1) 1 [(z, d)] (by have := HB.out.2.1; simp; omega) (by simp) (fun j hj => ?_) (hT.below hbA)).mono ?_
  · obtain rfl : j = 0 := by simp at hj; omega
    have hg : (W.alloc (.cells #[.bool (decide (z < 0)), .slice A (digs z.natAbs).length c, .bool false, .slice B (digs d).length k] 30)).heap[w.heap.size + 1]? = some (.cells #[.bool (decide (z < 0)), .slice A (digs z.natAbs).length c, .bool false, .slice B (digs d).length k] 30 (0, 0)) := by
      rw [← HB.out.2.1]; exact heap_alloc_new W _
    exact ⟨⟨A, c, B, k, by rw [cell_of_row _ _ (0 * 4) _ _ _ hg]; rfl, by rw [cell_of_row _ _ (0 * 4 + 1) _ _ _ hg]; rfl, by rw [cell_of_row _ _ (0 * 4 + 2) _ _ _ hg]; rfl, by rw [cell_of_row _ _ (0 * 4 + 3) _ _ _ hg]; rfl, (R.below hbA).more hbA.size, (S.below hbA).more hbA.size⟩, F⟩
  rintro _ W1 ⟨rfl, hb1⟩
  have hc : Below W.heap.size W W1 := ((Below.refl _ _).alloc (Nat.le_refl _) _).trans (hb1.mono (by simp))
  have hb3 := HB.out.1.trans (hc.mono HB.out.1.size)
  have hlt : w.heap.size < W.heap.size := by have := HB.out.2.1; omega
  have a0 := (hc.cell (p := ⟨w.heap.size, 0, none⟩) hlt).trans HB.out.2.2.1
  have a1 := (hc.cell (p := ⟨w.heap.size, 1, none⟩) hlt).trans HB.out.2.2.2.1
  have a2 := (hc.cell (p := ⟨w.heap.size, 2, none⟩) hlt).trans HB.out.2.2.2.2.1
  have a3 := (hc.cell (p := ⟨w.heap.size, 3, none⟩) hlt).trans HB.out.2.2.2.2.2
  have hlt1 : w.heap.size < W1.heap.size := Nat.lt_of_lt_of_le hlt hc.size
  have H3 := Lib.hid (And.intro hb3 (And.intro hlt1 (And.intro a0 (And.intro a1 (And.intro a2 a3)))))
  have HF := Lib.hid F
  clear hb1 hc hb3 HB hbA hlt hlt1 F
  go_wp2_with fail
  refine (isOne_any W1 _ B k (digs d) ((S.below H3.out.1).more H3.out.1.size) (by have := HF.out.hd; omega)).mono ?_
  rintro _ _ ⟨rfl, rfl⟩
  by_cases hd1 : d = 1
  · have hde : digs d = [1] := by rw [hd1]; rfl
    rw [decide_eq_true hde]
    have HD := Lib.hid hd1
    clear hde hd1
    go_wp2_with fail
    refine (textBig_any W1 _ z ⟨A, c, rfl, (R.below H3.out.1).more H3.out.1.size⟩ HF.out.hz (hP.below H3.out.1)).mono ?_
    rintro _ W2 ⟨rfl, hb2⟩
    go_wp2_with fail
    go_ret
    refine ⟨?_, H3.out.1.trans (hb2.mono (Nat.le_of_lt H3.out.2.1))⟩
    unfold textOf
    rw [if_pos HD.out]
    rfl
  · have hde : ¬ digs d = [1] := fun e => hd1 (by rw [← val_digs d, e]; rfl)
    rw [decide_eq_false hde]
    have HD := Lib.hid hd1
    clear hde hd1
    have H3d := Lib.hid (show W1.drew.cell? ⟨w.heap.size, 0, none⟩ = some (.bool (decide (z < 0))) ∧ W1.drew.cell? ⟨w.heap.size, 1, none⟩ = some (.slice A (digs z.natAbs).length c) ∧ W1.drew.cell? ⟨w.heap.size, 2, none⟩ = some (.bool false) ∧ W1.drew.cell? ⟨w.heap.size, 3, none⟩ = some (.slice B (digs d).length k) from H3.out.2.2)
    have HX := Lib.hid (And.intro ((R.below H3.out.1).more H3.out.1.size) (And.intro ((S.below H3.out.1).more H3.out.1.size) (hP.below H3.out.1)))
    go_wp2_with fail
    go_region_held3 (fun w' => w'.cell? ⟨w.heap.size, 0, none⟩ = some (.bool (decide (z < 0))) ∧ w'.cell? ⟨w.heap.size, 1, none⟩ = some (.slice A (digs z.natAbs).length c) ∧ w'.cell? ⟨w.heap.size, 2, none⟩ = some (.bool false) ∧ w'.cell? ⟨w.heap.size, 3, none⟩ = some (.slice B (digs d).length k))
      (first | with_reducible exact H3.out.2.2 | with_reducible exact H3d.out | with_reducible exact H4.out.2 | with_reducible exact H5.out.2)
      (first
        | (have h4 := H4; go_at_call 33; refine (textBig_any W2 _ d (isBig_den H4.out.1.2.2.2.1) (by rw [Int.natAbs_natCast]; exact HF.out.hd) H4.out.1.2.2.2.2).mono ?_; rintro _ W3 ⟨rfl, hb3⟩
           obtain ⟨s3, hs3⟩ : ∃ s, s = ba (Lib.itoa d) := ⟨_, rfl⟩
           have hz3 : s3.size ≤ 2561 := by rw [hs3, ba_size]; exact itoa_len (by rw [Int.natAbs_natCast]; exact HF.out.hd)
           have hz3n : ¬ 9223372036854775807 < s2.size + 1 + s3.size := by omega
           rw [← hs3]
           have HS3 := Lib.hid hs3
           have hlt := H4.out.1.2.1
           have H5 := Lib.hid (And.intro (H4.out.1.1.trans (hb3.mono (Nat.le_of_lt hlt))) (And.intro ((hb3.cell (p := ⟨w.heap.size, 0, none⟩) hlt).trans H4.out.2.1) (And.intro ((hb3.cell (p := ⟨w.heap.size, 1, none⟩) hlt).trans H4.out.2.2.1) (And.intro ((hb3.cell (p := ⟨w.heap.size, 2, none⟩) hlt).trans H4.out.2.2.2.1) ((hb3.cell (p := ⟨w.heap.size, 3, none⟩) hlt).trans H4.out.2.2.2.2)))))
           clear hb3 hs3 h4 hlt)
        | (go_at_call 33; refine (textBig_any W1.drew _ z ⟨A, c, rfl, Rd.drewN HX.out.1 1⟩ HF.out.hz HX.out.2.2).mono ?_; rintro _ W2 ⟨rfl, hb2⟩
           obtain ⟨s2, hs2⟩ : ∃ s, s = ba (Lib.itoa z) := ⟨_, rfl⟩
           have hz2 : s2.size ≤ 2561 := by rw [hs2, ba_size]; exact itoa_len HF.out.hz
           have hz2n : ¬ 9223372036854775807 < s2.size + 1 := by omega
           rw [← hs2]
           have HS2 := Lib.hid hs2
           have hlt : w.heap.size < W1.drew.heap.size := H3.out.2.1
           have hbz : Below w.heap.size w W1.drew := below_drewN H3.out.1 1
           have H4 := Lib.hid (And.intro (And.intro (hbz.trans (hb2.mono (Nat.le_of_lt hlt))) (And.intro (Nat.lt_of_lt_of_le hlt hb2.size) (And.intro ((Rd.drewN HX.out.1 1).below hb2) (And.intro (((Rd.drewN HX.out.2.1 1).below hb2).more hb2.size) (Pow.below (show Pow W1.drew from HX.out.2.2) hb2))))) (And.intro ((hb2.cell (p := ⟨w.heap.size, 0, none⟩) hlt).trans H3d.out.1) (And.intro ((hb2.cell (p := ⟨w.heap.size, 1, none⟩) hlt).trans H3d.out.2.1) (And.intro ((hb2.cell (p := ⟨w.heap.size, 2, none⟩) hlt).trans H3d.out.2.2.1) ((hb2.cell (p := ⟨w.heap.size, 3, none⟩) hlt).trans H3d.out.2.2.2)))))
           clear hb2 hs2 hlt hbz))
    all_goals
      go_wp2_with fail
      go_ret
      refine ⟨?_, H5.out.1⟩
      rw [HS2.out, HS3.out, itoa_nat, show (⟨#[47]⟩ : ByteArray) = ba [47] from rfl, ba_append, ba_append]
      unfold textOf
      rw [if_neg HD.out, List.append_assoc]
      rfl

end Go.Proofs.YtbeidpeoichakaaGreatDoor.hd
