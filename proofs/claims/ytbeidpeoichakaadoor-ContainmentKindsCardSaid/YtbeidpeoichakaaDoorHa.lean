/- The decimal digits of a number, nine at a time. -/
import Derived.Test.YtbeidpeoichakaaDoorFm
import Derived.Lib.ItoaNum
import Derived.Lib.ItoaLen
import Derived.Test.YtbeidpeoichakaaDoorFu
import Derived.Test.YtbeidpeoichakaaDoorShelf
import Derived.Shelf.Strconv.Itoa1
import Derived.Shelf.Strconv.Itoa2
import Derived.Lib.ItoaMem
import Derived.Test.YtbeidpeoichakaaDoorGa
import Derived.Test.YtbeidpeoichakaaDoorFd
import Derived.Test.YtbeidpeoichakaaDoorGc
namespace Go.Proofs.YtbeidpeoichakaaDoor.ha
open Go.Lib

/-- the last k digits of p -/
def pad : Nat → Nat → List UInt8
  | 0, _ => []
  | k + 1, p => pad k (p / 10) ++ [UInt8.ofNat (48 + p % 10)]

theorem pad_zero : ∀ k, pad k 0 = List.replicate k 48
  | 0 => rfl
  | k + 1 => by
    rw [pad, Nat.zero_div, pad_zero k, List.replicate_succ']
    rfl

theorem dec_pad : ∀ (k q p : Nat), q ≠ 0 → p < 10 ^ k → decDigits (q * 10 ^ k + p) = decDigits q ++ pad k p
  | 0, q, p, _, hp => by
    have : p = 0 := by simpa using hp
    subst this
    simp [pad]
  | k + 1, q, p, hq, hp => by
    rw [Nat.pow_succ] at hp ⊢
    have hk : 1 ≤ 10 ^ k := Nat.one_le_pow _ _ (by decide)
    have h1 : 10 ≤ q * (10 ^ k * 10) + p := by
      have : 1 * (1 * 10) ≤ q * (10 ^ k * 10) := Nat.mul_le_mul (by omega) (Nat.mul_le_mul hk (Nat.le_refl _))
      omega
    rw [decDigits, dif_neg (by omega), pad, ← List.append_assoc]
    have e1 : (q * (10 ^ k * 10) + p) / 10 = q * 10 ^ k + p / 10 := by
      rw [show q * (10 ^ k * 10) = q * 10 ^ k * 10 by rw [Nat.mul_assoc]]
      generalize q * 10 ^ k = a
      omega
    have e2 : (q * (10 ^ k * 10) + p) % 10 = p % 10 := by
      rw [show q * (10 ^ k * 10) = q * 10 ^ k * 10 by rw [Nat.mul_assoc]]
      generalize q * 10 ^ k = a
      omega
    rw [e1, e2, dec_pad k q (p / 10) hq (by omega)]

theorem pad_dec : ∀ (k p : Nat), p < 10 ^ (k + 1) → pad (k + 1) p = List.replicate (k + 1 - (decDigits p).length) 48 ++ decDigits p
  | 0, p, hp => by
    have hp' : p < 10 := by simpa using hp
    rw [decDigits, dif_pos hp', pad, pad]
    simp [Nat.mod_eq_of_lt hp']
  | k + 1, p, hp => by
    rw [Nat.pow_succ] at hp
    by_cases h : p < 10
    · rw [decDigits, dif_pos h, pad, show p / 10 = 0 by omega, pad_zero]
      simp [Nat.mod_eq_of_lt h]
    · have e : decDigits p = decDigits (p / 10) ++ [UInt8.ofNat (48 + p % 10)] := by
        conv => lhs; rw [decDigits, dif_neg h]
      rw [pad, pad_dec k (p / 10) (by omega), e, List.append_assoc, List.length_append, List.length_singleton]
      rw [show k + 1 + 1 - ((decDigits (p / 10)).length + 1) = k + 1 - (decDigits (p / 10)).length by omega]

theorem dec_nine (q p : Nat) (hq : q ≠ 0) (hp : p < 1000000000) : decDigits (q * 1000000000 + p) = decDigits q ++ (List.replicate (9 - (decDigits p).length) 48 ++ decDigits p) := by
  have h := dec_pad 9 q p hq (by simpa using hp)
  rw [pad_dec 8 p (by simpa using hp)] at h
  simpa using h

theorem nDigits_le : ∀ (k u : Nat), 1 ≤ k → u < 10 ^ k → nDigits u ≤ k
  | 0, _, h, _ => absurd h (by decide)
  | k + 1, u, _, h => by
    by_cases hs : u < 10
    · rw [nDigits_small hs]; omega
    · rw [nDigits_big hs]
      rw [Nat.pow_succ] at h
      have hk : 1 ≤ k := by
        rcases Nat.eq_zero_or_pos k with e | e
        · subst e; simp at h; omega
        · exact e
      have := nDigits_le k (u / 10) hk (by omega)
      omega

theorem dec_len {p : Nat} (hp : p < 1000000000) : (decDigits p).length ≤ 9 := by
  rw [decDigits_length]
  exact nDigits_le 9 p (by decide) (by simpa using hp)

theorem dec_long {n k : Nat} (hk : 1 ≤ k) (h : n < 4294967296 ^ k) : (decDigits n).length ≤ 10 * k := by
  rw [decDigits_length]
  refine nDigits_le _ _ (by omega) (Nat.lt_of_lt_of_le h ?_)
  rw [Nat.pow_mul]
  exact Nat.pow_le_pow_left (by decide) k

theorem dec_ne (n : Nat) : decDigits n ≠ [] := by
  rw [decDigits]
  split <;> simp

end Go.Proofs.YtbeidpeoichakaaDoor.ha

/- strconv.FormatUint at base 10. -/
set_option linter.unusedSimpArgs false
namespace Go.Proofs.YtbeidpeoichakaaDoor.hb
open Go.RowKit Go.Sort Go.Lib Go.Proofs.YtbeidpeoichakaaDoor.mem

/-- The table of powers of ten holds what its initialiser lays. -/
def Pow (w : World) : Prop := Lib.TabIs Tryd.prog w "internal/strconv.uint64pow10" .u64 Lib.pow10Tab

theorem Pow.below {w w' : World} (h : Pow w) (hb : Below w.heap.size w w') : Pow w' := by
  unfold Pow TabIs World.var? at *
  cases hg : Tryd.prog.globalNamed "internal/strconv.uint64pow10" with
  | none => simp [hg] at h
  | some g =>
    simp only [hg, Option.bind_some] at h ⊢
    have hlt : g < w.heap.size := by
      rcases Nat.lt_or_ge g w.heap.size with h' | h'
      · exact h'
      · rw [Array.getElem?_eq_none h'] at h; simp at h
    rw [hb.block g hlt]
    exact h

theorem holds_zero0 (w : World) (T : TypeId) (nd : Nat) (hs : nd ≤ 24) : Holds (fun (b : UInt8) => Value.int .u8 (b.toNat : Int)) (w.alloc (.cells zeros24 T)) w.heap.size 0 (Array.replicate nd (0 : UInt8)) := fun j hj => by
  have hj' : j < nd := by simpa using hj
  refine ⟨?_, World.frozen?_alloc_new _ _ _ _⟩
  rw [World.cell?_alloc_new, zeros24_at _ (by omega), getElem!_pos _ j hj]
  simp

theorem below_end (w : World) (o : Obj) (dk : Array UInt8) (k : Nat) : Below w.heap.size w ((putRow (fun (b : UInt8) => Value.int .u8 (b.toNat : Int)) (w.alloc o) w.heap.size 0 dk).drewN k) := by
  refine ⟨rfl, rfl, rfl, by simp [putRow, mapBlock], fun b hb => ?_⟩
  have h1 : (putRow (fun (b : UInt8) => Value.int .u8 (b.toNat : Int)) (w.alloc o) w.heap.size 0 dk).heap[b]? = (w.alloc o).heap[b]? := by
    unfold putRow mapBlock
    rw [Array.getElem?_modify, if_neg (by omega)]
  exact h1.trans (Below.heap_alloc w o b hb)

end Go.Proofs.YtbeidpeoichakaaDoor.hb

/- fraction: TextBig. -/
set_option linter.unusedSimpArgs false
namespace Go.Proofs.YtbeidpeoichakaaDoor.hc
open Go.RowKit Go.Proofs.YtbeidpeoichakaaDoor.fm Go.Proofs.YtbeidpeoichakaaDoor.mem Go.Proofs.YtbeidpeoichakaaDoor.fa Go.Proofs.YtbeidpeoichakaaDoor.fb Go.Proofs.YtbeidpeoichakaaDoor.ff Go.Proofs.YtbeidpeoichakaaDoor.fu Go.Proofs.YtbeidpeoichakaaDoor.fv Go.Proofs.YtbeidpeoichakaaDoor.fw Go.Proofs.YtbeidpeoichakaaDoor.fx Go.Proofs.YtbeidpeoichakaaDoor.fy Go.Proofs.YtbeidpeoichakaaDoor.ha Go.Proofs.YtbeidpeoichakaaDoor.hb

/-- bytes -/
def ba (l : List UInt8) : ByteArray := ⟨l.toArray⟩
theorem ba_append (a b : List UInt8) : ba a ++ ba b = ba (a ++ b) := by
  apply ByteArray.ext
  simp [ba]
theorem ba_size (a : List UInt8) : (ba a).size = a.length := by simp [ba, ByteArray.size]
theorem zeros9 (n : Nat) : (⟨#[48, 48, 48, 48, 48, 48, 48, 48, 48]⟩ : ByteArray).extract n 9 = ba (List.replicate (9 - n) 48) := by
  apply ByteArray.ext
  rw [ByteArray.data_extract]
  show (Array.extract #[48, 48, 48, 48, 48, 48, 48, 48, 48] n 9) = (List.replicate (9 - n) 48).toArray
  apply Array.ext'
  rw [Array.toList_extract]
  show ([48, 48, 48, 48, 48, 48, 48, 48, 48] : List UInt8).extract n 9 = List.replicate (9 - n) 48
  by_cases h : n < 9
  · have : ∀ k : Fin 9, ([48, 48, 48, 48, 48, 48, 48, 48, 48] : List UInt8).extract k.val 9 = List.replicate (9 - k.val) 48 := by decide
    exact this ⟨n, h⟩
  · rw [show 9 - n = 0 by omega, List.extract_eq_take_drop, List.take_eq_nil_iff.2 (Or.inl (by omega))]
    rfl

/-- What is written (t) and what is left to be written (m) are the digits of n. -/
def Left (n m : Nat) (t : List UInt8) : Prop := if m = 0 then t = Lib.decDigits n else Lib.decDigits m ++ t = Lib.decDigits n

theorem left_start {n : Nat} (h : n ≠ 0) : Left n n [] := by unfold Left; rw [if_neg h]; simp
theorem left_end {n : Nat} {t : List UInt8} (h : Left n 0 t) : t = Lib.decDigits n := by unfold Left at h; rwa [if_pos rfl] at h
theorem left_last {n m : Nat} {t : List UInt8} (h : Left n m t) (hm : m ≠ 0) (hq : m / 1000000000 = 0) : Left n (m / 1000000000) (Lib.decDigits (m % 1000000000) ++ t) := by
  unfold Left at *
  rw [if_neg hm] at h
  rw [hq, if_pos rfl, Nat.mod_eq_of_lt (by omega)]
  exact h
theorem left_more {n m : Nat} {t : List UInt8} (h : Left n m t) (hm : m ≠ 0) (hq : m / 1000000000 ≠ 0) :
    Left n (m / 1000000000) (List.replicate (9 - (Lib.decDigits (m % 1000000000)).length) 48 ++ Lib.decDigits (m % 1000000000) ++ t) := by
  unfold Left at *
  rw [if_neg hm] at h
  rw [if_neg hq, ← List.append_assoc, ← dec_nine _ _ hq (Nat.mod_lt _ (by decide))]
  rw [show m / 1000000000 * 1000000000 + m % 1000000000 = m by omega]
  exact h

theorem left_last' {n m p q : Nat} {t : List UInt8} (h : Left n m t) (hm : m ≠ 0) (hp : m % 1000000000 = p) (hq : m / 1000000000 = q) (h0 : q = 0) : Left n q (Lib.decDigits p ++ t) := by
  subst hp hq
  exact left_last h hm h0
theorem left_more' {n m p q : Nat} {t : List UInt8} (h : Left n m t) (hm : m ≠ 0) (hp : m % 1000000000 = p) (hq : m / 1000000000 = q) (h0 : q ≠ 0) :
    Left n q (List.replicate (9 - (Lib.decDigits p).length) 48 ++ Lib.decDigits p ++ t) := by
  subst hp hq
  exact left_more h hm h0

theorem left_len {n m : Nat} {t : List UInt8} (h : Left n m t) : t.length ≤ (Lib.decDigits n).length := by
  unfold Left at h
  split at h
  · rw [h]; exact Nat.le_refl _
  · rw [← h, List.length_append]; omega

end Go.Proofs.YtbeidpeoichakaaDoor.hc

/- fraction: Text. -/
set_option linter.unusedSimpArgs false
namespace Go.Proofs.YtbeidpeoichakaaDoor.hd
open Go.RowKit Go.Proofs.YtbeidpeoichakaaDoor.fm Go.Proofs.YtbeidpeoichakaaDoor.mem Go.Proofs.YtbeidpeoichakaaDoor.fa Go.Proofs.YtbeidpeoichakaaDoor.fb Go.Proofs.YtbeidpeoichakaaDoor.fj Go.Proofs.YtbeidpeoichakaaDoor.fu Go.Proofs.YtbeidpeoichakaaDoor.fv Go.Proofs.YtbeidpeoichakaaDoor.fw Go.Proofs.YtbeidpeoichakaaDoor.fx Go.Proofs.YtbeidpeoichakaaDoor.gb Go.Proofs.YtbeidpeoichakaaDoor.gc Go.Proofs.YtbeidpeoichakaaDoor.gd Go.Proofs.YtbeidpeoichakaaDoor.ha Go.Proofs.YtbeidpeoichakaaDoor.hb Go.Proofs.YtbeidpeoichakaaDoor.hc

/-- The text of a fraction. -/
def textOf (z : Int) (d : Nat) : List UInt8 := if d = 1 then Lib.itoa z else Lib.itoa z ++ 47 :: Lib.decDigits d

theorem itoa_len {z : Int} (h : (digs z.natAbs).length ≤ 256) : (Lib.itoa z).length ≤ 2561 := by
  have hl : (Lib.decDigits z.natAbs).length ≤ 2560 := dec_long (k := 256) (by decide) ((lt_len_iff _ _).1 h)
  unfold Lib.itoa
  split
  · simp; omega
  · rw [show z.toNat = z.natAbs by omega]; omega

theorem itoa_nat (d : Nat) : Lib.itoa (d : Int) = Lib.decDigits d := Lib.itoa_nonneg d

theorem isBig_den {w : World} {A : Option Addr} {c d : Nat} (R : Rd w w.heap.size A c (digs d)) : IsBig w (.agg #[.bool false, .slice A (digs d).length c]) (d : Int) :=
  ⟨A, c, by rw [decide_eq_false (by omega)]; rfl, R⟩

end Go.Proofs.YtbeidpeoichakaaDoor.hd
