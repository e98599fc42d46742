/- Texts of fractions are different where the fractions are; the order of fractions. -/
import Derived.Test.YtbeidpeoichakaaGreatDoorHa
import Derived.Test.YtbeidpeoichakaaGreatDoorJi
import Derived.Test.YtbeidpeoichakaaGreatDoorJj
import Derived.Test.YtbeidpeoichakaaGreatDoorGe
import Derived.Test.YtbeidpeoichakaaGreatDoorHf
import Derived.Deep.DeepCutAuto
namespace Go.Proofs.YtbeidpeoichakaaGreatDoor.ka
open Go.Lib Go.Proofs.YtbeidpeoichakaaGreatDoor.fm Go.Proofs.YtbeidpeoichakaaGreatDoor.gd Go.Proofs.YtbeidpeoichakaaGreatDoor.ge Go.Proofs.YtbeidpeoichakaaGreatDoor.ha Go.Proofs.YtbeidpeoichakaaGreatDoor.hd Go.Proofs.YtbeidpeoichakaaGreatDoor.ji

theorem dig_nat (k : Nat) (hk : k < 10) : (UInt8.ofNat (48 + k)).toNat = 48 + k := by
  rw [UInt8.toNat_ofNat']
  omega

theorem dval_dec (n : Nat) : dval (decDigits n) = n := by
  induction n using Nat.strongRecOn with
  | _ n ih =>
    rw [decDigits]
    split
    · rename_i h
      have e : dval [UInt8.ofNat (48 + n)] = 10 * dval [] + ((UInt8.ofNat (48 + n)).toNat - 48) := dval_snoc [] _
      rw [e, dig_nat n h]
      simp [dval]
    · rename_i h
      rw [dval_snoc, ih (n / 10) (by omega), dig_nat _ (Nat.mod_lt _ (by decide))]
      omega

theorem dec_digits (n : Nat) : ∀ b ∈ decDigits n, 48 ≤ b.toNat ∧ b.toNat ≤ 57 := by
  induction n using Nat.strongRecOn with
  | _ n ih =>
    intro b hb
    rw [decDigits] at hb
    split at hb
    · rename_i h
      rw [List.mem_singleton] at hb
      subst hb
      rw [dig_nat n h]
      omega
    · rename_i h
      rw [List.mem_append, List.mem_singleton] at hb
      rcases hb with hb | hb
      · exact ih (n / 10) (by omega) b hb
      · subst hb
        rw [dig_nat _ (Nat.mod_lt _ (by decide))]
        omega

theorem dec_inj {m n : Nat} (h : decDigits m = decDigits n) : m = n := by
  have := congrArg dval h
  rwa [dval_dec, dval_dec] at this

theorem itoa_inj {x y : Int} (h : itoa x = itoa y) : x = y := by
  have key : ∀ m n : Nat, 45 :: decDigits m ≠ decDigits n := by
    intro m n e
    have := dec_digits n 45 (by rw [← e]; simp)
    revert this
    decide
  unfold itoa at h
  split at h
  · split at h
    · have := dec_inj (List.cons.inj h).2
      omega
    · exact absurd h (key _ _)
  · split at h
    · exact absurd h.symm (key _ _)
    · have := dec_inj h
      omega

theorem itoa_plain (x : Int) : (47 : UInt8) ∉ itoa x := by
  have key : ∀ n : Nat, (47 : UInt8) ∉ decDigits n := by
    intro n hb
    have := dec_digits n 47 hb
    revert this
    decide
  unfold itoa
  split
  · intro h
    rcases List.mem_cons.1 h with h | h
    · revert h; decide
    · exact key _ h
  · exact key _

theorem split47 : ∀ {a b c d : List UInt8}, (47 : UInt8) ∉ a → (47 : UInt8) ∉ c → a ++ 47 :: b = c ++ 47 :: d → a = c ∧ b = d
  | [], b, [], d, _, _, h => ⟨rfl, (List.cons.inj h).2⟩
  | [], b, x :: c, d, _, hc, h => by
    have := (List.cons.inj h).1
    exact absurd (by rw [this]; simp) hc
  | x :: a, b, [], d, ha, _, h => by
    have := (List.cons.inj h).1
    exact absurd (by rw [← this]; simp) ha
  | x :: a, b, y :: c, d, ha, hc, h => by
    obtain ⟨h1, h2⟩ := List.cons.inj h
    obtain ⟨h3, h4⟩ := split47 (a := a) (c := c) (fun hh => ha (List.mem_cons_of_mem _ hh)) (fun hh => hc (List.mem_cons_of_mem _ hh)) h2
    exact ⟨by rw [h1, h3], h4⟩

theorem textOf_inj {z z' : Int} {d d' : Nat} (h : textOf z d = textOf z' d') : z = z' ∧ d = d' := by
  unfold textOf at h
  split at h
  · rename_i h1
    split at h
    · rename_i h2
      exact ⟨itoa_inj h, by omega⟩
    · exact absurd (by rw [h]; simp) (itoa_plain z)
  · split at h
    · exact absurd (by rw [← h]; simp) (itoa_plain z')
    · obtain ⟨h1, h2⟩ := split47 (itoa_plain z) (itoa_plain z') h
      exact ⟨itoa_inj h1, dec_inj h2⟩

theorem ba_inj {a b : List UInt8} (h : hc.ba a = hc.ba b) : a = b := by
  have := congrArg (fun s : ByteArray => s.data.toList) h
  simpa [hc.ba] using this

/-- fractions in lowest terms are equal if their cross products are -/
theorem cross_eq {z z' : Int} {d d' : Nat} (F : Small z d) (F' : Small z' d') (h : z * d' = z' * d) : z = z' ∧ d = d' := by
  have h1 : z.natAbs * d' = z'.natAbs * d := by
    have := congrArg Int.natAbs h
    rwa [Int.natAbs_mul, Int.natAbs_mul, Int.natAbs_natCast, Int.natAbs_natCast] at this
  have hd : d ∣ d' := by
    have : d ∣ z.natAbs * d' := ⟨z'.natAbs, by rw [h1, Nat.mul_comm]⟩
    exact (Nat.Coprime.symm F.low).dvd_of_dvd_mul_left this
  have hd' : d' ∣ d := by
    have : d' ∣ z'.natAbs * d := ⟨z.natAbs, by rw [← h1, Nat.mul_comm]⟩
    exact (Nat.Coprime.symm F'.low).dvd_of_dvd_mul_left this
  have e := Nat.dvd_antisymm hd hd'
  refine ⟨?_, e⟩
  rw [← e] at h
  exact Int.eq_of_mul_eq_mul_right (by have := F.d0; omega) h

theorem order_neg (x y : Int) : fw.order y x = -fw.order x y := by
  unfold fw.order
  by_cases h1 : x < y
  · rw [if_pos h1, if_neg (by omega), if_pos h1]; rfl
  · by_cases h2 : y < x
    · rw [if_pos h2, if_neg h1, if_pos h2]
    · rw [if_neg h2, if_neg h1, if_neg h1, if_neg h2]; rfl

theorem order_self (x : Int) : fw.order x x = 0 := by unfold fw.order; simp

theorem order_vals (x y : Int) : (fw.order x y = -1 ∧ x < y) ∨ (fw.order x y = 0 ∧ x = y) ∨ (fw.order x y = 1 ∧ y < x) := by
  unfold fw.order
  by_cases h1 : x < y
  · rw [if_pos h1]; exact Or.inl ⟨rfl, h1⟩
  · by_cases h2 : y < x
    · rw [if_neg h1, if_pos h2]; exact Or.inr (Or.inr ⟨rfl, h2⟩)
    · rw [if_neg h1, if_neg h2]; exact Or.inr (Or.inl ⟨rfl, by omega⟩)

/-- the order of fractions is transitive -/
theorem cross_trans {x y z : Int} {a b c : Nat} (hb : b ≠ 0) (ha : a ≠ 0) (hc : c ≠ 0) (h1 : x * b ≤ y * a) (h2 : y * c ≤ z * b) : x * c ≤ z * a ∧ ((x * b < y * a) → x * c < z * a) := by
  have pb : (0 : Int) < (b : Int) := by omega
  have pa : (0 : Int) < (a : Int) := by omega
  have pc : (0 : Int) < (c : Int) := by omega
  have e1 : x * b * c ≤ y * a * c := Int.mul_le_mul_of_nonneg_right h1 (Int.le_of_lt pc)
  have e2 : y * c * a ≤ z * b * a := Int.mul_le_mul_of_nonneg_right h2 (Int.le_of_lt pa)
  have r1 : x * b * c = x * c * b := by rw [Int.mul_assoc, Int.mul_comm (b : Int), ← Int.mul_assoc]
  have r2 : y * a * c = y * c * a := by rw [Int.mul_assoc, Int.mul_comm (a : Int), ← Int.mul_assoc]
  have r3 : z * b * a = z * a * b := by rw [Int.mul_assoc, Int.mul_comm (b : Int), ← Int.mul_assoc]
  refine ⟨?_, fun hlt => ?_⟩
  · have : x * c * b ≤ z * a * b := by omega
    exact Int.le_of_mul_le_mul_right this pb
  · have e3 : x * b * c < y * a * c := Int.mul_lt_mul_of_pos_right hlt pc
    have : x * c * b < z * a * b := by omega
    exact Int.lt_of_mul_lt_mul_right this (Int.le_of_lt pb)

theorem loop_data (s : ByteArray) : ∀ (n i : Nat) (r : List UInt8), s.size - i = n → ByteArray.toList.loop s i r = r.reverse ++ s.data.toList.drop i := by
  intro n
  induction n with
  | zero =>
    intro i r h
    rw [ByteArray.toList.loop, if_neg (by omega), List.drop_of_length_le, List.append_nil]
    rw [Array.length_toList]
    show s.size ≤ i
    omega
  | succ n ih =>
    intro i r h
    have hi : i < s.size := by omega
    have hi' : i < s.data.toList.length := by rw [Array.length_toList]; exact hi
    rw [ByteArray.toList.loop, if_pos hi, ih (i + 1) _ (by omega), List.reverse_cons, List.append_assoc, List.drop_eq_getElem_cons hi']
    have hg : s.get! i = s.data.toList[i] := by
      show s.data[i]! = _
      rw [getElem!_pos s.data i hi, Array.getElem_toList]
    rw [hg]
    rfl

theorem toList_inj {s t : ByteArray} (h : s.toList = t.toList) : s = t := by
  have e : ∀ u : ByteArray, u.toList = u.data.toList := fun u => by
    rw [ByteArray.toList, loop_data u u.size 0 [] rfl]
    simp
  rw [e, e] at h
  apply ByteArray.ext
  exact Array.toList_inj.1 h

end Go.Proofs.YtbeidpeoichakaaGreatDoor.ka

/- law 01: FractionOrder. -/
set_option linter.unusedSimpArgs false
namespace Go.Proofs.YtbeidpeoichakaaGreatDoor.kb
open Go.RowKit Go.Proofs.YtbeidpeoichakaaGreatDoor.fm Go.Proofs.YtbeidpeoichakaaGreatDoor.mem Go.Proofs.YtbeidpeoichakaaGreatDoor.fa Go.Proofs.YtbeidpeoichakaaGreatDoor.fb Go.Proofs.YtbeidpeoichakaaGreatDoor.fj Go.Proofs.YtbeidpeoichakaaGreatDoor.fu Go.Proofs.YtbeidpeoichakaaGreatDoor.fv Go.Proofs.YtbeidpeoichakaaGreatDoor.fw Go.Proofs.YtbeidpeoichakaaGreatDoor.fx Go.Proofs.YtbeidpeoichakaaGreatDoor.fy Go.Proofs.YtbeidpeoichakaaGreatDoor.fz Go.Proofs.YtbeidpeoichakaaGreatDoor.gb Go.Proofs.YtbeidpeoichakaaGreatDoor.gc Go.Proofs.YtbeidpeoichakaaGreatDoor.gd Go.Proofs.YtbeidpeoichakaaGreatDoor.gg Go.Proofs.YtbeidpeoichakaaGreatDoor.hb Go.Proofs.YtbeidpeoichakaaGreatDoor.hd Go.Proofs.YtbeidpeoichakaaGreatDoor.hf Go.Proofs.YtbeidpeoichakaaGreatDoor.hg Go.Proofs.YtbeidpeoichakaaGreatDoor.hh Go.Proofs.YtbeidpeoichakaaGreatDoor.ji Go.Proofs.YtbeidpeoichakaaGreatDoor.jj Go.Proofs.YtbeidpeoichakaaGreatDoor.jk Go.Proofs.YtbeidpeoichakaaGreatDoor.ka Go.Proofs.YtbeidpeoichakaaGreatDoor.mill

theorem isFrac_kept {g : Nat} {w w' : World} {v : Value} {z : Int} {d : Nat} (hI : IsFrac w v z d) (h : Kept g w w') : IsFrac w' v z d := by
  obtain ⟨A, c, A', c', e, R, R'⟩ := hI
  exact ⟨A, c, A', c', e, hh.Rd.kept R h, hh.Rd.kept R' h⟩

/-- Three fractions in boxes of their own. -/
structure Tri (w W : World) (g : Nat) (x y z : Int) (a b c : Nat) (A1 : Option Addr) (c1 : Nat) (B1 : Option Addr) (k1 : Nat) (A2 : Option Addr) (c2 : Nat) (B2 : Option Addr) (k2 : Nat) (A3 : Option Addr) (c3 : Nat) (B3 : Option Addr) (k3 : Nat) : Prop where
  bel : Below w.heap.size w W
  fa : FAt W g x a A1 c1 B1 k1
  fb : FAt W (g + 1) y b A2 c2 B2 k2
  fc : FAt W (g + 1 + 1) z c A3 c3 B3 k3

theorem Tri.after {w W W' : World} {g : Nat} {x y z : Int} {a b c : Nat} {A1 B1 A2 B2 A3 B3 : Option Addr} {c1 k1 c2 k2 c3 k3 : Nat} (T : Tri w W g x y z a b c A1 c1 B1 k1 A2 c2 B2 k2 A3 c3 B3 k3) (h : Below W.heap.size W W') : Tri w W' g x y z a b c A1 c1 B1 k1 A2 c2 B2 k2 A3 c3 B3 k3 :=
  ⟨T.bel.trans (h.mono T.bel.size), T.fa.after h, T.fb.after h, T.fc.after h⟩
theorem Tri.draw {w W : World} {g : Nat} {x y z : Int} {a b c : Nat} {A1 B1 A2 B2 A3 B3 : Option Addr} {c1 k1 c2 k2 c3 k3 : Nat} (T : Tri w W g x y z a b c A1 c1 B1 k1 A2 c2 B2 k2 A3 c3 B3 k3) : Tri w W.drew g x y z a b c A1 c1 B1 k1 A2 c2 B2 k2 A3 c3 B3 k3 := T.after (Below.refl _ _).drew
theorem Tri.held {w W : World} {g : Nat} {x y z : Int} {a b c : Nat} {A1 B1 A2 B2 A3 B3 : Option Addr} {c1 k1 c2 k2 c3 k3 : Nat} (T : Tri w W g x y z a b c A1 c1 B1 k1 A2 c2 B2 k2 A3 c3 B3 k3) :
    W.cell? ⟨g, 0, none⟩ = some (.bool (decide (x < 0))) ∧ W.cell? ⟨g, 1, none⟩ = some (.slice A1 (digs x.natAbs).length c1) ∧ W.cell? ⟨g, 2, none⟩ = some (.bool false) ∧ W.cell? ⟨g, 3, none⟩ = some (.slice B1 (digs a).length k1) ∧
    W.cell? ⟨g + 1, 0, none⟩ = some (.bool (decide (y < 0))) ∧ W.cell? ⟨g + 1, 1, none⟩ = some (.slice A2 (digs y.natAbs).length c2) ∧ W.cell? ⟨g + 1, 2, none⟩ = some (.bool false) ∧ W.cell? ⟨g + 1, 3, none⟩ = some (.slice B2 (digs b).length k2) ∧
    W.cell? ⟨g + 1 + 1, 0, none⟩ = some (.bool (decide (z < 0))) ∧ W.cell? ⟨g + 1 + 1, 1, none⟩ = some (.slice A3 (digs z.natAbs).length c3) ∧ W.cell? ⟨g + 1 + 1, 2, none⟩ = some (.bool false) ∧ W.cell? ⟨g + 1 + 1, 3, none⟩ = some (.slice B3 (digs c).length k3) :=
  ⟨T.fa.c0, T.fa.c1, T.fa.c2, T.fa.c3, T.fb.c0, T.fb.c1, T.fb.c2, T.fb.c3, T.fc.c0, T.fc.c1, T.fc.c2, T.fc.c3⟩

theorem tri_new {w W : World} {x y z : Int} {a b c : Nat} {A1 B1 A2 B2 A3 B3 : Option Addr} {c1 k1 c2 k2 c3 k3 : Nat} (hb : Below w.heap.size w W) (R1 : Rd W W.heap.size A1 c1 (digs x.natAbs)) (S1 : Rd W W.heap.size B1 k1 (digs a)) (R2 : Rd W W.heap.size A2 c2 (digs y.natAbs)) (S2 : Rd W W.heap.size B2 k2 (digs b))
    (R3 : Rd W W.heap.size A3 c3 (digs z.natAbs)) (S3 : Rd W W.heap.size B3 k3 (digs c)) :
    Tri w (((W.alloc (.cells #[.bool (decide (x < 0)), .slice A1 (digs x.natAbs).length c1, .bool false, .slice B1 (digs a).length k1] 30)).alloc (.cells #[.bool (decide (y < 0)), .slice A2 (digs y.natAbs).length c2, .bool false, .slice B2 (digs b).length k2] 30)).alloc (.cells #[.bool (decide (z < 0)), .slice A3 (digs z.natAbs).length c3, .bool false, .slice B3 (digs c).length k3] 30))
      W.heap.size x y z a b c A1 c1 B1 k1 A2 c2 B2 k2 A3 c3 B3 k3 := by
  have h1 := (Below.refl W.heap.size W).alloc (Nat.le_refl _) (.cells #[.bool (decide (x < 0)), .slice A1 (digs x.natAbs).length c1, .bool false, .slice B1 (digs a).length k1] 30)
  have f1 := fat_new R1 S1
  obtain ⟨U1, hU1⟩ : ∃ U1, U1 = W.alloc (.cells #[.bool (decide (x < 0)), .slice A1 (digs x.natAbs).length c1, .bool false, .slice B1 (digs a).length k1] 30) := ⟨_, rfl⟩
  have z1 : U1.heap.size = W.heap.size + 1 := by rw [hU1]; simp
  rw [← hU1] at h1 f1 ⊢
  have f2 := fat_new ((R2.below h1).more h1.size) ((S2.below h1).more h1.size)
  have h2 := (Below.refl U1.heap.size U1).alloc (Nat.le_refl _) (.cells #[.bool (decide (y < 0)), .slice A2 (digs y.natAbs).length c2, .bool false, .slice B2 (digs b).length k2] 30)
  obtain ⟨U2, hU2⟩ : ∃ U2, U2 = U1.alloc (.cells #[.bool (decide (y < 0)), .slice A2 (digs y.natAbs).length c2, .bool false, .slice B2 (digs b).length k2] 30) := ⟨_, rfl⟩
  have z2 : U2.heap.size = W.heap.size + 1 + 1 := by rw [hU2]; simp; exact z1
  rw [← hU2] at f2 h2 ⊢
  have h12 := h1.trans (h2.mono h1.size)
  have f3 := fat_new ((R3.below h12).more h12.size) ((S3.below h12).more h12.size)
  have h3 := (Below.refl U2.heap.size U2).alloc (Nat.le_refl _) (.cells #[.bool (decide (z < 0)), .slice A3 (digs z.natAbs).length c3, .bool false, .slice B3 (digs c).length k3] 30)
  rw [z1] at f2
  rw [z2] at f3
  exact ⟨hb.trans ((h12.trans (h3.mono h12.size)).mono hb.size), (f1.after h2).after h3, f2.after h3, f3⟩

theorem held_two {a b c d e f g h i j k l : Prop} (H : a ∧ b ∧ c ∧ d ∧ e ∧ f ∧ g ∧ h ∧ i ∧ j ∧ k ∧ l) : a ∧ b ∧ c ∧ d ∧ e ∧ f ∧ g ∧ h :=
  ⟨H.1, H.2.1, H.2.2.1, H.2.2.2.1, H.2.2.2.2.1, H.2.2.2.2.2.1, H.2.2.2.2.2.2.1, H.2.2.2.2.2.2.2.1⟩

theorem sign_tdiv {N : Int} {g : Nat} (hg : 0 < g) (hd : g ∣ N.natAbs) : (N < 0 → N.tdiv (g : Int) < 0) ∧ (N = 0 → N.tdiv (g : Int) = 0) ∧ (0 < N → 0 < N.tdiv (g : Int)) := by
  obtain ⟨k, hk⟩ := hd
  have h1 : (N.tdiv (g : Int)).natAbs = k := by rw [Int.natAbs_tdiv, Int.natAbs_natCast]; show N.natAbs / g = k; rw [hk, Nat.mul_div_cancel_left _ hg]
  refine ⟨fun h => ?_, fun h => by rw [h]; simp, fun h => ?_⟩
  · have hk0 : k ≠ 0 := fun e => by rw [e, Nat.mul_zero] at hk; omega
    have : N.tdiv (g : Int) ≤ 0 := by
      have h2 := Int.neg_tdiv N (g : Int)
      have h3 : 0 ≤ (-N).tdiv (g : Int) := Int.tdiv_nonneg (by omega) (by omega)
      omega
    omega
  · have hk0 : k ≠ 0 := fun e => by rw [e, Nat.mul_zero] at hk; omega
    have : 0 ≤ N.tdiv (g : Int) := Int.tdiv_nonneg (by omega) (by omega)
    omega

theorem case_of {x y : Int} {a b : Nat} {X N M : Int} {s1 s2 : ByteArray} (Sx : Small x a) (Sy : Small y b) (hX : X = fw.order (x * b) (y * a)) (hN : N = x * (b : Int) + (-y) * (a : Int)) (hM : (N < 0 → M < 0) ∧ (N = 0 → M = 0) ∧ (0 < N → 0 < M))
    (h1 : s1 = hc.ba (textOf x a)) (h2 : s2 = hc.ba (textOf y b)) : (X = -1 ∧ M < 0 ∧ s1 ≠ s2) ∨ (X = 0 ∧ M = 0 ∧ s1 = s2) ∨ (X = 1 ∧ 0 < M ∧ s1 ≠ s2) := by
  have hv := order_vals (x * b) (y * a)
  rw [← hX] at hv
  have hN2 : N = x * (b : Int) - y * (a : Int) := by rw [hN, Int.neg_mul]; omega
  have hne : x * (b : Int) ≠ y * (a : Int) → s1 ≠ s2 := fun h e => by
    rw [h1, h2] at e
    obtain ⟨e1, e2⟩ := textOf_inj (ba_inj e)
    exact h (by rw [e1, e2])
  rcases hv with ⟨e, h⟩ | ⟨e, h⟩ | ⟨e, h⟩
  · exact Or.inl ⟨e, hM.1 (by omega), hne (by omega)⟩
  · obtain ⟨e1, e2⟩ := cross_eq Sx Sy h
    exact Or.inr (Or.inl ⟨e, hM.2.1 (by omega), by rw [h1, h2, e1, e2]⟩)
  · exact Or.inr (Or.inr ⟨e, hM.2.2 (by omega), hne (by omega)⟩)

theorem vals_of {x y z : Int} {a b d : Nat} {X Y Z : Int} (Sx : Small x a) (Sy : Small y b) (Sz : Small z d) (hX : X = fw.order (x * b) (y * a)) (hY : Y = fw.order (y * d) (z * b)) (hZ : Z = fw.order (x * d) (z * a)) :
    (-1 ≤ X ∧ X ≤ 1) ∧ (X ≤ 0 → Y ≤ 0 → Z ≤ 0) ∧ (X < 0 → Y ≤ 0 → Z < 0) := by
  have h1 := order_vals (x * b) (y * a)
  have h2 := order_vals (y * d) (z * b)
  have h3 := order_vals (x * d) (z * a)
  rw [← hX] at h1
  rw [← hY] at h2
  rw [← hZ] at h3
  refine ⟨by omega, fun hx hy => ?_, fun hx hy => ?_⟩
  · have := (cross_trans Sy.d0 Sx.d0 Sz.d0 (by omega : x * b ≤ y * a) (by omega : y * d ≤ z * b)).1
    omega
  · have := (cross_trans Sy.d0 Sx.d0 Sz.d0 (by omega : x * b ≤ y * a) (by omega : y * d ≤ z * b)).2 (by omega)
    omega

end Go.Proofs.YtbeidpeoichakaaGreatDoor.kb
