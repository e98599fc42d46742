/- Texts of fractions are different where the fractions are; the order of fractions. -/
import Derived.Test.YtfnfnagdecpobaaDoorHa
import Derived.Test.YtfnfnagdecpobaaDoorJi
import Derived.Test.YtfnfnagdecpobaaDoorJj
import Derived.Test.YtfnfnagdecpobaaDoorGe
import Derived.Test.YtfnfnagdecpobaaDoorHf
import Derived.Deep.DeepCutAuto
namespace Go.Proofs.YtfnfnagdecpobaaDoor.ka
open Go.Lib Go.Proofs.YtfnfnagdecpobaaDoor.fm Go.Proofs.YtfnfnagdecpobaaDoor.gd Go.Proofs.YtfnfnagdecpobaaDoor.ge Go.Proofs.YtfnfnagdecpobaaDoor.ha Go.Proofs.YtfnfnagdecpobaaDoor.hd Go.Proofs.YtfnfnagdecpobaaDoor.ji

theorem dig_nat (k : Nat) (hk : k < 10) : (UInt8.ofNat (48 + k)).toNat = 48 + k := by
  rw [UInt8.toNat_ofNat']
  omega

theorem dval_dec (n : Nat) : dval (decDigits n) = n := by
  induction n using Nat.strongRecOn with
  | _ n ih =>
    rw [decDigits]
    split
    · rename_i h
      have e : dval [UInt8.ofNat (48 + n)] = 10 * dval [] + ((UInt8.ofNat (48 + n)).toNat - 48) := dval_snoc [] _
      rw [e, dig_nat n h]
      simp [dval]
    · rename_i h
      rw [dval_snoc, ih (n / 10) (by omega), dig_nat _ (Nat.mod_lt _ (by decide))]
      omega

theorem dec_digits (n : Nat) : ∀ b ∈ decDigits n, 48 ≤ b.toNat ∧ b.toNat ≤ 57 := by
  induction n using Nat.strongRecOn with
  | _ n ih =>
    intro b hb
    rw [decDigits] at hb
    split at hb
    · rename_i h
      rw [List.mem_singleton] at hb
      subst hb
      rw [dig_nat n h]
      omega
    · rename_i h
      rw [List.mem_append, List.mem_singleton] at hb
      rcases hb with hb | hb
      · exact ih (n / 10) (by omega) b hb
      · subst hb
        rw [dig_nat _ (Nat.mod_lt _ (by decide))]
        omega

theorem dec_inj {m n : Nat} (h : decDigits m = decDigits n) : m = n := by
  have := congrArg dval h
  rwa [dval_dec, dval_dec] at this

theorem itoa_inj {x y : Int} (h : itoa x = itoa y) : x = y := by
  have key : ∀ m n : Nat, 45 :: decDigits m ≠ decDigits n := by
    intro m n e
    have := dec_digits n 45 (by rw [← e]; simp)
    revert this
    decide
  unfold itoa at h
  split at h
  · split at h
    · have := dec_inj (List.cons.inj h).2
      omega
    · exact absurd h (key _ _)
  · split at h
    · exact absurd h.symm (key _ _)
    · have := dec_inj h
      omega

theorem itoa_plain (x : Int) : (47 : UInt8) ∉ itoa x := by
  have key : ∀ n : Nat, (47 : UInt8) ∉ decDigits n := by
    intro n hb
    have := dec_digits n 47 hb
    revert this
    decide
  unfold itoa
  split
  · intro h
    rcases List.mem_cons.1 h with h | h
    · revert h; decide
    · exact key _ h
  · exact key _

theorem split47 : ∀ {a b c d : List UInt8}, (47 : UInt8) ∉ a → (47 : UInt8) ∉ c → a ++ 47 :: b = c ++ 47 :: d → a = c ∧ b = d
  | [], b, [], d, _, _, h => ⟨rfl, (List.cons.inj h).2⟩
  | [], b, x :: c, d, _, hc, h => by
    have := (List.cons.inj h).1
    exact absurd (by rw [this]; simp) hc
  | x :: a, b, [], d, ha, _, h => by
    have := (List.cons.inj h).1
    exact absurd (by rw [← this]; simp) ha
  | x :: a, b, y :: c, d, ha, hc, h => by
    obtain ⟨h1, h2⟩ := List.cons.inj h
    obtain ⟨h3, h4⟩ := split47 (a := a) (c := c) (fun hh => ha (List.mem_cons_of_mem _ hh)) (fun hh => hc (List.mem_cons_of_mem _ hh)) h2
    exact ⟨by rw [h1, h3], h4⟩

theorem textOf_inj {z z' : Int} {d d' : Nat} (h : textOf z d = textOf z' d') : z = z' ∧ d = d' := by
  unfold textOf at h
  split at h
  · rename_i h1
    split at h
    · rename_i h2
      exact ⟨itoa_inj h, by omega⟩
    · exact absurd (by rw [h]; simp) (itoa_plain z)
  · split at h
    · exact absurd (by rw [← h]; simp) (itoa_plain z')
    · obtain ⟨h1, h2⟩ := split47 (itoa_plain z) (itoa_plain z') h
      exact ⟨itoa_inj h1, dec_inj h2⟩

theorem ba_inj {a b : List UInt8} (h : hc.ba a = hc.ba b) : a = b := by
  have := congrArg (fun s : ByteArray => s.data.toList) h
  simpa [hc.ba] using this

/-- fractions in lowest terms are equal if their cross products are -/
theorem cross_eq {z z' : Int} {d d' : Nat} (F : Small z d) (F' : Small z' d') (h : z * d' = z' * d) : z = z' ∧ d = d' := by
  have h1 : z.natAbs * d' = z'.natAbs * d := by
    have := congrArg Int.natAbs h
    rwa [Int.natAbs_mul, Int.natAbs_mul, Int.natAbs_natCast, Int.natAbs_natCast] at this
  have hd : d ∣ d' := by
    have : d ∣ z.natAbs * d' := ⟨z'.natAbs, by rw [h1, Nat.mul_comm]⟩
    exact (Nat.Coprime.symm F.low).dvd_of_dvd_mul_left this
  have hd' : d' ∣ d := by
    have : d' ∣ z'.natAbs * d := ⟨z.natAbs, by rw [← h1, Nat.mul_comm]⟩
    exact (Nat.Coprime.symm F'.low).dvd_of_dvd_mul_left this
  have e := Nat.dvd_antisymm hd hd'
  refine ⟨?_, e⟩
  rw [← e] at h
  exact Int.eq_of_mul_eq_mul_right (by have := F.d0; omega) h

theorem order_neg (x y : Int) : fw.order y x = -fw.order x y := by
  unfold fw.order
  by_cases h1 : x < y
  · rw [if_pos h1, if_neg (by omega), if_pos h1]; rfl
  · by_cases h2 : y < x
    · rw [if_pos h2, if_neg h1, if_pos h2]
    · rw [if_neg h2, if_neg h1, if_neg h1, if_neg h2]; rfl

theorem order_self (x : Int) : fw.order x x = 0 := by unfold fw.order; simp

theorem order_vals (x y : Int) : (fw.order x y = -1 ∧ x < y) ∨ (fw.order x y = 0 ∧ x = y) ∨ (fw.order x y = 1 ∧ y < x) := by
  unfold fw.order
  by_cases h1 : x < y
  · rw [if_pos h1]; exact Or.inl ⟨rfl, h1⟩
  · by_cases h2 : y < x
    · rw [if_neg h1, if_pos h2]; exact Or.inr (Or.inr ⟨rfl, h2⟩)
    · rw [if_neg h1, if_neg h2]; exact Or.inr (Or.inl ⟨rfl, by omega⟩)

/-- the order of fractions is transitive -/
theorem cross_trans {x y z : Int} {a b c : Nat} (hb : b ≠ 0) (ha : a ≠ 0) (hc : c ≠ 0) (h1 : x * b ≤ y * a) (h2 : y * c ≤ z * b) : x * c ≤ z * a ∧ ((x * b < y * a) → x * c < z * a) := by
  have pb : (0 : Int) < (b : Int) := by omega
  have pa : (0 : Int) < (a : Int) := by omega
  have pc : (0 : Int) < (c : Int) := by omega
  have e1 : x * b * c ≤ y * a * c := Int.mul_le_mul_of_nonneg_right h1 (Int.le_of_lt pc)
  have e2 : y * c * a ≤ z * b * a := Int.mul_le_mul_of_nonneg_right h2 (Int.le_of_lt pa)
  have r1 : x * b * c = x * c * b := by rw [Int.mul_assoc, Int.mul_comm (b : Int), ← Int.mul_assoc]
  have r2 : y * a * c = y * c * a := by rw [Int.mul_assoc, Int.mul_comm (a : Int), ← Int.mul_assoc]
  have r3 : z * b * a = z * a * b := by rw [Int.mul_assoc, Int.mul_comm (b : Int), ← Int.mul_assoc]
  refine ⟨?_, fun hlt => ?_⟩
  · have : x * c * b ≤ z * a * b := by omega
    exact Int.le_of_mul_le_mul_right this pb
  · have e3 : x * b * c < y * a * c := Int.mul_lt_mul_of_pos_right hlt pc
    have : x * c * b < z * a * b := by omega
    exact Int.lt_of_mul_lt_mul_right this (Int.le_of_lt pb)

theorem loop_data (s : ByteArray) : ∀ (n i : Nat) (r : List UInt8), s.size - i = n → ByteArray.toList.loop s i r = r.reverse ++ s.data.toList.drop i := by
  intro n
  induction n with
  | zero =>
    intro i r h
    rw [ByteArray.toList.loop, if_neg (by omega), List.drop_of_length_le, List.append_nil]
    rw [Array.length_toList]
    show s.size ≤ i
    omega
  | succ n ih =>
    intro i r h
    have hi : i < s.size := by omega
    have hi' : i < s.data.toList.length := by rw [Array.length_toList]; exact hi
    rw [ByteArray.toList.loop, if_pos hi, ih (i + 1) _ (by omega), List.reverse_cons, List.append_assoc, List.drop_eq_getElem_cons hi']
    have hg : s.get! i = s.data.toList[i] := by
      show s.data[i]! = _
      rw [getElem!_pos s.data i hi, Array.getElem_toList]
    rw [hg]
    rfl

theorem toList_inj {s t : ByteArray} (h : s.toList = t.toList) : s = t := by
  have e : ∀ u : ByteArray, u.toList = u.data.toList := fun u => by
    rw [ByteArray.toList, loop_data u u.size 0 [] rfl]
    simp
  rw [e, e] at h
  apply ByteArray.ext
  exact Array.toList_inj.1 h

end Go.Proofs.YtfnfnagdecpobaaDoor.ka

/- law 01: FractionOrder. -/
set_option linter.unusedSimpArgs false
namespace Go.Proofs.YtfnfnagdecpobaaDoor.kb
open Go.RowKit Go.Proofs.YtfnfnagdecpobaaDoor.fm Go.Proofs.YtfnfnagdecpobaaDoor.mem Go.Proofs.YtfnfnagdecpobaaDoor.fa Go.Proofs.YtfnfnagdecpobaaDoor.fb Go.Proofs.YtfnfnagdecpobaaDoor.fj Go.Proofs.YtfnfnagdecpobaaDoor.fu Go.Proofs.YtfnfnagdecpobaaDoor.fv Go.Proofs.YtfnfnagdecpobaaDoor.fw Go.Proofs.YtfnfnagdecpobaaDoor.fx Go.Proofs.YtfnfnagdecpobaaDoor.fy Go.Proofs.YtfnfnagdecpobaaDoor.fz Go.Proofs.YtfnfnagdecpobaaDoor.gb Go.Proofs.YtfnfnagdecpobaaDoor.gc Go.Proofs.YtfnfnagdecpobaaDoor.gd Go.Proofs.YtfnfnagdecpobaaDoor.gg Go.Proofs.YtfnfnagdecpobaaDoor.hb Go.Proofs.YtfnfnagdecpobaaDoor.hd Go.Proofs.YtfnfnagdecpobaaDoor.hf Go.Proofs.YtfnfnagdecpobaaDoor.hg Go.Proofs.YtfnfnagdecpobaaDoor.hh Go.Proofs.YtfnfnagdecpobaaDoor.ji Go.Proofs.YtfnfnagdecpobaaDoor.jj Go.Proofs.YtfnfnagdecpobaaDoor.jk Go.Proofs.YtfnfnagdecpobaaDoor.ka Go.Proofs.YtfnfnagdecpobaaDoor.mill

theorem isFrac_kept {g : Nat} {w w' : World} {v : Value} {z : Int} {d : Nat} (hI : IsFrac w v z d) (h : Kept g w w') : IsFrac w' v z d := by
  obtain ⟨A, c, A', c', e, R, R'⟩ := hI
  exact ⟨A, c, A', c', e, hh.Rd.kept R h, hh.Rd.kept R' h⟩

/-- Three fractions in boxes of their own. -/
structure Tri (w W : World) (g : Nat) (x y z : Int) (a b c : Nat) (A1 : Option Addr) (c1 : Nat) (B1 : Option Addr) (k1 : Nat) (A2 : Option Addr) (c2 : Nat) (B2 : Option Addr) (k2 : Nat) (A3 : Option Addr) (c3 : Nat) (B3 : Option Addr) (k3 : Nat) : Prop where
  bel : Below w.heap.size w W
  fa : FAt W g x a A1 c1 B1 k1
  fb : FAt W (g + 1) y b A2 c2 B2 k2
  fc : FAt W (g + 1 + 1) z c A3 c3 B3 k3

theorem Tri.after {w W W' : World} {g : Nat} {x y z : Int} {a b c : Nat} {A1 B1 A2 B2 A3 B3 : Option Addr} {c1 k1 c2 k2 c3 k3 : Nat} (T : Tri w W g x y z a b c A1 c1 B1 k1 A2 c2 B2 k2 A3 c3 B3 k3) (h : Below W.heap.size W W') : Tri w W' g x y z a b c A1 c1 B1 k1 A2 c2 B2 k2 A3 c3 B3 k3 :=
  ⟨T.bel.trans (h.mono T.bel.size), T.fa.after h, T.fb.after h, T.fc.after h⟩
theorem Tri.draw {w W : World} {g : Nat} {x y z : Int} {a b c : Nat} {A1 B1 A2 B2 A3 B3 : Option Addr} {c1 k1 c2 k2 c3 k3 : Nat} (T : Tri w W g x y z a b c A1 c1 B1 k1 A2 c2 B2 k2 A3 c3 B3 k3) : Tri w W.drew g x y z a b c A1 c1 B1 k1 A2 c2 B2 k2 A3 c3 B3 k3 := T.after (Below.refl _ _).drew
theorem Tri.held {w W : World} {g : Nat} {x y z : Int} {a b c : Nat} {A1 B1 A2 B2 A3 B3 : Option Addr} {c1 k1 c2 k2 c3 k3 : Nat} (T : Tri w W g x y z a b c A1 c1 B1 k1 A2 c2 B2 k2 A3 c3 B3 k3) :
    W.cell? ⟨g, 0, none⟩ = some (.bool (decide (x < 0))) ∧ W.cell? ⟨g, 1, none⟩ = some (.slice A1 (digs x.natAbs).length c1) ∧ W.cell? ⟨g, 2, none⟩ = some (.bool false) ∧ W.cell? ⟨g, 3, none⟩ = some (.slice B1 (digs a).length k1) ∧
    W.cell? ⟨g + 1, 0, none⟩ = some (.bool (decide (y < 0))) ∧ W.cell? ⟨g + 1, 1, none⟩ = some (.slice A2 (digs y.natAbs).length c2) ∧ W.cell? ⟨g + 1, 2, none⟩ = some (.bool false) ∧ W.cell? ⟨g + 1, 3, none⟩ = some (.slice B2 (digs b).length k2) ∧
    W.cell? ⟨g + 1 + 1, 0, none⟩ = some (.bool (decide (z < 0))) ∧ W.cell? ⟨g + 1 + 1, 1, none⟩ = some (.slice A3 (digs z.natAbs).length c3) ∧ W.cell? ⟨g + 1 + 1, 2, none⟩ = some (.bool false) ∧ W.cell? ⟨g + 1 + 1, 3, none⟩ = some (.slice B3 (digs c).length k3) :=
  ⟨T.fa.c0, T.fa.c1, T.fa.c2, T.fa.c3, T.fb.c0, T.fb.c1, T.fb.c2, T.fb.c3, T.fc.c0, T.fc.c1, T.fc.c2, T.fc.c3⟩

theorem tri_new {w W : World} {x y z : Int} {a b c : Nat} {A1 B1 A2 B2 A3 B3 : Option Addr} {c1 k1 c2 k2 c3 k3 : Nat} (hb : Below w.heap.size w W) (R1 : Rd W W.heap.size A1 c1 (digs x.natAbs)) (S1 : Rd W W.heap.size B1 k1 (digs a)) (R2 : Rd W W.heap.size A2 c2 (digs y.natAbs)) (S2 : Rd W W.heap.size B2 k2 (digs b))
    (R3 : Rd W W.heap.size A3 c3 (digs z.natAbs)) (S3 : Rd W W.heap.size B3 k3 (digs c)) :
    Tri w (((W.alloc (.cells #[.bool (decide (x < 0)), .slice A1 (digs x.natAbs).length c1, .bool false, .slice B1 (digs a).length k1] 50)).alloc (.cells #[.bool (decide (y < 0)), .slice A2 (digs y.natAbs).length c2, .bool false, .slice B2 (digs b).length k2] 50)).alloc (.cells #[.bool (decide (z < 0)), .slice A3 (digs z.natAbs).length c3, .bool false, .slice B3 (digs c).length k3] 50))
      W.heap.size x y z a b c A1 c1 B1 k1 A2 c2 B2 k2 A3 c3 B3 k3 := by
  have h1 := (Below.refl W.heap.size W).alloc (Nat.le_refl _) (.cells #[.bool (decide (x < 0)), .slice A1 (digs x.natAbs).length c1, .bool false, .slice B1 (digs a).length k1] 50)
  have f1 := fat_new R1 S1
  obtain ⟨U1, hU1⟩ : ∃ U1, U1 = W.alloc (.cells #[.bool (decide (x < 0)), .slice A1 (digs x.natAbs).length c1, .bool false, .slice B1 (digs a).length k1] 50) := ⟨_, rfl⟩
  have z1 : U1.heap.size = W.heap.size + 1 := by rw [hU1]; simp
  rw [← hU1] at h1 f1 ⊢
  have f2 := fat_new ((R2.below h1).more h1.size) ((S2.below h1).more h1.size)
  have h2 := (Below.refl U1.heap.size U1).alloc (Nat.le_refl _) (.cells #[.bool (decide (y < 0)), .slice A2 (digs y.natAbs).length c2, .bool false, .slice B2 (digs b).length k2] 50)
  obtain ⟨U2, hU2⟩ : ∃ U2, U2 = U1.alloc (.cells #[.bool (decide (y < 0)), .slice A2 (digs y.natAbs).length c2, .bool false, .slice B2 (digs b).length k2] 50) := ⟨_, rfl⟩
  have z2 : U2.heap.size = W.heap.size + 1 + 1 := by rw [hU2]; simp; exact z1
  rw [← hU2] at f2 h2 ⊢
  have h12 := h1.trans (h2.mono h1.size)
  have f3 := fat_new ((R3.below h12).more h12.size) ((S3.below h12).more h12.size)
  have h3 := (Below.refl U2.heap.size U2).alloc (Nat.le_refl _) (.cells #[.bool (decide (z < 0)), .slice A3 (digs z.natAbs).length c3, .bool false, .slice B3 (digs c).length k3] 50)
  rw [z1] at f2
  rw [z2] at f3
  exact ⟨hb.trans ((h12.trans (h3.mono h12.size)).mono hb.size), (f1.after h2).after h3, f2.after h3, f3⟩

theorem held_two {a b c d e f g h i j k l : Prop} (H : a ∧ b ∧ c ∧ d ∧ e ∧ f ∧ g ∧ h ∧ i ∧ j ∧ k ∧ l) : a ∧ b ∧ c ∧ d ∧ e ∧ f ∧ g ∧ h :=
  ⟨H.1, H.2.1, H.2.2.1, H.2.2.2.1, H.2.2.2.2.1, H.2.2.2.2.2.1, H.2.2.2.2.2.2.1, H.2.2.2.2.2.2.2.1⟩

theorem sign_tdiv {N : Int} {g : Nat} (hg : 0 < g) (hd : g ∣ N.natAbs) : (N < 0 → N.tdiv (g : Int) < 0) ∧ (N = 0 → N.tdiv (g : Int) = 0) ∧ (0 < N → 0 < N.tdiv (g : Int)) := by
  obtain ⟨k, hk⟩ := hd
  have h1 : (N.tdiv (g : Int)).natAbs = k := by rw [Int.natAbs_tdiv, Int.natAbs_natCast]; show N.natAbs / g = k; rw [hk, Nat.mul_div_cancel_left _ hg]
  refine ⟨fun h => ?_, fun h => by rw [h]; simp, fun h => ?_⟩
  · have hk0 : k ≠ 0 := fun e => by rw [e, Nat.mul_zero] at hk; omega
    have : N.tdiv (g : Int) ≤ 0 := by
      have h2 := Int.neg_tdiv N (g : Int)
      have h3 : 0 ≤ (-N).tdiv (g : Int) := Int.tdiv_nonneg (by omega) (by omega)
      omega
    omega
  · have hk0 : k ≠ 0 := fun e => by rw [e, Nat.mul_zero] at hk; omega
    have : 0 ≤ N.tdiv (g : Int) := Int.tdiv_nonneg (by omega) (by omega)
    omega

theorem case_of {x y : Int} {a b : Nat} {X N M : Int} {s1 s2 : ByteArray} (Sx : Small x a) (Sy : Small y b) (hX : X = fw.order (x * b) (y * a)) (hN : N = x * (b : Int) + (-y) * (a : Int)) (hM : (N < 0 → M < 0) ∧ (N = 0 → M = 0) ∧ (0 < N → 0 < M))
    (h1 : s1 = hc.ba (textOf x a)) (h2 : s2 = hc.ba (textOf y b)) : (X = -1 ∧ M < 0 ∧ s1 ≠ s2) ∨ (X = 0 ∧ M = 0 ∧ s1 = s2) ∨ (X = 1 ∧ 0 < M ∧ s1 ≠ s2) := by
  have hv := order_vals (x * b) (y * a)
  rw [← hX] at hv
  have hN2 : N = x * (b : Int) - y * (a : Int) := by rw [hN, Int.neg_mul]; omega
  have hne : x * (b : Int) ≠ y * (a : Int) → s1 ≠ s2 := fun h e => by
    rw [h1, h2] at e
    obtain ⟨e1, e2⟩ := textOf_inj (ba_inj e)
    exact h (by rw [e1, e2])
  rcases hv with ⟨e, h⟩ | ⟨e, h⟩ | ⟨e, h⟩
  · exact Or.inl ⟨e, hM.1 (by omega), hne (by omega)⟩
  · obtain ⟨e1, e2⟩ := cross_eq Sx Sy h
    exact Or.inr (Or.inl ⟨e, hM.2.1 (by omega), by rw [h1, h2, e1, e2]⟩)
  · exact Or.inr (Or.inr ⟨e, hM.2.2 (by omega), hne (by omega)⟩)

theorem vals_of {x y z : Int} {a b d : Nat} {X Y Z : Int} (Sx : Small x a) (Sy : Small y b) (Sz : Small z d) (hX : X = fw.order (x * b) (y * a)) (hY : Y = fw.order (y * d) (z * b)) (hZ : Z = fw.order (x * d) (z * a)) :
    (-1 ≤ X ∧ X ≤ 1) ∧ (X ≤ 0 → Y ≤ 0 → Z ≤ 0) ∧ (X < 0 → Y ≤ 0 → Z < 0) := by
  have h1 := order_vals (x * b) (y * a)
  have h2 := order_vals (y * d) (z * b)
  have h3 := order_vals (x * d) (z * a)
  rw [← hX] at h1
  rw [← hY] at h2
  rw [← hZ] at h3
  refine ⟨by omega, fun hx hy => ?_, fun hx hy => ?_⟩
  · have := (cross_trans Sy.d0 Sx.d0 Sz.d0 (by omega : x * b ≤ y * a) (by omega : y * d ≤ z * b)).1
    omega
  · have := (cross_trans Sy.d0 Sx.d0 Sz.d0 (by omega : x * b ≤ y * a) (by omega : y * d ≤ z * b)).2 (by omega)
    omega

set_option maxRecDepth 100000 in
set_option maxHeartbeats 8000000 in
theorem ordered_any (w : World) (A : Option Addr) (c : Nat) (l : List Nat) (S : Seeds w w.heap.size A c l) (hl : l.length ≤ maxLen) (hT : Tabs w) (hP : Pow w) :
    Calls Tryd.prog 7 #[.slice A l.length c] w fun e w' => e = .returned (.bool true) ∧ Below w.heap.size w w' := by
  go_enter Tryd.func7, Tryd.ntmps7
  have HS := Lib.hid S
  clear S
  go_wp2_with fail
  refine (sane_any w hT hP).mono ?_
  rintro _ W1 ⟨rfl, hb1⟩
  go_wp2_with fail
  refine (new_any W1 A c l ((HS.out.below hb1).more hb1.size) hl).mono ?_
  rintro _ W2 ⟨rfl, hD2, hb2⟩
  obtain ⟨l2, hl2⟩ : ∃ l2, l2 = l.take 300 := ⟨_, rfl⟩
  rw [← hl2] at hD2
  clear hl2
  have H2 := Lib.hid (hb1.trans (hb2.mono hb1.size))
  have Hg : w.heap.size ≤ W1.heap.size := hb1.size
  generalize W1.heap.size = g at *
  clear hb1 hb2
  go_wp2_with fail
  refine (diceFraction_any W2 g l2 0 hD2).mono ?_
  rintro _ W3 ⟨v3, x, a, k3, rfl, hI3, hSx, hD3, hK3⟩
  go_wp2_with fail
  refine (diceFraction_any W3 g l2 k3 hD3).mono ?_
  rintro _ W4 ⟨v4, y, b, k4, rfl, hI4, hSy, hD4, hK4⟩
  go_wp2_with fail
  refine (diceFraction_any W4 g l2 k4 hD4).mono ?_
  rintro _ W5 ⟨v5, z, d, k5, rfl, hI5, hSz, hD5, hK5⟩
  have h5 : Below w.heap.size w W5 := H2.out.trans (((hK3.trans hK4).trans hK5).bel.mono Hg)
  obtain ⟨A1, c1, B1, e1, rfl, R1, S1⟩ := isFrac_kept hI3 (hK4.trans hK5)
  obtain ⟨A2, c2, B2, e2, rfl, R2, S2⟩ := isFrac_kept hI4 hK5
  obtain ⟨A3, c3, B3, e3, rfl, R3, S3⟩ := hI5
  have T5 := tri_new h5 R1 S1 R2 S2 R3 S3
  have HX := Lib.hid (And.intro hSx (And.intro hSy hSz))
  clear hI3 hI4 hK3 hK4 hK5 hD2 hD3 hD4 hD5 hSx hSy hSz R1 S1 R2 S2 R3 S3 h5 H2
  go_upto_region 5 with fail
  obtain ⟨W6, hW6⟩ : ∃ W6, W6 = (((W5.alloc (.cells #[.bool (decide (x < 0)), .slice A1 (digs x.natAbs).length c1, .bool false, .slice B1 (digs a).length e1] 50)).alloc (.cells #[.bool (decide (y < 0)), .slice A2 (digs y.natAbs).length c2, .bool false, .slice B2 (digs b).length e2] 50)).alloc (.cells #[.bool (decide (z < 0)), .slice A3 (digs z.natAbs).length c3, .bool false, .slice B3 (digs d).length e3] 50)) := ⟨_, rfl⟩
  rw [← hW6] at T5 ⊢
  clear hW6
  have H6 := Lib.hid T5
  obtain ⟨p0, p1, p2, p3, q0, q1, q2, q3, r0, r1, r2, r3⟩ := T5.held
  clear T5
  generalize W5.heap.size = gt at *
  obtain ⟨X, hX⟩ : ∃ X, X = fw.order (x * b) (y * a) := ⟨_, rfl⟩
  obtain ⟨Y, hY⟩ : ∃ Y, Y = fw.order (y * d) (z * b) := ⟨_, rfl⟩
  obtain ⟨Z, hZ⟩ : ∃ Z, Z = fw.order (x * d) (z * a) := ⟨_, rfl⟩
  have HXYZ := Lib.hid (And.intro hX (And.intro hY hZ))
  clear hX hY hZ
  go_cut [7, 8, 9] (fun s7 s8 s9 wx => s7 = .int .i64 X ∧ s8 = .int .i64 Y ∧ s9 = .int .i64 Z ∧ Tri w wx gt x y z a b d A1 c1 B1 e1 A2 c2 B2 e2 A3 c3 B3 e3)
  case first =>
    go_region_held3 (fun w' => w'.cell? ⟨gt, 0, none⟩ = some (.bool (decide (x < 0))) ∧ w'.cell? ⟨gt, 1, none⟩ = some (.slice A1 (digs x.natAbs).length c1) ∧ w'.cell? ⟨gt, 2, none⟩ = some (.bool false) ∧ w'.cell? ⟨gt, 3, none⟩ = some (.slice B1 (digs a).length e1) ∧ w'.cell? ⟨gt + 1, 0, none⟩ = some (.bool (decide (y < 0))) ∧ w'.cell? ⟨gt + 1, 1, none⟩ = some (.slice A2 (digs y.natAbs).length c2) ∧ w'.cell? ⟨gt + 1, 2, none⟩ = some (.bool false) ∧ w'.cell? ⟨gt + 1, 3, none⟩ = some (.slice B2 (digs b).length e2) ∧ w'.cell? ⟨gt + 1 + 1, 0, none⟩ = some (.bool (decide (z < 0))) ∧ w'.cell? ⟨gt + 1 + 1, 1, none⟩ = some (.slice A3 (digs z.natAbs).length c3) ∧ w'.cell? ⟨gt + 1 + 1, 2, none⟩ = some (.bool false) ∧ w'.cell? ⟨gt + 1 + 1, 3, none⟩ = some (.slice B3 (digs d).length e3))
      (first | with_reducible exact H6.out.held | with_reducible exact H6.out.draw.held | with_reducible exact H7.out.held | with_reducible exact H8.out.held | with_reducible exact H9.out.held)
      (first
        | (have h8 := H8; go_at_call 38; refine (cmpFrac_any _ _ _ x z a d H8.out.fa.frac H8.out.fc.frac HX.out.1.fine HX.out.2.2.fine (hT.below H8.out.bel)).mono ?_; rintro _ W9 ⟨rfl, hb9⟩
           rw [← HXYZ.out.2.2]
           have H9 := Lib.hid (H8.out.after hb9)
           clear hb9 h8)
        | (have h7 := H7; go_at_call 38; refine (cmpFrac_any _ _ _ y z b d H7.out.fb.frac H7.out.fc.frac HX.out.2.1.fine HX.out.2.2.fine (hT.below H7.out.bel)).mono ?_; rintro _ W8 ⟨rfl, hb8⟩
           rw [← HXYZ.out.2.1]
           have H8 := Lib.hid (H7.out.after hb8)
           clear hb8 h7)
        | (go_at_call 38; refine (cmpFrac_any _ _ _ x y a b H6.out.draw.fa.frac H6.out.draw.fb.frac HX.out.1.fine HX.out.2.1.fine (hT.below H6.out.draw.bel)).mono ?_; rintro _ W7 ⟨rfl, hb7⟩
           rw [← HXYZ.out.1]
           have H7 := Lib.hid (H6.out.draw.after hb7)
           clear hb7))
    all_goals (go_wp2_with fail; go_meet; exact ⟨rfl, rfl, rfl, H9.out⟩)
  case rest =>
  obtain ⟨rfl, rfl, rfl, T10⟩ := hcut
  have H10 := Lib.hid T10
  clear T10 H6 p0 p1 p2 p3 q0 q1 q2 q3 r0 r1 r2 r3
  go_upto_region 6 with fail
  go_cut [67] (fun s67 wx => s67 = .bool false ∧ Tri w wx gt x y z a b d A1 c1 B1 e1 A2 c2 B2 e2 A3 c3 B3 e3)
  case first =>
    obtain ⟨p0, p1, p2, p3, q0, q1, q2, q3, r0, r1, r2, r3⟩ := H10.out.held
    clear r0 r1 r2 r3
    go_wp2_with fail
    refine (cmpFrac_any _ _ _ y x b a H10.out.fb.frac H10.out.fa.frac HX.out.2.1.fine HX.out.1.fine (hT.below H10.out.bel)).mono ?_
    rintro _ W7 ⟨rfl, hb7⟩
    rw [order_neg (x * b) (y * a), ← HXYZ.out.1]
    have H7 := Lib.hid (H10.out.after hb7)
    clear hb7 p0 p1 p2 p3 q0 q1 q2 q3
    obtain ⟨p0, p1, p2, p3, q0, q1, q2, q3, r0, r1, r2, r3⟩ := H7.out.held
    clear r0 r1 r2 r3 q0 q1 q2 q3
    have HV := Lib.hid (vals_of HX.out.1 HX.out.2.1 HX.out.2.2 HXYZ.out.1 HXYZ.out.2.1 HXYZ.out.2.2)
    have hXb : -1 ≤ X ∧ X ≤ 1 := HV.out.1
    go_wp2_with fail
    refine (cmpFrac_any _ _ _ x x a a H7.out.fa.frac H7.out.fa.frac HX.out.1.fine HX.out.1.fine (hT.below H7.out.bel)).mono ?_
    rintro _ W8 ⟨rfl, hb8⟩
    rw [order_self]
    have H8 := Lib.hid (H7.out.after hb8)
    clear hb8 p0 p1 p2 p3
    have hZ1 := HV.out.2.1
    have hZ2 := HV.out.2.2
    by_cases hx0 : X ≤ 0
    · by_cases hy0 : Y ≤ 0
      · have hz0 : Z ≤ 0 := hZ1 hx0 hy0
        by_cases hxn : X < 0
        · have hz1 : Z < 0 := hZ2 hxn hy0
          clear hZ1 hZ2
          go_wp2_with fail
          go_meet
          exact ⟨by rw [decide_eq_false (by omega), decide_eq_false (by omega)]; rfl, H8.out⟩
        · clear hZ1 hZ2
          go_wp2_with fail
          go_meet
          exact ⟨by rw [decide_eq_false (by omega)], H8.out⟩
      · by_cases hxn : X < 0
        · clear hZ1 hZ2
          go_wp2_with fail
          go_meet
          exact ⟨rfl, H8.out⟩
        · clear hZ1 hZ2
          go_wp2_with fail
          go_meet
          exact ⟨rfl, H8.out⟩
    · have hxn : ¬ X < 0 := by omega
      clear hZ1 hZ2
      go_wp2_with fail
      go_meet
      exact ⟨rfl, H8.out⟩
  case rest =>
  obtain ⟨rfl, T11⟩ := hcut
  have H11 := Lib.hid T11
  clear T11 H10
  obtain ⟨p0, p1, p2, p3, q0, q1, q2, q3, r0, r1, r2, r3⟩ := H11.out.held
  clear r0 r1 r2 r3
  go_wp2_with fail
  refine (subFrac_any _ _ _ x y a b H11.out.fa.frac H11.out.fb.frac HX.out.1.fine HX.out.2.1.fine (hT.below H11.out.bel)).mono ?_
  rintro _ W12 hF
  obtain ⟨N, hN⟩ : ∃ N, N = x * (b : Int) + (-y) * (a : Int) := ⟨_, rfl⟩
  rw [← hN] at hF
  have hNl : (digs N.natAbs).length ≤ 9 := by
    rw [hN]
    exact len_add 8 (len_mul 4 4 HX.out.1.hz (by simpa using HX.out.2.1.hd)) (len_mul 4 4 (by rw [Int.natAbs_neg]; exact HX.out.2.1.hz) (by simpa using HX.out.1.hd))
  have hDl : (digs (a * b)).length ≤ 8 := by
    have := len_mul 4 4 (x := (a : Int)) (y := (b : Int)) (by simpa using HX.out.1.hd) (by simpa using HX.out.2.1.hd)
    rwa [← Int.natCast_mul, Int.natAbs_natCast] at this
  have hfit : fits (N.tdiv (Nat.gcd N.natAbs (a * b) : Nat)) (a * b / Nat.gcd N.natAbs (a * b)) = true := by
    unfold fits
    rw [decide_eq_true, decide_eq_true]
    · rfl
    · exact Nat.le_trans (len_mono (Nat.div_le_self _ _)) (by omega)
    · refine Nat.le_trans (len_mono (n := N.natAbs) ?_) (by omega)
      rw [Int.natAbs_tdiv, Int.natAbs_natCast]
      exact Nat.div_le_self _ _
  obtain ⟨A4, c4, B4, e4, M, E, rfl, R4, S4, hb12, HM⟩ := low_open hF rfl rfl hfit
  have hg0 : 0 < Nat.gcd N.natAbs (a * b) := Nat.gcd_pos_of_pos_right _ (Nat.mul_pos (by have := HX.out.1.d0; omega) (by have := HX.out.2.1.d0; omega))
  have hsign := sign_tdiv (N := N) hg0 (Nat.gcd_dvd_left _ _)
  rw [← HM.out.1] at hsign
  have HN := Lib.hid (And.intro hN hsign)
  clear hF hN hNl hDl hfit hg0 hsign p0 p1 p2 p3 q0 q1 q2 q3
  go_upto_region 9 with fail
  have T13 := (H11.out.after hb12).after ((Below.refl W12.heap.size W12).alloc (Nat.le_refl _) (.cells #[.bool (decide (M < 0)), .slice A4 (digs M.natAbs).length c4, .bool false, .slice B4 (digs E).length e4] 50))
  have F13 := fat_new R4 S4
  obtain ⟨W13, hW13⟩ : ∃ W13, W13 = W12.alloc (.cells #[.bool (decide (M < 0)), .slice A4 (digs M.natAbs).length c4, .bool false, .slice B4 (digs E).length e4] 50) := ⟨_, rfl⟩
  rw [← hW13] at T13 F13 ⊢
  generalize W12.heap.size = g10 at *
  have H13 := Lib.hid (And.intro T13 F13)
  have t0 := F13.c0
  have t1 := F13.c1
  obtain ⟨p0, p1, p2, p3, q0, q1, q2, q3, r0, r1, r2, r3⟩ := T13.held
  clear r0 r1 r2 r3 hW13 T13 F13 R4 S4 hb12 H11
  obtain ⟨s1, hs1⟩ : ∃ s1, s1 = hc.ba (textOf x a) := ⟨_, rfl⟩
  obtain ⟨s2, hs2⟩ : ∃ s2, s2 = hc.ba (textOf y b) := ⟨_, rfl⟩
  have HT := Lib.hid (And.intro hs1 hs2)
  clear hs1 hs2
  have hcase : (X = -1 ∧ M < 0 ∧ s1 ≠ s2) ∨ (X = 0 ∧ M = 0 ∧ s1 = s2) ∨ (X = 1 ∧ 0 < M ∧ s1 ≠ s2) := case_of HX.out.1 HX.out.2.1 HXYZ.out.1 HN.out.1 HN.out.2 HT.out.1 HT.out.2
  rcases hcase with ⟨rfl, hM, hss⟩ | ⟨rfl, hM, hss⟩ | ⟨rfl, hM, hss⟩
  · rw [decide_eq_true hM] at t0
    have HSS := Lib.hid hss
    clear hM hss
    go_wp2_with fail
    go_region_held3 (fun w' => w'.cell? ⟨gt, 0, none⟩ = some (.bool (decide (x < 0))) ∧ w'.cell? ⟨gt, 1, none⟩ = some (.slice A1 (digs x.natAbs).length c1) ∧ w'.cell? ⟨gt, 2, none⟩ = some (.bool false) ∧ w'.cell? ⟨gt, 3, none⟩ = some (.slice B1 (digs a).length e1) ∧ w'.cell? ⟨gt + 1, 0, none⟩ = some (.bool (decide (y < 0))) ∧ w'.cell? ⟨gt + 1, 1, none⟩ = some (.slice A2 (digs y.natAbs).length c2) ∧ w'.cell? ⟨gt + 1, 2, none⟩ = some (.bool false) ∧ w'.cell? ⟨gt + 1, 3, none⟩ = some (.slice B2 (digs b).length e2))
      (first | with_reducible exact held_two H13.out.1.held | with_reducible exact held_two H13.out.1.draw.held | with_reducible exact held_two H14.out.held | with_reducible exact held_two H15.out.held)
      (first
        | (have h14 := H14; go_at_call 39; refine (text_any _ _ y b H14.out.fb.frac HX.out.2.1.fine (hT.below H14.out.bel) (hP.below H14.out.bel)).mono ?_; rintro _ W15 ⟨rfl, hb15⟩
           rw [← HT.out.2]
           have H15 := Lib.hid (H14.out.after hb15)
           clear hb15 h14)
        | (go_at_call 39; refine (text_any _ _ x a H13.out.1.draw.fa.frac HX.out.1.fine (hT.below H13.out.1.draw.bel) (hP.below H13.out.1.draw.bel)).mono ?_; rintro _ W14 ⟨rfl, hb14⟩
           rw [← HT.out.1]
           have H14 := Lib.hid (H13.out.1.draw.after hb14)
           clear hb14))
    go_wp2_with fail
    go_ret
    refine ⟨?_, H15.out.bel⟩
    have hq : (s1.toList == s2.toList) = false := beq_eq_false_iff_ne.2 (fun e => HSS.out (toList_inj e))
    show Ending.returned (.bool (!(s1.toList == s2.toList))) = _
    rw [hq]
    rfl
  · rw [decide_eq_false (by omega)] at t0
    have z1 : (((digs M.natAbs).length : Int) == 0) = true := by rw [hM]; rfl
    subst hss
    clear hM
    go_wp2_with fail
    go_region_held3 (fun w' => w'.cell? ⟨gt, 0, none⟩ = some (.bool (decide (x < 0))) ∧ w'.cell? ⟨gt, 1, none⟩ = some (.slice A1 (digs x.natAbs).length c1) ∧ w'.cell? ⟨gt, 2, none⟩ = some (.bool false) ∧ w'.cell? ⟨gt, 3, none⟩ = some (.slice B1 (digs a).length e1) ∧ w'.cell? ⟨gt + 1, 0, none⟩ = some (.bool (decide (y < 0))) ∧ w'.cell? ⟨gt + 1, 1, none⟩ = some (.slice A2 (digs y.natAbs).length c2) ∧ w'.cell? ⟨gt + 1, 2, none⟩ = some (.bool false) ∧ w'.cell? ⟨gt + 1, 3, none⟩ = some (.slice B2 (digs b).length e2))
      (first | with_reducible exact held_two H13.out.1.held | with_reducible exact held_two H13.out.1.draw.held | with_reducible exact held_two H14.out.held | with_reducible exact held_two H15.out.held)
      (first
        | (have h14 := H14; go_at_call 39; refine (text_any _ _ y b H14.out.fb.frac HX.out.2.1.fine (hT.below H14.out.bel) (hP.below H14.out.bel)).mono ?_; rintro _ W15 ⟨rfl, hb15⟩
           rw [← HT.out.2]
           have H15 := Lib.hid (H14.out.after hb15)
           clear hb15 h14)
        | (go_at_call 39; refine (text_any _ _ x a H13.out.1.draw.fa.frac HX.out.1.fine (hT.below H13.out.1.draw.bel) (hP.below H13.out.1.draw.bel)).mono ?_; rintro _ W14 ⟨rfl, hb14⟩
           rw [← HT.out.1]
           have H14 := Lib.hid (H13.out.1.draw.after hb14)
           clear hb14))
    go_wp2_with fail
    go_ret
    exact ⟨rfl, H15.out.bel⟩
  · rw [decide_eq_false (by omega)] at t0
    have z1 : (((digs M.natAbs).length : Int) == 0) = false := by
      have hne : (digs M.natAbs).length ≠ 0 := fun e => by have := digs_len_zero.1 e; omega
      exact beq_eq_false_iff_ne.2 (by omega)
    have HSS := Lib.hid hss
    clear hM hss
    go_wp2_with fail
    go_region_held3 (fun w' => w'.cell? ⟨gt, 0, none⟩ = some (.bool (decide (x < 0))) ∧ w'.cell? ⟨gt, 1, none⟩ = some (.slice A1 (digs x.natAbs).length c1) ∧ w'.cell? ⟨gt, 2, none⟩ = some (.bool false) ∧ w'.cell? ⟨gt, 3, none⟩ = some (.slice B1 (digs a).length e1) ∧ w'.cell? ⟨gt + 1, 0, none⟩ = some (.bool (decide (y < 0))) ∧ w'.cell? ⟨gt + 1, 1, none⟩ = some (.slice A2 (digs y.natAbs).length c2) ∧ w'.cell? ⟨gt + 1, 2, none⟩ = some (.bool false) ∧ w'.cell? ⟨gt + 1, 3, none⟩ = some (.slice B2 (digs b).length e2))
      (first | with_reducible exact held_two H13.out.1.held | with_reducible exact held_two H13.out.1.draw.held | with_reducible exact held_two H14.out.held | with_reducible exact held_two H15.out.held)
      (first
        | (have h14 := H14; go_at_call 39; refine (text_any _ _ y b H14.out.fb.frac HX.out.2.1.fine (hT.below H14.out.bel) (hP.below H14.out.bel)).mono ?_; rintro _ W15 ⟨rfl, hb15⟩
           rw [← HT.out.2]
           have H15 := Lib.hid (H14.out.after hb15)
           clear hb15 h14)
        | (go_at_call 39; refine (text_any _ _ x a H13.out.1.draw.fa.frac HX.out.1.fine (hT.below H13.out.1.draw.bel) (hP.below H13.out.1.draw.bel)).mono ?_; rintro _ W14 ⟨rfl, hb14⟩
           rw [← HT.out.1]
           have H14 := Lib.hid (H13.out.1.draw.after hb14)
           clear hb14))
    go_wp2_with fail
    go_ret
    refine ⟨?_, H15.out.bel⟩
    have hq : (s1.toList == s2.toList) = false := beq_eq_false_iff_ne.2 (fun e => HSS.out (toList_inj e))
    show Ending.returned (.bool (!(s1.toList == s2.toList))) = _
    rw [hq]
    rfl

end Go.Proofs.YtfnfnagdecpobaaDoor.kb
