/- lists of texts: IsSet of the program and of the reference, Same. -/
import Derived.Test.YtgmnjiiommbjaaaBv
import Derived.Test.YtgmnjiiommbjaaaBk
import Derived.Test.YtgmnjiiommbjaaaBa
import Derived.Shelf.SlSorted.Search
import Derived.Sort.Walk0
set_option linter.unusedVariables false
set_option linter.unusedSimpArgs false
namespace Go.Proofs.Ytgmnjiiommbjaaa.tx
open Go.RowKit Go.Proofs.Ytgmnjiiommbjaaa.txt

/-- the value v holds the texts xs, in a block below B -/
def Strs (w : World) (B : Nat) (v : Value) (xs : List (List UInt8)) : Prop :=
  (xs = [] ∧ ∃ a cap, v = .slice a 0 cap) ∨ ∃ b off cap, v = .slice (some ⟨b, off, none⟩) xs.length cap ∧ b < B ∧ ∀ (j : Nat) (x : List UInt8), xs[j]? = some x → w.cell? ⟨b, off + j, none⟩ = some (encStr x)

theorem Strs.below {w w' : World} {B : Nat} {v : Value} {xs : List (List UInt8)} (h : Strs w B v xs) (hb : Below B w w') : Strs w' B v xs := by
  rcases h with h | ⟨b, off, cap, hv, hlt, hc⟩
  · exact .inl h
  · exact .inr ⟨b, off, cap, hv, hlt, fun j x hx => (hb.cell (p := ⟨b, off + j, none⟩) hlt).trans (hc j x hx)⟩
theorem Strs.more {w : World} {B B' : Nat} {v : Value} {xs : List (List UInt8)} (h : Strs w B v xs) (hB : B ≤ B') : Strs w B' v xs := by
  rcases h with h | ⟨b, off, cap, hv, hlt, hc⟩
  · exact .inl h
  · exact .inr ⟨b, off, cap, hv, by omega, hc⟩
/-- the parts that a walk needs -/
theorem Strs.parts {w : World} {B : Nat} {v : Value} {xs : List (List UInt8)} (h : Strs w B v xs) : ∃ a cap, v = .slice a xs.length cap ∧
    (xs.length ≠ 0 → ∃ b off, a = some ⟨b, off, none⟩ ∧ b < B ∧ ∀ (j : Nat) (x : List UInt8), xs[j]? = some x → w.cell? ⟨b, off + j, none⟩ = some (.string ⟨x.toArray⟩)) := by
  rcases h with ⟨rfl, a, cap, rfl⟩ | ⟨b, off, cap, hv, hlt, hc⟩
  · exact ⟨a, cap, rfl, fun h => absurd rfl h⟩
  · exact ⟨some ⟨b, off, none⟩, cap, hv, fun _ => ⟨b, off, rfl, hlt, hc⟩⟩

/-- the world in which some orders have been drawn -/
def Drew (w w' : World) : Prop := ∃ m, w' = w.drewN m
theorem Drew.refl (w : World) : Drew w w := ⟨0, rfl⟩
theorem Drew.more {w : World} (m n : Nat) : Drew w ((w.drewN m).drewN n) := ⟨m + n, by simp [World.drewN, Nat.add_assoc]⟩
theorem Drew.more1 {w : World} (m : Nat) : Drew w (w.drewN m) := ⟨m, rfl⟩
theorem Drew.below {w w' : World} (h : Drew w w') (B : Nat) : Below B w w' := by
  obtain ⟨m, rfl⟩ := h
  exact sane.below_q (Below.refl _ _) m


theorem geq_str (x y : List UInt8) : (!(Op.bytesLess (⟨x.toArray⟩ : ByteArray).toList (⟨y.toArray⟩ : ByteArray).toList)) = !(decide (x < y)) := by
  rw [bytesLess_eq]
  simp [ByteArray.toList_eq]
theorem neq_str (x y : List UInt8) : ((⟨x.toArray⟩ : ByteArray).toList == (⟨y.toArray⟩ : ByteArray).toList) = decide (x = y) := by
  simp [ByteArray.toList_eq, Bool.beq_eq_decide_eq]

set_option maxRecDepth 100000 in
set_option maxHeartbeats 1000000 in
theorem isSet_any (v : Value) (xs : List (List UInt8)) (w : World) (h : Strs w w.heap.size v xs) (hl : xs.length ≤ 1000000) :
    Calls Try.prog 40 #[v] w fun e w' => e = .returned (.bool (ascB xs)) ∧ Drew w w' := by
  obtain ⟨a, cap, rfl, hp⟩ := h.parts
  go_enter Try.func40, Try.ntmps40
  go_wp2
  go_loopw [6] (fun i wr => ∃ k : Nat, i = .int .i64 (k : Int) ∧ k ≤ xs.length ∧ ascTo xs k ∧ Drew w wr) (fun i _ => xs.length - (intOf i).toNat)
  case atStart => exact ⟨0, rfl, Nat.zero_le _, fun i hi => by omega, Drew.refl _⟩
  case round =>
    obtain ⟨k, rfl, hk, hasc, m, rfl⟩ := hrel
    by_cases hkl : k < xs.length
    · obtain ⟨b, off, rfl, hlt, hc⟩ := hp (by omega)
      cases k with
      | zero =>
        rw [show ((0 : Nat) : Int) = 0 from rfl]
        go_wp2
        go_quiet (fail)
        go_wp2
        go_roundw
        case rel => exact ⟨1, rfl, by omega, fun i hi => by omega, by first | exact Drew.more _ _ | exact ⟨_, rfl⟩ | exact Drew.refl _⟩
        case measure => simp [intOf] <;> omega
      | succ k =>
        obtain ⟨x, hx⟩ : ∃ x, xs[k]? = some x := ⟨_, List.getElem?_eq_getElem (by omega)⟩
        obtain ⟨y, hy⟩ : ∃ y, xs[k + 1]? = some y := ⟨_, List.getElem?_eq_getElem hkl⟩
        have cx := hc _ _ hx
        have cy := hc _ _ hy
        have hxy : xs[k]! = x ∧ xs[k + 1]! = y := by rw [getElem!_def, getElem!_def, hx, hy]; exact ⟨rfl, rfl⟩
        have e1 : ((k + 1 : Nat) : Int) = (k : Int) + 1 := by omega
        rw [e1]
        by_cases hlt : x < y
        · have hg : Op.bytesLess x y = true := by rw [bytesLess_eq]; simp [hlt]
          have hasc' : ascTo xs (k + 1 + 1) := by
            intro i hi
            by_cases e : i = k
            · subst e; rw [hxy.1, hxy.2]; exact hlt
            · exact hasc i (by omega)
          clear hx hy hxy hc hp
          go_wp2
          go_quiet (fail)
          go_wp2
          go_roundw
          case rel => exact ⟨k + 1 + 1, by exact congrArg _ (by omega), by omega, hasc', by first | exact Drew.more _ _ | exact ⟨_, rfl⟩ | exact Drew.refl _⟩
          case measure => simp [intOf] <;> omega
        · have hg : Op.bytesLess x y = false := by rw [bytesLess_eq]; simp [hlt]
          have hf : ascB xs = false := ascB_false hkl (by rw [hxy.1, hxy.2]; exact hlt)
          clear hx hy hxy hc hp
          go_wp2
          go_quiet (fail)
          go_wp2
          go_ret
          exact ⟨by rw [hf]; rfl, by first | exact Drew.more _ _ | exact ⟨_, rfl⟩ | exact Drew.refl _⟩
    · obtain rfl : k = xs.length := by omega
      go_wp2
      go_ret
      exact ⟨by rw [(ascB_iff xs).2 hasc]; rfl, by first | exact Drew.more _ _ | exact ⟨_, rfl⟩ | exact Drew.refl _⟩

set_option maxRecDepth 100000 in
set_option maxHeartbeats 1000000 in
theorem refIsSet_any (v : Value) (xs : List (List UInt8)) (w : World) (h : Strs w w.heap.size v xs) (hl : xs.length ≤ 1000000) :
    Calls Try.prog 42 #[v] w fun e w' => e = .returned (.bool (ascB xs)) ∧ Drew w w' := by
  obtain ⟨a, cap, rfl, hp⟩ := h.parts
  go_enter Try.func42, Try.ntmps42
  go_wp2
  go_loopw [3] (fun i wr => ∃ k : Nat, i = .int .i64 ((k : Int) + 1) ∧ k ≤ xs.length ∧ ascTo xs (k + 1) ∧ Drew w wr) (fun i _ => xs.length + 1 - (intOf i).toNat)
  case atStart => exact ⟨0, rfl, Nat.zero_le _, fun i hi => by omega, Drew.refl _⟩
  case round =>
    obtain ⟨k, rfl, hk, hasc, m, rfl⟩ := hrel
    by_cases hkl : k + 1 < xs.length
    · obtain ⟨b, off, rfl, hlt, hc⟩ := hp (by omega)
      obtain ⟨x, hx⟩ : ∃ x, xs[k]? = some x := ⟨_, List.getElem?_eq_getElem (by omega)⟩
      obtain ⟨y, hy⟩ : ∃ y, xs[k + 1]? = some y := ⟨_, List.getElem?_eq_getElem hkl⟩
      have cx := hc _ _ hx
      have cy := hc _ _ hy
      have hxy : xs[k]! = x ∧ xs[k + 1]! = y := by rw [getElem!_def, getElem!_def, hx, hy]; exact ⟨rfl, rfl⟩
      by_cases hlt : x < y
      · have hg : Op.bytesLess x y = true := by rw [bytesLess_eq]; simp [hlt]
        have hasc' : ascTo xs (k + 1 + 1) := by
          intro i hi
          by_cases e : i = k
          · subst e; rw [hxy.1, hxy.2]; exact hlt
          · exact hasc i (by omega)
        clear hx hy hxy hc hp
        go_wp2
        go_quiet (fail)
        go_wp2
        go_roundw
        case rel => exact ⟨k + 1, by exact congrArg _ (by omega), by omega, hasc', by first | exact Drew.more _ _ | exact ⟨_, rfl⟩ | exact Drew.refl _⟩
        case measure => simp [intOf] <;> omega
      · have hg : Op.bytesLess x y = false := by rw [bytesLess_eq]; simp [hlt]
        have hf : ascB xs = false := ascB_false hkl (by rw [hxy.1, hxy.2]; exact hlt)
        clear hx hy hxy hc hp
        go_wp2
        go_quiet (fail)
        go_wp2
        go_ret
        exact ⟨by rw [hf]; rfl, by first | exact Drew.more _ _ | exact ⟨_, rfl⟩ | exact Drew.refl _⟩
    · have hasc' : ascTo xs xs.length := fun i hi => hasc i (by omega)
      go_wp2
      go_ret
      exact ⟨by rw [(ascB_iff xs).2 hasc']; rfl, by first | exact Drew.more _ _ | exact ⟨_, rfl⟩ | exact Drew.refl _⟩

theorem take_step {xs ys : List (List UInt8)} {k : Nat} {x y : List UInt8} (h : xs.take k = ys.take k) (hx : xs[k]? = some x) (hy : ys[k]? = some y) (e : x = y) : xs.take (k + 1) = ys.take (k + 1) := by
  rw [List.take_add_one, List.take_add_one, h, hx, hy, e]

end Go.Proofs.Ytgmnjiiommbjaaa.tx
