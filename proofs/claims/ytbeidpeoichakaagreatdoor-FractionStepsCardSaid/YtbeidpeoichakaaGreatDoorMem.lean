/- Words in memory: a slice that reads as words, and what the calls keep. -/
import Derived.Test.YtbeidpeoichakaaGreatDoorProg
import Derived.Test.YtbeidpeoichakaaGreatDoorFm
import Derived.WalkKit
import Derived.WalkSmall
import Derived.ProofKit
import Derived.OpenShut
import Derived.Lib.Hide
import Derived.Deep.RegionHeld3
import Derived.Deep.AppendLies
import Derived.Laws.OwnMore
import Derived.Deep.QuietTactic
import Derived.BigQuiet
import Derived.Laws.BitsAllLaws
namespace Go.Proofs.YtbeidpeoichakaaGreatDoor.mem
open Go.RowKit Go.Proofs.YtbeidpeoichakaaGreatDoor.fm

/-- words as values -/
def ws (l : List Nat) : List Value := l.map fun (n : Nat) => Value.int .u32 (n : Int)

theorem ws_length (l : List Nat) : (ws l).length = l.length := by simp [ws]
theorem ws_get (l : List Nat) (j : Nat) (h : j < l.length) : (ws l)[j]? = some (.int .u32 ((l.getD j 0 : Nat) : Int)) := by
  simp [ws, List.getD_eq_getElem?_getD, List.getElem?_eq_getElem h]
theorem ws_set (l : List Nat) (j x : Nat) : (ws l).set j (.int .u32 (x : Int)) = ws (l.set j x) := by simp [ws, List.map_set]
theorem ws_take (l : List Nat) (k : Nat) : (ws l).take k = ws (l.take k) := by simp [ws, List.map_take]
theorem ws_append (a b : List Nat) : ws (a ++ b) = ws a ++ ws b := by simp [ws]
theorem ws_oneCell (l : List Nat) : ∀ u ∈ ws l, u.oneCell' = true := by
  intro u hu
  simp only [ws, List.mem_map] at hu
  obtain ⟨n, _, rfl⟩ := hu
  rfl
theorem ws_replicate (n : Nat) : ws (List.replicate n 0) = List.replicate n (.int .u32 0) := by simp [ws]

/-- A slice at address A, with capacity c, reads as the words l, which lie below block B. -/
structure Rd (w : World) (B : Nat) (A : Option Addr) (c : Nat) (l : List Nat) : Prop where
  ok : ok l
  fit : l.length ≤ c
  cells : 0 < l.length → ∃ b off, A = some ⟨b, off, none⟩ ∧ b < B ∧ ∀ j, j < l.length → w.cell? ⟨b, off + j, none⟩ = some (.int .u32 ((l.getD j 0 : Nat) : Int))

theorem Rd.keep {w w' : World} {B : Nat} {A : Option Addr} {c : Nat} {l : List Nat} (h : Rd w B A c l) (hk : ∀ p : Addr, p.block < B → w'.cell? p = w.cell? p) : Rd w' B A c l :=
  ⟨h.ok, h.fit, fun hn => by
    obtain ⟨b, off, e, hb, hc⟩ := h.cells hn
    exact ⟨b, off, e, hb, fun j hj => (hk ⟨b, off + j, none⟩ hb).trans (hc j hj)⟩⟩
theorem Rd.more {w : World} {B B' : Nat} {A : Option Addr} {c : Nat} {l : List Nat} (h : Rd w B A c l) (hB : B ≤ B') : Rd w B' A c l :=
  ⟨h.ok, h.fit, fun hn => by
    obtain ⟨b, off, e, hb, hc⟩ := h.cells hn
    exact ⟨b, off, e, by omega, hc⟩⟩
theorem Rd.below {w w' : World} {B : Nat} {A : Option Addr} {c : Nat} {l : List Nat} (h : Rd w B A c l) (hb : Below B w w') : Rd w' B A c l := h.keep fun _ hp => hb.cell hp
theorem Rd.drewN {w : World} {B : Nat} {A : Option Addr} {c : Nat} {l : List Nat} (h : Rd w B A c l) (k : Nat) : Rd (w.drewN k) B A c l := h.keep fun _ _ => rfl
theorem Rd.nil (w : World) (B : Nat) (A : Option Addr) (c : Nat) : Rd w B A c [] := ⟨ok_nil, Nat.zero_le _, fun h => absurd h (by simp)⟩

/-- a beginning of a slice -/
theorem Rd.cut {w : World} {B : Nat} {A : Option Addr} {c : Nat} {l : List Nat} (h : Rd w B A c l) (k : Nat) : Rd w B A c (l.take k) :=
  ⟨ok_take h.ok k, Nat.le_trans (by simp; omega) h.fit, fun hn => by
    rw [List.length_take] at hn
    obtain ⟨b, off, e, hb, hc⟩ := h.cells (by omega)
    refine ⟨b, off, e, hb, fun j hj => ?_⟩
    rw [List.length_take] at hj
    rw [hc j (by omega), List.getD_eq_getElem?_getD, List.getD_eq_getElem?_getD, List.getElem?_take, if_pos (by omega)]⟩

/-- The value v owns the words l, in a block from base on. -/
abbrev Owns (base : Nat) (w : World) (v : Value) (l : List Nat) : Prop := w.ownsRow base 59 1 v l.length (ws l)

theorem own_rd {base : Nat} {w : World} {v : Value} {l : List Nat} (h : Owns base w v l) (ho : ok l) : ∃ A c, v = .slice A l.length c ∧ Rd w w.heap.size A c l := by
  rcases h.2 with ⟨hv, h0⟩ | ⟨g, cap, cur, hv, hb, hg, hn, hm, hs, ht⟩
  · have : l = [] := List.eq_nil_of_length_eq_zero h0
    subst this
    exact ⟨none, 0, hv, Rd.nil _ _ _ _⟩
  · refine ⟨some ⟨g, 0, none⟩, cap, hv, ho, hn, fun _ => ⟨g, 0, rfl, (Array.getElem?_eq_some_iff.1 hg).1, fun j hj => ?_⟩⟩
    subst hv
    have := h.cellAt j (by omega)
    rw [Nat.zero_add, this, ws_get l j hj]

/-- a beginning of what is owned -/
theorem own_cut {base : Nat} {w : World} {e : TypeId} {a : Option Addr} {n cap : Nat} {xs : List Value} (h : w.ownsRow base e 1 (.slice a n cap) n xs) (m : Nat) (hm : m ≤ n) (hz : a = none → n = 0) :
    w.ownsRow base e 1 (.slice a m cap) m (xs.take m) := by
  have hl := h.1
  refine ⟨by rw [List.length_take]; omega, ?_⟩
  rcases h.2 with ⟨hv, h0⟩ | ⟨g, cap', cur, hv, hb, hg, hn, hmx, hs, ht⟩
  · left
    injection hv with e1 e2 e3
    subst e1 e3
    have : m = 0 := by omega
    subst this
    exact ⟨rfl, rfl⟩
  · right
    injection hv with e1 e2 e3
    subst e1 e3
    refine ⟨g, cap, cur, rfl, hb, hg, by omega, hmx, hs, ?_⟩
    rw [← ht, List.take_take]
    congr 1
    omega

theorem own_words {base : Nat} {w : World} {a : Option Addr} {cap : Nat} {l : List Nat} (h : Owns base w (.slice a l.length cap) l) (m : Nat) (hm : m ≤ l.length) : Owns base w (.slice a (l.take m).length cap) (l.take m) := by
  have hz : a = none → l.length = 0 := by
    intro e
    rcases h.2 with ⟨_, h0⟩ | ⟨g, cap', cur, hv, _⟩
    · exact h0
    · rw [e] at hv; injection hv with e1 _ _; cases e1
  have h1 := own_cut h m hm hz
  rw [ws_take] at h1
  have e : (l.take m).length = m := by rw [List.length_take]; omega
  show w.ownsRow base _ 1 (.slice a (l.take m).length cap) (l.take m).length (ws (l.take m))
  rw [e]
  exact h1

theorem own_drewN {base : Nat} {w : World} {v : Value} {l : List Nat} (h : Owns base w v l) (k : Nat) : Owns base (w.drewN k) v l := h

/-- a block that has just been made -/
theorem own_new (w : World) (l : List Nat) (cs : Array Value) (hcs : cs = (ws l).toArray) (hm : l.length ≤ maxLen) :
    Owns w.heap.size (w.alloc (.cells cs 59)) (.slice (some ⟨w.heap.size, 0, none⟩) l.length l.length) l := by
  subst hcs
  have h := World.ownsRow_lit (e := 59) (size := 1) w (ws l).toArray l.length (Nat.le_refl _) hm (by simp [ws_length])
  simpa using h

theorem rd_new (w : World) (l : List Nat) (cs : Array Value) (hcs : cs = (ws l).toArray) (t : TypeId) (ho : ok l) : Rd (w.alloc (.cells cs t)) (w.heap.size + 1) (some ⟨w.heap.size, 0, none⟩) l.length l :=
  ⟨ho, Nat.le_refl _, fun _ => ⟨w.heap.size, 0, rfl, by omega, fun j hj => by
    subst hcs
    rw [cell_of_row _ w.heap.size (0 + j) _ t (0, 0) (heap_alloc_new w _), Nat.zero_add]
    simpa using ws_get l j hj⟩⟩

theorem own_cell {base : Nat} {w : World} {g n cap : Nat} {S : List Nat} (h : w.ownsRow base 59 1 (.slice (some ⟨g, 0, none⟩) n cap) n (ws S)) (j : Nat) (hj : j < n) :
    w.cell? ⟨g, j, none⟩ = some (.int .u32 ((S.getD j 0 : Nat) : Int)) := by
  have hl := h.1
  rw [ws_length] at hl
  rw [h.cellAt j (by omega), ws_get S j (by omega)]

theorem own_set {base : Nat} {w : World} {g n cap : Nat} {S : List Nat} (h : w.ownsRow base 59 1 (.slice (some ⟨g, 0, none⟩) n cap) n (ws S)) (j x : Nat) (v : Int) (hv : v = (x : Int)) :
    (w.setCell ⟨g, j, none⟩ (.int .u32 v)).ownsRow base 59 1 (.slice (some ⟨g, 0, none⟩) n cap) n (ws (S.set j x)) := by
  subst hv
  have := (h.stored j (.int .u32 (x : Int))).1
  rwa [ws_set] at this

theorem own_len {base : Nat} {w : World} {v : Value} {n : Nat} {S : List Nat} (h : w.ownsRow base 59 1 v n (ws S)) : S.length = n := by
  have hl := h.1
  rw [ws_length] at hl
  omega

/-- what trim leaves of what is owned -/
theorem own_trim {base : Nat} {w : World} {g n cap : Nat} {S : List Nat} (h : w.ownsRow base 59 1 (.slice (some ⟨g, 0, none⟩) n cap) n (ws S)) (k : Nat) (hk : k ≤ n) :
    w.ownsRow base 59 1 (.slice (some ⟨g, 0, none⟩) k cap) k (ws (S.take k)) := by
  have := own_cut h k hk (fun e => by cases e)
  rwa [ws_take] at this

theorem zeros_made (n : Nat) : (madeCells (Value.int .u32 0).cells (n * 1)).toList = ws (List.replicate n 0) := by
  rw [ws_replicate, Nat.mul_one]
  exact toList_madeCells_one _ n

theorem or_join (a x : Nat) (ha : a < 4294967296) (hx : x < 4294967296) : bits .or .u64 (a : Int) ((x : Int) * 4294967296) = ((a + 4294967296 * x : Nat) : Int) := by
  rw [show ((x : Int) * 4294967296) = ((x * 4294967296 : Nat) : Int) by omega, u64_or_nat _ _ (by omega) (by omega), Nat.or_comm, nat_join 32 _ _ (by omega) ha]
  congr 1
  omega
theorem or_join' (a x : Nat) (ha : a < 4294967296) (hx : x < 4294967296) : bits .or .u64 ((x : Int) * 4294967296) (a : Int) = ((a + 4294967296 * x : Nat) : Int) := by
  rw [show ((x : Int) * 4294967296) = ((x * 4294967296 : Nat) : Int) by omega, u64_or_nat _ _ (by omega) (by omega), nat_join 32 _ _ (by omega) ha]
  congr 1
  omega

theorem info_u32 : (Tryz.prog.info? 59).map (fun i => (i.zero, i.size, i.bytes)) = some (some (.int .u32 0), 1, 4) := by kernel_rfl

theorem ret_int {k : IntKind} {a b : Int} (h : a = b) : Ending.returned (.int k a) = .returned (.int k b) := by rw [h]
theorem ret_eq {a b : Value} (h : a = b) : Ending.returned a = .returned b := by rw [h]

end Go.Proofs.YtbeidpeoichakaaGreatDoor.mem

/- fraction: trim, words64, short, isOne, sign, cmpWords. -/
namespace Go.Proofs.YtbeidpeoichakaaGreatDoor.fa
open Go.RowKit Go.Proofs.YtbeidpeoichakaaGreatDoor.fm Go.Proofs.YtbeidpeoichakaaGreatDoor.mem

theorem trim_len {l : List Nat} (h : ok l) {k : Nat} (hk : k ≤ l.length) (hv : val (l.take k) = val l) (hz : k = 0 ∨ l.getD (k - 1) 0 ≠ 0) : (digs (val l)).length = k := by
  rw [← hv, take_digs h hk hz, List.length_take]; omega

theorem digs_take {l : List Nat} (h : ok l) : digs (val l) = l.take (digs (val l)).length := by
  -- the beginning without leading zeros
  have key : ∀ k, k ≤ l.length → val (l.take k) = val l → ∃ m, m ≤ l.length ∧ val (l.take m) = val l ∧ (m = 0 ∨ l.getD (m - 1) 0 ≠ 0) := by
    intro k
    induction k with
    | zero => intro h1 h2; exact ⟨0, h1, h2, .inl rfl⟩
    | succ k ih =>
      intro h1 h2
      by_cases hz : l.getD k 0 = 0
      · refine ih (by omega) ?_
        rw [val_take_next, hz] at h2
        simpa using h2
      · exact ⟨k + 1, h1, h2, .inr hz⟩
  obtain ⟨m, h1, h2, h3⟩ := key l.length (Nat.le_refl _) (by rw [List.take_length])
  rw [trim_len h h1 h2 h3, ← h2, take_digs h h1 h3]

set_option maxRecDepth 100000 in
set_option maxHeartbeats 400000 in
theorem trim_any (w : World) (B : Nat) (A : Option Addr) (c : Nat) (l : List Nat) (h : Rd w B A c l) (hs : l.length ≤ 100000000) :
    Calls Tryz.prog 72 #[.slice A l.length c] w fun e w' => e = .returned (.slice A (digs (val l)).length c) ∧ w = w' := by
  have hfit := h.fit
  go_enter Tryz.func72, Tryz.ntmps72
  go_wp2
  go_loop [0] (fun v => ∃ k : Nat, k ≤ l.length ∧ v = .slice A k c ∧ val (l.take k) = val l) (fun v => match v with | .slice _ k _ => k | _ => 0)
  case atStart => exact ⟨l.length, Nat.le_refl _, rfl, by rw [List.take_length]⟩
  case round =>
    obtain ⟨k, hk, rfl, hv⟩ := hrel
    have Hv := Lib.hid hv
    clear hv
    by_cases h0 : k = 0
    · subst h0
      go_wp2
      go_ret
      have e := trim_len h.ok hk Hv.out (.inl rfl)
      exact ⟨by rw [e]; rfl, rfl⟩
    · obtain ⟨j, rfl⟩ : ∃ j, k = j + 1 := ⟨k - 1, by omega⟩
      obtain ⟨b, off, rfl, hb, hc⟩ := h.cells (by omega)
      have hcj := hc j (by omega)
      have Hc := Lib.hid hc
      clear hc
      by_cases hz : l.getD j 0 = 0
      · rw [hz] at hcj
        go_wp2
        go_round
        case rel =>
          refine ⟨j, by omega, rfl, ?_⟩
          have := Hv.out
          rw [val_take_next, hz] at this
          simpa using this
        case measure => simp
      · have hx : (((l.getD j 0 : Nat) : Int) == 0) = false := beq_eq_false_iff_ne.2 (by omega)
        have e := trim_len h.ok hk Hv.out (.inr hz)
        have He := Lib.hid e
        clear e hz
        generalize l.getD j 0 = x at *
        go_wp2
        go_ret
        exact ⟨by rw [He.out]; rfl, rfl⟩

/-- trim of what is owned: the number without leading zeros, in the same row -/
theorem trim_own (w : World) (base g n cap : Nat) (l : List Nat) (m : Nat) (h : w.ownsRow base 59 1 (.slice (some ⟨g, 0, none⟩) n cap) n (ws l)) (ho : ok l) (hs : n ≤ 100000000) (hv : val l = m) :
    Calls Tryz.prog 72 #[.slice (some ⟨g, 0, none⟩) n cap] w fun e w' =>
      e = .returned (.slice (some ⟨g, 0, none⟩) (digs m).length cap) ∧ w.ownsRow base 59 1 (.slice (some ⟨g, 0, none⟩) (digs m).length cap) (digs m).length (ws (digs m)) ∧ w = w' := by
  have hl := own_len h
  subst hl
  subst hv
  obtain ⟨A, c, hv, R⟩ := own_rd h ho
  injection hv with e1 e2 e3
  subst e1 e3
  have hd := digs_take ho
  have ht := own_trim h (digs (val l)).length (val_eq_digs_len ho)
  rw [← hd] at ht
  exact (trim_any w _ _ _ l R hs).mono fun e w' ⟨he, hw⟩ => ⟨he, ht, hw⟩

end Go.Proofs.YtbeidpeoichakaaGreatDoor.fa
