/- The word of the laws of layer 16: a text of good bytes, at most 44 long. -/
import Derived.Test.YtgmnjiiommbjaaaDo
import Derived.Test.YtgmnjiiommbjaaaBu
import Derived.Test.YtgmnjiiommbjaaaBq
import Derived.Deep.Cut
import Derived.Deep.DeepCutAuto
set_option linter.unusedVariables false
set_option linter.unusedSimpArgs false
namespace Go.Proofs.Ytgmnjiiommbjaaa.dist
open Go.RowKit Go.Lib Go.Proofs.Ytgmnjiiommbjaaa.txt Go.Proofs.Ytgmnjiiommbjaaa.mill Go.Proofs.Ytgmnjiiommbjaaa.tx

theorem good_append : ∀ (a b : List UInt8), good a = true → good b = true → good (a ++ b) = true
  | [], b, _, h => h
  | x :: r, b, ha, hb => by
    rw [List.cons_append]
    unfold good at ha ⊢
    by_cases hx : x.toNat < 128
    · rw [if_pos hx] at ha ⊢
      exact good_append r b ha hb
    · rw [if_neg hx] at ha ⊢
      cases r with
      | nil => simp at ha
      | cons c r' =>
        simp only [Bool.and_eq_true] at ha
        show (x == 195 && (c == 188 && good (r' ++ b))) = true
        simp only [Bool.and_eq_true]
        exact ⟨ha.1, ha.2.1, good_append r' b ha.2.2 hb⟩
theorem good_split : ∀ (a : List UInt8) (i : Nat), good a = true → (i = a.length ∨ ∃ x, a[i]? = some x ∧ x.toNat < 128) → good (a.take i) = true ∧ good (a.drop i) = true
  | [], i, _, _ => by simp [good]
  | x :: r, 0, h, _ => ⟨rfl, h⟩
  | x :: r, i + 1, h, hi => by
    rw [List.take_succ_cons, List.drop_succ_cons]
    unfold good at h
    by_cases hx : x.toNat < 128
    · rw [if_pos hx] at h
      have ih := good_split r i h (by simpa using hi)
      refine ⟨?_, ih.2⟩
      unfold good
      rw [if_pos hx]
      exact ih.1
    · rw [if_neg hx] at h
      cases r with
      | nil => simp at h
      | cons c r' =>
        simp only [Bool.and_eq_true, beq_iff_eq] at h
        cases i with
        | zero =>
          rcases hi with hi | ⟨y, hy, hy2⟩
          · simp at hi
          · simp at hy
            subst hy
            rw [h.2.1] at hy2
            exact absurd hy2 (by decide)
        | succ k =>
          have ih := good_split r' k h.2.2 (by simpa using hi)
          rw [List.take_succ_cons, List.drop_succ_cons]
          refine ⟨?_, ih.2⟩
          unfold good
          rw [if_neg hx]
          simp [h.1, h.2.1, ih.1]
theorem good_put (a : List UInt8) (i : Nat) (c : UInt8) (h : good a = true) (hc : c.toNat < 128) (hi : i = a.length ∨ ∃ x, a[i]? = some x ∧ x.toNat < 128) : good (a.take i ++ (c :: a.drop i)) = true := by
  obtain ⟨h1, h2⟩ := good_split a i h hi
  refine good_append _ _ h1 ?_
  unfold good
  rw [if_pos hc]
  exact h2
theorem good_set (a : List UInt8) (i : Nat) (c : UInt8) (h : good a = true) (hc : c.toNat < 128) (x : UInt8) (hx : a[i]? = some x) (hx2 : x.toNat < 128) : good (a.set i c) = true := by
  obtain ⟨h1, h2⟩ := good_split a i h (.inr ⟨x, hx, hx2⟩)
  obtain ⟨hl, he⟩ := List.getElem?_eq_some_iff.1 hx
  rw [List.set_eq_take_append_cons_drop, if_pos hl]
  refine good_append _ _ h1 ?_
  rw [List.drop_eq_getElem_cons hl, he] at h2
  unfold good at h2 ⊢
  rw [if_pos hx2] at h2
  rw [if_pos hc]
  exact h2

/-- what the loop of word holds -/
structure WordAt (w : World) (g : Nat) (l : List Nat) (v : Value) (xs : List UInt8) (wr : World) : Prop where
  row : RowG wr w.heap.size 5 v (xs.map encB)
  dice : ∃ k, DiceAt wr g l k
  kept : Kept g w wr
  pos : 0 < xs.length
  fine : good xs = true

theorem WordAt.next {w : World} {g : Nat} {l : List Nat} {v : Value} {xs : List UInt8} {wr w' : World} (h : WordAt w g l v xs wr) (hg : g < w.heap.size) (k : Nat) (D : DiceAt w' g l k) (K : Kept g wr w') : WordAt w g l v xs w' :=
  ⟨h.row.kept fun b hb hl => K.other b hl (by omega), ⟨k, D⟩, h.kept.trans K, h.pos, h.fine⟩

theorem WordAt.parts {w : World} {g : Nat} {l : List Nat} {v : Value} {xs : List UInt8} {wr : World} (h : WordAt w g l v xs wr) : ∃ b cap, v = .slice (some ⟨b, 0, none⟩) xs.length cap ∧ w.heap.size ≤ b ∧ b < wr.heap.size ∧ xs.length ≤ cap ∧ cap ≤ maxLen ∧
    (∀ j x, xs[j]? = some x → wr.cell? ⟨b, j, none⟩ = some (.int .u8 (x.toNat : Int)) ∧ wr.frozen? ⟨b, j, none⟩ = false) := by
  obtain ⟨b, cap, hv, h1, h2, h3, h4, h5, _⟩ := h.row.parts
  rw [List.length_map] at hv h3
  exact ⟨b, cap, hv, h1, h2, h3, h4, fun j x hx => h5 j _ (by rw [List.getElem?_map, hx]; rfl)⟩

theorem WordAt.cells {w : World} {g : Nat} {l : List Nat} {b n cap : Nat} {xs : List UInt8} {wr : World} (h : WordAt w g l (.slice (some ⟨b, 0, none⟩) n cap) xs wr) (j : Nat) (x : UInt8) (hx : xs[j]? = some x) : wr.cell? ⟨b, j, none⟩ = some (.int .u8 (x.toNat : Int)) ∧ wr.frozen? ⟨b, j, none⟩ = false := by
  obtain ⟨b', c', e, _, _, _, _, hc⟩ := h.parts
  injection e with e _ _
  injection e with e
  injection e with e
  subst e
  exact hc j x hx

theorem WordAt.put {w : World} {g : Nat} {l : List Nat} {b cap : Nat} {xs : List UInt8} {wr : World} (h : WordAt w g l (.slice (some ⟨b, 0, none⟩) xs.length cap) xs wr) (hg : g < w.heap.size) (hb : w.heap.size ≤ b) (i : Nat) (x c : UInt8) (hx : xs[i]? = some x) (hx2 : x.toNat < 128) (hc : c.toNat < 128) :
    WordAt w g l (.slice (some ⟨b, 0, none⟩) (xs.set i c).length cap) (xs.set i c) (wr.setCell ⟨b, i, none⟩ (.int .u8 (c.toNat : Int))) := by
  have hil : i < xs.length := (List.getElem?_eq_some_iff.1 hx).1
  have hbel : Below w.heap.size wr (wr.setCell ⟨b, i, none⟩ (.int .u8 (c.toNat : Int))) := (Below.refl w.heap.size wr).setCell (p := ⟨b, i, none⟩) hb _
  obtain ⟨b', cap', e', _, _, _, _, _, hset⟩ := h.row.parts
  injection e' with e' el e''
  injection e' with e'
  injection e' with e'
  subst e' e''
  have hr := hset i (encB c) (by simpa using hil)
  obtain ⟨k, D⟩ := h.dice
  refine ⟨?_, ⟨k, D.high hbel hg⟩, h.kept.then_below hbel (by omega), by simpa using h.pos, good_set xs i c h.fine hc x hx hx2⟩
  rw [List.length_set, List.map_set]
  exact hr
theorem WordAt.ins {w : World} {g : Nat} {l : List Nat} {v v' : Value} {xs : List UInt8} {wr w' : World} (h : WordAt w g l v xs wr) (hg : g < w.heap.size) (i : Nat) (hi : i ≤ xs.length) (hx : i = xs.length ∨ ∃ x, xs[i]? = some x ∧ x.toNat < 128)
    (ho : w'.ownsRow w.heap.size 5 1 v' (i + (1 + (xs.length - i))) ((xs.map encB).take i ++ ([encB 32] ++ (xs.map encB).drop i))) (hb : Below w.heap.size wr w') : WordAt w g l v' (xs.take i ++ 32 :: xs.drop i) w' := by
  obtain ⟨k, D⟩ := h.dice
  have e : (xs.take i ++ 32 :: xs.drop i).map encB = (xs.map encB).take i ++ ([encB 32] ++ (xs.map encB).drop i) := by simp [List.map_take, List.map_drop]
  have el : ((xs.take i ++ 32 :: xs.drop i).map encB).length = i + (1 + (xs.length - i)) := by simp; omega
  refine ⟨RowG.of_owns ?_ (by rw [el]; omega), ⟨k, D.high hb hg⟩, h.kept.then_below hb (by omega), by simp; omega, good_put xs i 32 h.fine (by decide) hx⟩
  rw [el, e]
  exact ho
theorem fresh_byte (U : World) (c : UInt8) : (U.alloc (.cells #[.int .u8 (c.toNat : Int)] 5)).ownsRow U.heap.size 5 1 (.slice (some ⟨U.heap.size, 0, none⟩) 1 1) 1 [encB c] :=
  ⟨rfl, .inr ⟨U.heap.size, 1, #[.int .u8 (c.toNat : Int)], rfl, Nat.le_refl _, heap_alloc_new U _, Nat.le_refl _, by unfold maxLen; omega, rfl, rfl⟩⟩
theorem encB_one (xs : List UInt8) (k : Nat) : ∀ u ∈ (xs.map encB).drop k, u.oneCell' = true := by
  intro u hu
  obtain ⟨y, _, rfl⟩ := List.mem_map.1 (List.mem_of_mem_drop hu)
  rfl
/-- the cells from place k on, in a world that has grown -/
theorem row_drop {w : World} {base : Nat} {b n cap : Nat} {xs : List Value} (h : RowG w base 5 (.slice (some ⟨b, 0, none⟩) n cap) xs) {w' : World} (hb : w'.heap[b]? = w.heap[b]?) (k : Nat) (ad : Addr) (e : some (⟨b, k, none⟩ : Addr) = some ad) (j : Nat) (u : Value) (hj : (xs.drop k)[j]? = some u) : w'.cell? (ad.add j) = some u := by
  cases e
  rw [List.getElem?_drop] at hj
  obtain ⟨b', cap', e', _, _, _, _, hc, _⟩ := h.parts
  injection e' with e' el e''
  injection e' with e'
  injection e' with e'
  subst e'
  have e1 : (⟨b, k, none⟩ : Addr).add j = ⟨b, k + j, none⟩ := by
    unfold Addr.add
    by_cases h1 : j = 0
    · subst h1; rfl
    · simp [h1]
  rw [e1, World.cell?_of_block (a := ⟨b, k + j, none⟩) hb]
  exact (hc _ _ hj).1
theorem row_take {w : World} {base : Nat} {b n cap : Nat} {xs : List Value} (h : RowG w base 5 (.slice (some ⟨b, 0, none⟩) n cap) xs) {w' : World} (hb : w'.heap[b]? = w.heap[b]?) (k : Nat) (j : Nat) (u : Value) (hj : (xs.take k)[j]? = some u) : w'.cell? ((⟨b, 0, none⟩ : Addr).add j) = some u := by
  obtain ⟨hlt, hj2⟩ := List.getElem?_eq_some_iff.1 hj
  rw [List.getElem?_take_of_lt (by rw [List.length_take] at hlt; omega)] at hj
  have := row_drop h hb 0 ⟨b, 0, none⟩ rfl j u (by simpa using hj)
  exact this

theorem WordAt.more {w : World} {g : Nat} {l : List Nat} {v v' : Value} {xs : List UInt8} {wr w' : World} (h : WordAt w g l v xs wr) (hg : g < w.heap.size) (ys : List UInt8) (ho : RowG w' w.heap.size 5 v' ((xs ++ ys).map encB)) (hb : Below w.heap.size wr w') (hy : good ys = true) : WordAt w g l v' (xs ++ ys) w' := by
  obtain ⟨k, D⟩ := h.dice
  exact ⟨ho, ⟨k, D.high hb hg⟩, h.kept.then_below hb (by omega), by have := h.pos; simp; omega, good_append _ _ h.fine hy⟩
theorem heap_old6 {w : World} {o : Obj} {g' : Nat} (hl : g' < w.heap.size) : (w.alloc o).heap[g']? = w.heap[g']? := (Below.refl w.heap.size w |>.alloc (Nat.le_refl _) o).block g' hl

set_option maxRecDepth 100000 in
set_option maxHeartbeats 2000000 in
theorem word16_any (w : World) (g : Nat) (l : List Nat) (k : Nat) (D : DiceAt w g l k) :
    Calls Try.prog 10 #[.pointer (some ⟨g, 0, none⟩)] w fun e w' => ∃ (xs : List UInt8) (k' : Nat), e = .returned (.string ⟨xs.toArray⟩) ∧ good xs = true ∧ xs.length ≤ 50 ∧ DiceAt w' g l k' ∧ Kept g w w' := by
  have hgl := D.lt
  go_enter Try.func10, Try.ntmps10
  go_wp2_with fail
  refine (wordsQ_any _).mono ?_
  rintro _ w1 ⟨g1, rfl, hc1, hg1, hl1, b1⟩
  have H1 := Lib.hid (And.intro hc1 b1)
  clear hc1 b1
  go_wp2_with fail
  refine (wordsQ_any _).mono ?_
  rintro _ w2 ⟨g2, rfl, _, hg2, hl2, b2⟩
  have D2 := (D.after H1.out.2).after b2
  have hs1 := H1.out.2.size
  have hs2 := b2.size
  go_wp2_with fail
  refine (pick_some w2 g 16 l k D2 (by omega) (by omega)).mono ?_
  rintro _ w3 ⟨p, k3, rfl, hp, D3, K3⟩
  have hs3 := K3.bel.size
  obtain ⟨x, hxc, hxq⟩ := H1.out.1 p hp
  have cx : w3.cell? ⟨g1, p, none⟩ = some (.string ⟨x.toArray⟩) := (K3.cell (p := ⟨g1, p, none⟩) (by show g1 < _; omega) (by show g1 ≠ g; omega)).trans ((b2.cell (p := ⟨g1, p, none⟩) hl1).trans hxc)
  have hxl := wq_len hxq
  have hK3 : Kept g w w3 := (Kept.of_below (H1.out.2.trans (b2.mono (by omega))) (by omega)).trans K3
  have hpos : 0 < x.length := by
    have := wq_tok hxq
    cases x with
    | nil => simp at this
    | cons => simp
  have HX := Lib.hid (And.intro hxq (And.intro hK3 D3))
  have hcv := fun W => run_bytes_of_string (P := Try.prog) W 9 22 5 ⟨x.toArray⟩ (by kernel_rfl) (by kernel_rfl) (by kernel_rfl)
  clear hxc hxq hK3 K3 D3 b2 D2 D
  go_wp2_with fail
  clear hcv
  have hcg := grownCap_ge w3 x.length 0 5
  have hcm := grownCap_le_maxLen w3 x.length 0 5 (by unfold maxLen; omega)
  generalize grownCap w3 x.length 0 5 = cap0 at *
  have hrow := bytes_row w3 x cap0 hcg hcm 5 w.heap.size (by omega)
  have hb4 : Below w3.heap.size w3 (w3.alloc (.cells (bytesRow ⟨x.toArray⟩ cap0) 5 ((bytesRow ⟨x.toArray⟩ cap0).size, (bytesRow ⟨x.toArray⟩ cap0).size + 1))).drew := ((Below.refl _ _).alloc (Nat.le_refl _) _).drew
  obtain ⟨w4, hw4⟩ : ∃ w4, w4 = (w3.alloc (.cells (bytesRow ⟨x.toArray⟩ cap0) 5 ((bytesRow ⟨x.toArray⟩ cap0).size, (bytesRow ⟨x.toArray⟩ cap0).size + 1))).drew := ⟨_, rfl⟩
  rw [← hw4] at hrow hb4 ⊢
  have D4 := HX.out.2.2.after hb4
  have HW4 : Hid (WordAt w g l (.slice (some ⟨w3.heap.size, 0, none⟩) x.length cap0) x w4) := Lib.hid ⟨hrow, ⟨k3, D4⟩, HX.out.2.1.trans (Kept.of_below hb4 (by omega)), hpos, wq_good HX.out.1⟩
  clear hrow hb4 hw4
  refine (pick_some w4 g 3 l k3 D4 (by omega) (by omega)).mono ?_
  rintro _ w5 ⟨n5, k5, rfl, hn5, D5, K5⟩
  have HW5 := Lib.hid (HW4.out.next hgl k5 D5 K5)
  clear D5 K5 D4 HW4
  go_wp2_with fail
  go_loopw [3, 4] (fun b kk wr => ∃ (n : Nat) (xs : List UInt8), kk = .int .i64 (n : Int) ∧ n ≤ 2 ∧ xs.length + n ≤ 22 ∧ Hid (WordAt w g l b xs wr)) (fun _ kk _ => (intOf kk).toNat)
  case atStart => exact ⟨n5, x, rfl, by omega, by omega, HW5⟩
  case round =>
    obtain ⟨n, xs, rfl, hn2, hxn, HW⟩ := hrel
    obtain ⟨b, cap, rfl, hb1, hb2, hb3, hb4, hcl⟩ := HW.out.parts
    have hbg : b ≠ g := by omega
    have hwr := HW.out.kept.bel.size
    have hps := HW.out.pos
    cases n with
    | zero =>
      rw [show ((0 : Nat) : Int) = 0 from rfl]
      clear hcl
      obtain ⟨kd, Dr⟩ := HW.out.dice
      go_wp2_with fail
      refine (pick_some wr g 3 l kd Dr (by omega) (by omega)).mono ?_
      rintro _ w6 ⟨q, k6, rfl, hq, D6, K6⟩
      have HW6 := Lib.hid (HW.out.next hgl k6 D6 K6)
      clear D6 K6 Dr
      go_upto_if 73 with fail
      go_cut [3] (fun v wx => ∃ ys : List UInt8, ys.length ≤ 50 ∧ Hid (WordAt w g l v ys wx))
      case first =>
        by_cases hq0 : q = 0
        · subst hq0
          rw [show ((0 : Nat) : Int) = 0 from rfl]
          obtain ⟨i1, hj, hz0, hz1, hz2⟩ := info_parts bld.info_byte
          have hs6 := HW6.out.kept.bel.size
          go_wp2_with (at_builtin; refine wpList_append_G (by rfl) (.tmp 74) (.tmp 75) _ (by rfl) w.heap.size 5 i1 _ 1 Try.underlying22 hj hz0 hz1 hz2 rfl _ (xs.map encB) (by rfl) (HW6.out.row.kept fun g' _ hl => heap_old6 hl) ⟨w6.heap.size, 0, none⟩ 1 1 [encB 32] (by rfl) rfl (fun j u hu => (fresh_byte w6 32).cells rfl j u hu) (by simp [encB, Value.oneCell']) (by simp; unfold maxLen; omega) (by simp; omega) (by simp; omega) ?_; intro v7 w7 hr7 hg7)
          have hb7 : Below w.heap.size w6 w7 := ((Below.refl w.heap.size w6).alloc hs6 _).grown hg7 (by simp; omega) (fun j e => by cases e; exact hb1)
          have HW7 := Lib.hid (HW6.out.more hgl [32] (by rw [List.map_append]; exact hr7) hb7 rfl)
          clear hr7 hg7 hb7
          obtain ⟨XS, hXS⟩ : ∃ XS, XS = xs ++ [32] := ⟨_, rfl⟩
          have hXl : XS.length ≤ 24 := by rw [hXS]; simp; omega
          rw [← hXS] at HW7
          clear hXS
          obtain ⟨k7, D7⟩ := HW7.out.dice
          have hz7 := HW7.out.kept.bel.size
          refine (wordsQ_any _).mono ?_
          rintro _ w8 ⟨g8, rfl, hc8, hg8, hl8, b8⟩
          have HW8 := Lib.hid (HW7.out.next hgl k7 (D7.after b8) (Kept.of_below b8 (by omega)))
          have H8 := Lib.hid hc8
          have D8 := D7.after b8
          clear b8 hc8
          go_wp2_with fail
          refine (pick_some w8 g 5 l k7 D8 (by omega) (by omega)).mono ?_
          rintro _ w9 ⟨p9, k9, rfl, hp9, D9, K9⟩
          obtain ⟨y, hyc, hyq⟩ := H8.out p9 (by omega)
          have cy : w9.cell? ⟨g8, p9, none⟩ = some (.string ⟨y.toArray⟩) := (K9.cell (p := ⟨g8, p9, none⟩) hl8 (by show g8 ≠ g; omega)).trans hyc
          have HW9 := Lib.hid (HW8.out.next hgl k9 D9 K9)
          have hyl := wq_len hyq
          have HQ := Lib.hid hyq
          have hs9 := HW9.out.kept.bel.size
          obtain ⟨b9, cap9, rfl, hb9, hl9, _⟩ := HW9.out.parts
          clear D9 K9 D8 D7 hyc hyq H8
          go_wp2_with (at_builtin; refine wpList_append_string_G (by rfl) (.tmp 76) (.tmp 81) _ _ (by rfl) w.heap.size 5 i1 Try.underlying22 Try.underlying9 hj hz0 hz1 hz2 _ (XS.map encB) (by rfl) HW9.out.row ⟨y.toArray⟩ (by rfl) (by simp [ByteArray.size]; unfold maxLen; omega) (by simp [ByteArray.size]; omega) (by omega) ?_; intro v10 w10 hr10 hg10)
          have hb10 : Below w.heap.size w9 w10 := (Below.refl w.heap.size w9).grown hg10 hs9 (fun j e => by cases e; exact hb9)
          go_meet
          exact ⟨XS ++ y, by simp; omega, Lib.hid (HW9.out.more hgl y (by rw [List.map_append, ← strCells_encB y]; exact hr10) hb10 (wq_good HQ.out))⟩
        · have q0 : ¬ (q : Int) = 0 := by omega
          have q1 : ((q : Int) == 0) = false := by rw [beq_eq_false_iff_ne]; omega
          go_wp2_with fail
          go_meet
          exact ⟨xs, by omega, HW6⟩
      case rest =>
        obtain ⟨ys, hyl, HY⟩ := hcut
        obtain ⟨b, cap, rfl, _, _, _, _, hcl⟩ := HY.out.parts
        obtain ⟨k9, D9⟩ := HY.out.dice
        have hcv := run_convert_bytes_back (P := Try.prog) wc 22 9 5 ⟨b, 0, none⟩ cap ys (by kernel_rfl) (by kernel_rfl) (by kernel_rfl) (fun j hj => by
          rw [show ((⟨b, 0, none⟩ : Addr).add j) = ⟨b, j, none⟩ by unfold Addr.add; split <;> simp_all]
          exact (hcl j _ (List.getElem?_eq_getElem hj)).1)
        clear hcl
        go_wp2_with fail
        go_ret
        exact ⟨ys, k9, rfl, HY.out.fine, hyl, D9, HY.out.kept⟩
    | succ n =>
      have e2 : ((n + 1 : Nat) : Int) = (n : Int) + 1 := by omega
      rw [e2]
      have HC := Lib.hid hcl
      clear hcl
      obtain ⟨kd, Dr⟩ := HW.out.dice
      go_wp2_with fail
      have e1 : ((xs.length : Int) + 1) = ((xs.length + 1 : Nat) : Int) := by omega
      have e3 : IntKind.i64.wrap ((xs.length : Int) + 1) = (xs.length : Int) + 1 := IntWalk.i64_in _ (by omega)
      rw [e1]
      refine (pick_some wr g (xs.length + 1) l kd Dr (by omega) (by omega)).mono ?_
      rintro _ w6 ⟨i, k6, rfl, hi, D6, K6⟩
      have HW6 := Lib.hid (HW.out.next hgl k6 D6 K6)
      clear e1 e3 Dr
      go_upto_region 6 with fail
      go_cut [25] (fun s25 wx => ∃ (M : Bool), s25 = .bool M ∧ Hid ((M = true → ∃ x, xs[i]? = some x ∧ x.toNat < 128) ∧ WordAt w g l (.slice (some ⟨b, 0, none⟩) xs.length cap) xs wx) ∧ b < wx.heap.size)
      case first =>
        have hb6 : b < w6.heap.size := Nat.lt_of_lt_of_le hb2 K6.bel.size
        have hc6 := HW6.out.cells
        by_cases hil : i < xs.length
        · obtain ⟨x, hx⟩ : ∃ x, xs[i]? = some x := ⟨_, List.getElem?_eq_getElem hil⟩
          have ci := (hc6 i x hx).1
          have i0 : (i : Int) < (xs.length : Int) := by omega
          have HX2 := Lib.hid hx
          clear hc6 hx
          by_cases hx1 : x.toNat < 128
          · have i1 : (x.toNat : Int) < 128 := by omega
            go_wp2_with fail
            refine (pick_some w6 g 2 l k6 D6 (by omega) (by omega)).mono ?_
            rintro _ w7 ⟨q, k7, rfl, hq, D7, K7⟩
            have HW7 := Lib.hid (HW6.out.next hgl k7 D7 K7)
            have hb7 : b < w7.heap.size := Nat.lt_of_lt_of_le hb6 K7.bel.size
            clear D7 K7
            go_wp2_with fail
            go_meet
            exact ⟨_, rfl, Lib.hid ⟨fun _ => ⟨x, HX2.out, hx1⟩, HW7.out⟩, hb7⟩
          · have i1 : ¬ (x.toNat : Int) < 128 := by omega
            go_wp2_with fail
            go_meet
            exact ⟨_, rfl, Lib.hid ⟨(fun h => by cases h), HW6.out⟩, hb6⟩
        · have i0 : ¬ (i : Int) < (xs.length : Int) := by omega
          clear hc6
          go_wp2_with fail
          go_meet
          exact ⟨_, rfl, Lib.hid ⟨(fun h => by cases h), HW6.out⟩, hb6⟩
      case rest =>
        obtain ⟨M, rfl, HM, hbx⟩ := hcut
        clear D6 K6 HW6
        obtain ⟨k8, D8⟩ := HM.out.2.dice
        have hwc := HM.out.2.kept.bel.size
        cases M
        · go_upto_region 8 with fail
          go_cut [49] (fun s49 wx => ∃ (M : Bool), s49 = .bool M ∧ Hid (M = true → i = xs.length ∨ ∃ x, xs[i]? = some x ∧ x.toNat < 128) ∧ wc = wx)
          case first =>
            have hc8 := HM.out.2.cells
            by_cases hil : i < xs.length
            · obtain ⟨x, hx⟩ : ∃ x, xs[i]? = some x := ⟨_, List.getElem?_eq_getElem hil⟩
              have ci := (hc8 i x hx).1
              have i0 : (i : Int) < (xs.length : Int) := by omega
              have i2 : ((i : Int) == (xs.length : Int)) = false := by rw [beq_eq_false_iff_ne]; omega
              have HX2 := Lib.hid hx
              clear hc8 hx
              go_wp2_with fail
              go_meet
              exact ⟨_, rfl, Lib.hid fun h => .inr ⟨x, HX2.out, by have := of_decide_eq_true h; omega⟩, rfl⟩
            · have i2 : ((i : Int) == (xs.length : Int)) = true := by rw [beq_iff_eq]; omega
              clear hc8
              go_wp2_with fail
              go_meet
              exact ⟨_, rfl, Lib.hid fun h => .inl (by omega), rfl⟩
          case rest =>
            obtain ⟨M, rfl, HJ, rfl⟩ := hcut
            cases M
            · go_wp2_with fail
              exact ⟨⟨n, xs, rfl, by omega, by omega, Lib.hid HM.out.2⟩, by simp [intOf] <;> omega⟩
            · have q1 : i ≤ cap := by omega
              have q3 : (0 : Int) ≤ (i : Int) := by omega
              have q4 : (i : Int) ≤ (cap : Int) := by omega
              have q5 : (i : Int) ≤ (xs.length : Int) := by omega
              go_wp2_with fail
              obtain ⟨i1, hj, hz0, hz1, hz2⟩ := info_parts bld.info_byte
              have hws := HM.out.2.kept.bel.size
              have hne : b ≠ wc.heap.size := by omega
              have hal : ((wc.alloc (.cells #[.int .u8 32] 5)).drew).heap[b]? = wc.heap[b]? := (Below.refl wc.heap.size wc |>.alloc (Nat.le_refl _) _).block b hbx
              by_cases hci : cap = i
              · obtain rfl : i = xs.length := by omega
                subst hci
                go_region_held3 (fun _ => True) (exact trivial) (first
                  | (refine step_append_x (by rfl) (.tmp 65) (.tmp 68) _ (by rfl) wc.heap.size 5 i1 _ 1 1 Try.underlying22 hj hz0 hz1 hz2 rfl (by omega) _ 1 [encB 32] (by rfl) (fresh_byte wc 32)
                        (some ⟨b, 0, none⟩) 0 _ [] (by rfl) (by simp) (fun e => by cases e) (fun ad e j u hu => by simp at hu) (fun u hu => by cases hu) (by omega) (by unfold maxLen; omega) (by omega) (by simp) ?_; intro g2 cap2 w2 hown2 hgrow2 hlt2 hor2)
                  | (have hbl : w2.heap[b]? = wc.heap[b]? := (hgrow2.block b (by simp; omega) (fun e => hne (Option.some.inj e))).trans hal; refine full.step_append_full (by rfl) (.tmp 64) (.tmp 69) _ (by rfl) 5 i1 _ 1 1 Try.underlying22 hj hz0 hz1 hz2 rfl (by omega) ⟨b, 0, none⟩ xs.length (xs.map encB) (by rfl) (by simp) (fun j u hu => row_take HM.out.2.row hbl xs.length j u (by rw [List.take_of_length_le (by simp)]; exact hu))
                        ⟨g2, 0, none⟩ 1 _ [encB 32] (by rfl) (by simp) (fun j u hu => hown2.cells rfl j u hu) (by omega) (by unfold maxLen; omega) (by omega) w.heap.size (by have := hgrow2.size; simp at this; omega) _ rfl ?_; intro cap4 w3' hown3 hgrow3 hlt3))
                have A2 : wc.heap.size ≤ w2.heap.size := Nat.le_trans (size_ad wc _) hgrow2.size
                have hbf : Below wc.heap.size wc w3' := chain_below (w := wc) (wr := wc) (Below.refl _ _) hgrow2 (Nat.le_refl _) A2 hgrow3 (fun j e => by cases e)
                have HB := Lib.hid (hbf.mono hws)
                have HN := Lib.hid hown3
                clear hbf hown3 hgrow3 hgrow2 hown2 hbl hor2 A2
                go_wp2_with fail
                exact ⟨⟨n, xs.take xs.length ++ 32 :: xs.drop xs.length, rfl, by omega, by simp; omega, Lib.hid (HM.out.2.ins hgl xs.length (by omega) (.inl rfl) (by
                  have h := HN.out
                  rw [Nat.sub_self, List.take_of_length_le (by simp), List.drop_of_length_le (by simp), List.append_nil]
                  exact h) HB.out)⟩, by simp [intOf] <;> omega⟩
              · have q2 : ¬ cap = i := hci
                go_region_held3 (fun _ => True) (exact trivial) (first
                  | (refine step_append_x (by rfl) (.tmp 65) (.tmp 68) _ (by rfl) wc.heap.size 5 i1 _ 1 1 Try.underlying22 hj hz0 hz1 hz2 rfl (by omega) _ 1 [encB 32] (by rfl) (fresh_byte wc 32)
                        (some ⟨b, i, none⟩) (xs.length - i) _ ((xs.map encB).drop i) (by rfl) (by simp) (fun e => by cases e) (row_drop HM.out.2.row hal i) (encB_one xs i) (by omega) (by unfold maxLen; omega) (by omega) (by simp) ?_; intro g2 cap2 w2 hown2 hgrow2 hlt2 hor2)
                  | (have hbl : w2.heap[b]? = wc.heap[b]? := (hgrow2.block b (by simp; omega) (fun e => hne (Option.some.inj e))).trans hal; refine full.step_append_full (by rfl) (.tmp 64) (.tmp 69) _ (by rfl) 5 i1 _ 1 1 Try.underlying22 hj hz0 hz1 hz2 rfl (by omega) ⟨b, 0, none⟩ i ((xs.map encB).take i) (by rfl) (by simp; omega) (row_take HM.out.2.row hbl i)
                        ⟨g2, 0, none⟩ (1 + (xs.length - i)) _ ([encB 32] ++ (xs.map encB).drop i) (by rfl) (by simp <;> omega) (fun j u hu => hown2.cells rfl j u hu) (by omega) (by unfold maxLen; omega) (by omega) w.heap.size (by have := hgrow2.size; simp at this; omega) _ rfl ?_; intro cap4 w3' hown3 hgrow3 hlt3))
                have A2 : wc.heap.size ≤ w2.heap.size := Nat.le_trans (size_ad wc _) hgrow2.size
                have hbf : Below wc.heap.size wc w3' := chain_below (w := wc) (wr := wc) (Below.refl _ _) hgrow2 (Nat.le_refl _) A2 hgrow3 (fun j e => by cases e)
                have HB := Lib.hid (hbf.mono hws)
                have HN := Lib.hid hown3
                clear hbf hown3 hgrow3 hgrow2 hown2 hbl hor2 A2
                go_wp2_with fail
                exact ⟨⟨n, xs.take i ++ 32 :: xs.drop i, rfl, by omega, by simp; omega, Lib.hid (HM.out.2.ins hgl i (by omega) (HJ.out trivial) HN.out HB.out)⟩, by simp [intOf] <;> omega⟩
        · obtain ⟨x, hx, hx1⟩ := HM.out.1 rfl
          have hil : i < xs.length := (List.getElem?_eq_some_iff.1 hx).1
          have i0 : (i : Int) < (xs.length : Int) := by omega
          have HX2 := Lib.hid (And.intro hx hx1)
          clear hx hx1
          go_wp2_with fail
          refine (pick_some wc g 4 l k8 D8 (by omega) (by omega)).mono ?_
          rintro _ w9 ⟨q, k9, rfl, hq, D9, K9⟩
          have HW9 := Lib.hid (HM.out.2.next hgl k9 D9 K9)
          clear D9 K9
          obtain ⟨ci, fi⟩ := HW9.out.cells i x HX2.out.1
          have hq2 : (UInt8.ofNat (97 + q)).toNat = 97 + q := by simp; omega
          have e4 : IntKind.u8.wrap (q : Int) = (q : Int) := IntWalk.u8_in _ (by omega)
          have e5 : IntKind.u8.wrap (97 + (q : Int)) = 97 + (q : Int) := IntWalk.u8_in _ (by omega)
          have HS := Lib.hid hq2
          clear hq2
          go_wp2_with fail
          have hP := HW9.out.put hgl hb1 i x (UInt8.ofNat (97 + q)) HX2.out.1 HX2.out.2 (by rw [HS.out]; omega)
          rw [HS.out] at hP
          exact ⟨⟨n, xs.set i (UInt8.ofNat (97 + q)), rfl, by omega, by rw [List.length_set]; omega, by rw [List.length_set] at hP; exact Lib.hid (by simpa using hP)⟩, by simp [intOf] <;> omega⟩
end Go.Proofs.Ytgmnjiiommbjaaa.dist
