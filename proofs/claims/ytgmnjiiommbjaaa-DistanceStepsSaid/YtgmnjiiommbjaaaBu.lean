/- the reference's Set: each text is put at its place. -/
import Derived.Test.YtgmnjiiommbjaaaBs
import Derived.Deep.AppendLies
import Derived.Deep.Upon
import Derived.Deep.RegionHeld3
set_option linter.unusedVariables false
set_option linter.unusedSimpArgs false
namespace Go.Proofs.Ytgmnjiiommbjaaa.tx
open Go.RowKit Go.Proofs.Ytgmnjiiommbjaaa.txt

section
variable {P : Program}

/-- append to an owned row, from any slice (that may hold nothing) -/
theorem step_append_x {w : World} {ops : Array Oper} {o : Oper} {a : Act} {K : Act → World → Prop} {Q : Exit → Act → World → Prop} {E : Prop} (hgd : o.guard = none) (s x : Operand) (t : TypeId)
    (ho : o.op = .call { callee := .builtin .append, args := #[s, x], argTypes := #[t, t] })
    (base : Nat) (e : TypeId) (i : TypeInfo) (z : Value) (size bytes : Nat) (ht : P.underlying t = some (.slice e)) (hi : P.info? e = some i) (hz : i.zero = some z)
    (hsize : i.size = size) (hby : i.bytes = bytes) (hzs : z.cells.size = size) (hsz : 0 < size)
    (v : Value) (n : Nat) (xs : List Value) (hs : a.eval s = v) (hown : w.ownsRow base e size v n xs)
    (xa : Option Addr) (m c : Nat) (news : List Value) (hx : a.eval x = .slice xa m c) (hl : news.length = m * size) (hnone : xa = none → m = 0) (hnews : ∀ ad, xa = some ad → ∀ j u, news[j]? = some u → w.cell? (ad.add j) = some u) (h1 : ∀ u ∈ news, u.oneCell' = true)
    (hm : 0 < n + m) (h63 : n + m ≤ maxLen) (hbytes : (n + m) * bytes ≤ 140737488355328) (hbase : base ≤ w.heap.size)
    (h : ∀ g cap w', w'.ownsRow base e size (.slice (some ⟨g, 0, none⟩) (n + m) cap) (n + m) (xs ++ news) → w.grownBy w' v.ownBlock → g < w'.heap.size → (v.ownBlock = some g ∨ g = w.heap.size) → K (a.put o.dst (.slice (some ⟨g, 0, none⟩) (n + m) cap)) w') :
    if Region.wanted o (yielded ops a.tmps) = true then Oper.wp P o a w K Q else E := by
  have hw : Region.wanted o (yielded ops a.tmps) = true := by simp [Region.wanted, hgd]
  rw [if_pos hw]
  by_cases h0 : m = 0
  · subst h0
    obtain rfl : news = [] := List.eq_nil_of_length_eq_zero (by omega)
    obtain ⟨g, cap, rfl, hb, hlt⟩ := hown.form (by omega)
    have hle : n ≤ cap := by
      rcases hown.2 with ⟨he, _⟩ | ⟨g', cap', cur, he, _, _, hc, _⟩
      · cases he
      · cases he; exact hc
    have hsrc : Src P i.size t (.slice xa 0 c) 0 [] w := by
      cases xa with
      | none => exact Src.ofNil w ht c
      | some ad => exact Src.ofSlice w ht ad 0 c [] (by simp) (by simp) (by simp)
    have hr := run_append_nothing w t t o.type e i ht hi (some ⟨g, 0, none⟩) n cap hle _ hsrc
    unfold Oper.wp execOp
    simp only [ho, resolve, invoke, builtin, Sem.run_bind, Sem.run_pure, Result.andThen_ok, List.map_toArray, List.map_cons, List.map_nil, hs, hx, hr]
    exact h g cap w (by simpa using hown) (World.grownBy.refl _ _) hlt (.inl rfl)
  · cases xa with
    | none => exact absurd (hnone rfl) h0
    | some ad => exact wp_append_lies w s x t ho base e i z size bytes ht hi hz hsize hby hzs hsz v n xs hs hown ad m c news hx hl (hnews ad rfl) h1 (by omega) h63 hbytes hbase _ rfl (fun g cap w' a1 a2 a3 a4 => h g cap w' a1 a2 a4 a3)
end

/-- the first elements of an owned row -/
theorem owns_take {w : World} {base : Nat} {e : TypeId} {g cap n k : Nat} {xs : List Value} (h : w.ownsRow base e 1 (.slice (some ⟨g, 0, none⟩) n cap) n xs) (hk : k ≤ n) :
    w.ownsRow base e 1 (.slice (some ⟨g, 0, none⟩) k cap) k (xs.take k) := by
  obtain ⟨hl, h2⟩ := h
  refine ⟨by rw [List.length_take]; omega, ?_⟩
  rcases h2 with ⟨h0, _⟩ | ⟨g', cap', cur, hv, hg, hh, hn, hcap, hsz, htake⟩
  · cases h0
  · cases hv
    refine .inr ⟨g, cap, cur, rfl, hg, hh, by omega, hcap, hsz, ?_⟩
    rw [← htake, List.take_take]
    congr 1
    omega

theorem strs_of_owns {w : World} {B : Nat} {v : Value} {xs : List (List UInt8)} (h : w.ownsRow B 9 1 v xs.length (xs.map encStr)) : Strs w w.heap.size v xs := by
  have h' := h
  rcases h.2 with ⟨rfl, h0⟩ | ⟨g, cap, cur, rfl, hB, hg, hnc, hcm, hcs, ht⟩
  · exact .inl ⟨List.eq_nil_of_length_eq_zero h0, none, 0, rfl⟩
  · refine .inr ⟨g, 0, cap, rfl, (Array.getElem?_eq_some_iff.1 hg).1, fun j x hx => ?_⟩
    have := h'.cells (g := g) rfl j (encStr x) (by rw [List.getElem?_map, hx]; rfl)
    by_cases hj : j = 0
    · subst hj; simpa [Addr.add] using this
    · simpa [Addr.add, hj] using this

/-- what the loop of Set holds -/
structure Put (w : World) (xs : List (List UInt8)) (i : Nat) (v : Value) (out : List (List UInt8)) (wr : World) : Prop where
  own : wr.ownsRow w.heap.size 9 1 v out.length (out.map encStr)
  asc : asc out
  mem : ∀ x, x ∈ out ↔ x ∈ xs.take i
  len : out.length ≤ i
  below : Below w.heap.size w wr

theorem put_parts {wr : World} {base : Nat} {v : Value} {out : List (List UInt8)} (h : wr.ownsRow base 9 1 v out.length (out.map encStr)) : ∃ a cap, v = .slice a out.length cap ∧
    ((a = none ∧ out = [] ∧ cap = 0) ∨ ∃ g, a = some ⟨g, 0, none⟩ ∧ out.length ≤ cap ∧ cap ≤ maxLen ∧ ∀ (j : Nat) (x : List UInt8), out[j]? = some x → wr.cell? ⟨g, j, none⟩ = some (.string ⟨x.toArray⟩)) := by
  have h' := h
  rcases h.2 with ⟨rfl, h0⟩ | ⟨g, cap, cur, rfl, hB, hg, hnc, hcm, hcs, ht⟩
  · exact ⟨none, 0, by rw [h0], .inl ⟨rfl, List.eq_nil_of_length_eq_zero h0, rfl⟩⟩
  · exact ⟨_, cap, rfl, .inr ⟨g, rfl, hnc, hcm, fun j x hx => by
      have := h'.cells (g := g) rfl j (encStr x) (by rw [List.getElem?_map, hx]; rfl)
      by_cases hj : j = 0
      · subst hj; simpa [Addr.add, encStr] using this
      · simpa [Addr.add, encStr, hj] using this⟩⟩

theorem fresh_own (U : World) (x : List UInt8) : (U.alloc (.cells #[.string ⟨x.toArray⟩] 9)).ownsRow U.heap.size 9 1 (.slice (some ⟨U.heap.size, 0, none⟩) 1 1) 1 [encStr x] :=
  ⟨rfl, .inr ⟨U.heap.size, 1, #[.string ⟨x.toArray⟩], rfl, Nat.le_refl _, heap_alloc_new U _, Nat.le_refl _, by unfold maxLen; omega, rfl, rfl⟩⟩
theorem news_drop {U : World} {base : Nat} {g cap n : Nat} {xs : List Value} (h : U.ownsRow base 9 1 (.slice (some ⟨g, 0, none⟩) n cap) n xs) (k : Nat) (ad : Addr) (e : some (⟨g, k, none⟩ : Addr) = some ad) (j : Nat) (u : Value) (hj : (xs.drop k)[j]? = some u) : U.cell? (ad.add j) = some u := by
  cases e
  rw [List.getElem?_drop] at hj
  have := h.cells (g := g) rfl (k + j) u hj
  have e1 : (⟨g, k, none⟩ : Addr).add j = (⟨g, 0, none⟩ : Addr).add (k + j) := by
    unfold Addr.add
    by_cases h1 : j = 0
    · subst h1
      by_cases h2 : k = 0
      · subst h2; rfl
      · simp [h2]
    · simp [h1]
  rw [e1]
  exact this
theorem news_none {U : World} {A : Addr} {xs : List Value} {k : Nat} (hl : xs.length ≤ k) (ad : Addr) (e : some A = some ad) (j : Nat) (u : Value) (hj : (xs.drop k)[j]? = some u) : U.cell? (ad.add j) = some u := by
  rw [List.drop_of_length_le hl] at hj
  simp at hj
theorem enc_one (xs : List (List UInt8)) (k : Nat) : ∀ u ∈ (xs.map encStr).drop k, u.oneCell' = true := by
  intro u hu
  obtain ⟨y, _, rfl⟩ := List.mem_map.1 (List.mem_of_mem_drop hu)
  rfl
theorem enc_one' (x : List UInt8) (xs : List (List UInt8)) (k : Nat) : ∀ u ∈ [encStr x] ++ (xs.map encStr).drop k, u.oneCell' = true := by
  intro u hu
  rcases List.mem_append.1 hu with h | h
  · rw [List.mem_singleton.1 h]; rfl
  · exact enc_one xs k u h
theorem owns_lt {U : World} {base : Nat} {g cap n : Nat} {xs : List Value} (h : U.ownsRow base 9 1 (.slice (some ⟨g, 0, none⟩) n cap) n xs) : base ≤ g ∧ g < U.heap.size := by
  rcases h.2 with ⟨h0, _⟩ | ⟨g', cap', cur, hv, hg, hh, _⟩
  · cases h0
  · cases hv
    exact ⟨hg, (Array.getElem?_eq_some_iff.1 hh).1⟩
theorem owns_kept {U V : World} {base H : Nat} {g cap n : Nat} {xs : List Value} (h : U.ownsRow base 9 1 (.slice (some ⟨g, 0, none⟩) n cap) n xs) (hg : U.grownBy V (some H)) (hne : g ≠ H) : V.ownsRow base 9 1 (.slice (some ⟨g, 0, none⟩) n cap) n xs := by
  obtain ⟨hl, h2⟩ := h
  refine ⟨hl, ?_⟩
  rcases h2 with ⟨h0, _⟩ | ⟨g', cap', cur, hv, hb, hh, r⟩
  · cases h0
  · cases hv
    exact .inr ⟨g, cap, cur, rfl, hb, (hg.block g (Array.getElem?_eq_some_iff.1 hh).1 (fun e => hne (Option.some.inj e))).trans hh, r⟩

theorem size_ad (w : World) (o : Obj) : w.heap.size ≤ ((w.alloc o).drew).heap.size := by
  show w.heap.size ≤ (w.alloc o).heap.size
  simp

theorem size_ad' {B : Nat} {w : World} {o : Obj} (h : B ≤ w.heap.size) : B ≤ ((w.alloc o).drew).heap.size := Nat.le_trans h (size_ad w o)

theorem chain_below {w wr w2 w3 : World} {o : Obj} {row : Option Nat} (hb : Below w.heap.size w wr) (hg2 : ((wr.alloc o).drew).grownBy w2 (some wr.heap.size)) (hs : w.heap.size ≤ wr.heap.size) (h2 : w.heap.size ≤ w2.heap.size) (hg3 : w2.grownBy w3 row) (hr : ∀ j, row = some j → w.heap.size ≤ j) : Below w.heap.size w w3 := by
  have h1 : Below w.heap.size w (wr.alloc o).drew := Below.drew (hb.alloc hs o)
  exact (h1.grown hg2 (size_ad' hs) (fun j e => by cases e; exact hs)).grown hg3 h2 hr

theorem owns_last {V : World} {base : Nat} {v : Value} {out : List (List UInt8)} {k : Nat} {x : List UInt8} (hl : (out.map encStr).length ≤ k) (h : V.ownsRow base 9 1 v (k + 1) ((out.map encStr).take k ++ [encStr x])) :
    V.ownsRow base 9 1 v (k + (1 + (out.length - k))) ((out.map encStr).take k ++ ([encStr x] ++ (out.map encStr).drop k)) := by
  rw [List.length_map] at hl
  have e : out.length - k = 0 := by omega
  rw [e, List.drop_of_length_le (by rw [List.length_map]; exact hl), List.append_nil]
  exact h

theorem take_mem {xs : List (List UInt8)} {i : Nat} {x : List UInt8} (hx : xs[i]? = some x) (y : List UInt8) : y ∈ xs.take (i + 1) ↔ y ∈ xs.take i ∨ y = x := by
  rw [List.take_add_one, hx]
  simp
theorem put_same {w wr : World} {xs : List (List UInt8)} {i k : Nat} {v : Value} {out : List (List UInt8)} {x : List UInt8} (h : Put w xs i v out wr) (hx : xs[i]? = some x) (he : out[k]? = some x) : Put w xs (i + 1) v out wr :=
  ⟨h.own, h.asc, fun y => by
    rw [take_mem hx, ← h.mem]
    exact ⟨.inl, fun hy => hy.elim id (fun e => e ▸ List.mem_of_getElem? he)⟩, Nat.le_succ_of_le h.len, h.below⟩
theorem put_new {w wr wr' : World} {xs : List (List UInt8)} {i k : Nat} {v v' : Value} {out : List (List UInt8)} {x : List UInt8} (h : Put w xs i v out wr) (hx : xs[i]? = some x) (hk : k ≤ out.length) (h1 : ∀ j, j < k → out[j]! < x) (h2 : k < out.length → ¬ out[k]! < x) (hne : out[k]? ≠ some x)
    (ho : wr'.ownsRow w.heap.size 9 1 v' (k + (1 + (out.length - k))) ((out.map encStr).take k ++ ([encStr x] ++ (out.map encStr).drop k))) (hb : Below w.heap.size w wr') : Put w xs (i + 1) v' (out.take k ++ x :: out.drop k) wr' := by
  obtain ⟨_, p2⟩ := put_spec h.asc x k hk h1 h2
  obtain ⟨pa, pm⟩ := p2 hne
  refine ⟨?_, pa, fun y => by rw [take_mem hx, pm, h.mem], by have := h.len; simp; omega, hb⟩
  have e : (out.take k ++ x :: out.drop k).length = k + (1 + (out.length - k)) := by simp; omega
  rw [e, List.map_append, List.map_cons, List.map_take, List.map_drop]
  exact ho

set_option maxRecDepth 100000 in
set_option maxHeartbeats 2000000 in
theorem refSet_any (v : Value) (xs : List (List UInt8)) (w : World) (h : Strs w w.heap.size v xs) (hl : xs.length ≤ 1000000) :
    Calls Try.prog 38 #[v] w fun e w' => ∃ v', e = .returned v' ∧ Strs w' w'.heap.size v' (setOf xs) ∧ Below w.heap.size w w' := by
  obtain ⟨i0, hi, hz0, hz1, hz2⟩ := info_parts tok.info_str
  obtain ⟨a, cap, rfl, hp⟩ := h.parts
  go_enter Try.func38, Try.ntmps38
  go_wp2
  go_loopw [3, 9] (fun v3 i wr => ∃ (k : Nat) (out : List (List UInt8)), i = .int .i64 (k : Int) ∧ k ≤ xs.length ∧ Put w xs k v3 out wr) (fun _ i _ => xs.length - (intOf i).toNat)
  case atStart => exact ⟨0, [], rfl, Nat.zero_le _, World.ownsRow_nil _ _ _ _, List.Pairwise.nil, by simp, by simp, Below.refl _ _⟩
  case round =>
    obtain ⟨i, out, rfl, hil, hP⟩ := hrel
    by_cases hin : i < xs.length
    · obtain ⟨b, off, rfl, hlt, hc⟩ := hp (by omega)
      obtain ⟨x, hx⟩ : ∃ x, xs[i]? = some x := ⟨_, List.getElem?_eq_getElem hin⟩
      have cx := (hP.below.cell (p := ⟨b, off + i, none⟩) hlt).trans (hc _ _ hx)
      obtain ⟨a3, cap3, rfl, hpo⟩ := put_parts hP.own
      have hol := hP.len
      have HX := Lib.hid (And.intro hx (And.intro hP hpo))
      clear hx hP hpo hc hp
      go_wp2_with fail
      go_loopw [6] (fun kk wr' => ∃ k : Nat, kk = .int .i64 (k : Int) ∧ k ≤ out.length ∧ (∀ j, j < k → out[j]! < x) ∧ wr' = wr) (fun kk _ => out.length - (intOf kk).toNat)
      case atStart => exact ⟨0, rfl, Nat.zero_le _, fun j hj => by omega, rfl⟩
      case round =>
        obtain ⟨k, rfl, hk, hlo, rfl⟩ := hrel
        by_cases hkl : k < out.length
        · obtain ⟨y, hy⟩ : ∃ y, out[k]? = some y := ⟨_, List.getElem?_eq_getElem hkl⟩
          have hyk : out[k]! = y := by rw [getElem!_def, hy]
          rcases HX.out.2.2 with ⟨_, h0, _⟩ | ⟨g, rfl, hlc, hcm, hco⟩
          · rw [h0] at hkl; exact absurd hkl (by simp)
          have cy := hco _ _ hy
          clear hco
          by_cases hyx : y < x
          · have hg : Op.bytesLess y x = true := by rw [bytesLess_eq]; simp [hyx]
            have HY := Lib.hid (And.intro hy hyk)
            clear hy hyk
            go_wp2
            go_roundw
            case rel => exact ⟨k + 1, by exact congrArg _ (by omega), by omega, ⟨fun j hj => by
              by_cases e : j = k
              · subst e; rw [HY.out.2]; exact hyx
              · exact hlo j (by omega), trivial⟩⟩
            case measure => simp [intOf] <;> omega
          · have hg : Op.bytesLess y x = false := by rw [bytesLess_eq]; simp [hyx]
            have HY := Lib.hid (And.intro hy hyk)
            clear hy hyk
            by_cases he : y = x
            · subst he
              have hg2 : (y == y) = true := by simp
              go_wp2
              exact ⟨⟨i + 1, out, by exact congrArg _ (by omega), by omega, put_same HX.out.2.1 HX.out.1 HY.out.1⟩, by simp [intOf] <;> omega⟩
            · have hg2 : (y == x) = false := by simp [he]
              go_wp2
              have HZ := Lib.hid (show (k < out.length → ¬ out[k]! < x) ∧ out[k]? ≠ some x from ⟨fun _ => by rw [HY.out.2]; exact hyx, by rw [HY.out.1]; exact fun e => he (Option.some.inj e)⟩)
              have q1 : k ≤ cap3 := by omega
              have q2 : ¬ cap3 = k := by omega
              have q3 : (0 : Int) ≤ (k : Int) := by omega
              have q4 : (k : Int) ≤ (cap3 : Int) := by omega
              have q5 : (k : Int) ≤ (out.length : Int) := by omega
              obtain ⟨hgb, hgl⟩ := owns_lt HX.out.2.1.own
              have HO := Lib.hid HX.out.2.1.own
              have hne : g ≠ wr.heap.size := by omega
              have hws := HX.out.2.1.below.size
              have A0 := Lib.hid (show ((wr.alloc (.cells #[.string ⟨x.toArray⟩] 9)).drew).ownsRow w.heap.size 9 1 (.slice (some ⟨g, 0, none⟩) k cap3) k ((out.map encStr).take k) from owns_take (HO.out.alloc _) hk)
              go_region_held3 (fun _ => True) (exact trivial) (first
                | (refine step_append_x (by rfl) (.tmp 43) (.tmp 46) _ (by rfl) wr.heap.size 9 i0 _ 1 16 Try.underlying25 hi hz0 hz1 hz2 rfl (by omega) _ 1 [encStr x] (by rfl) (fresh_own wr x)
                    (some ⟨g, k, none⟩) (out.length - k) _ ((out.map encStr).drop k) (by rfl) (by simp) (fun e => by cases e) (news_drop (HO.out.alloc _) k) (enc_one out k) (by omega) (by unfold maxLen; omega) (by omega) (by simp) ?_; intro g2 cap2 w2 hown2 hgrow2 hlt2 hor2)
                | (have A1 := owns_kept (H := wr.heap.size) A0.out hgrow2 hne; have A2 : w.heap.size ≤ w2.heap.size := Nat.le_trans hws (Nat.le_trans (size_ad wr _) hgrow2.size); refine step_append_x (by rfl) (.tmp 41) (.tmp 47) _ (by rfl) w.heap.size 9 i0 _ 1 16 Try.underlying25 hi hz0 hz1 hz2 rfl (by omega) _ k ((out.map encStr).take k) (by rfl) A1
                    (some ⟨g2, 0, none⟩) (1 + (out.length - k)) _ ([encStr x] ++ (out.map encStr).drop k) (by rfl) (by simp <;> omega) (fun e => by cases e) (fun ad e j u hu => by cases e; exact hown2.cells rfl j u hu) (enc_one' x out k) (by omega) (by unfold maxLen; omega) (by omega) A2 ?_; intro g3 cap4 w3 hown3 hgrow3 hlt3 hor3))
              have hbf : Below w.heap.size w w3 := chain_below HX.out.2.1.below hgrow2 hws A2 hgrow3 (fun j e => by cases e; exact hgb)
              have HB := Lib.hid hbf
              have HN := Lib.hid hown3
              clear hbf hown3 hgrow3 hgrow2 hown2 A1 hor2 hor3
              go_wp2
              exact ⟨⟨i + 1, _, by exact congrArg _ (by omega), by omega, put_new HX.out.2.1 HX.out.1 hk hlo HZ.out.1 HZ.out.2 HN.out HB.out⟩, by simp [intOf] <;> omega⟩
        · have hke : k = out.length := by omega
          have HZ := Lib.hid (show (k < out.length → ¬ out[k]! < x) ∧ out[k]? ≠ some x from ⟨fun h' => absurd h' hkl, by rw [List.getElem?_eq_none (by omega)]; exact fun e => by cases e⟩)
          have r1 : ¬ (k : Int) < (out.length : Int) := by omega
          have r2 : ((k : Int) == (out.length : Int)) = true := by simp; omega
          rcases HX.out.2.2 with ⟨rfl, rfl, rfl⟩ | ⟨g, rfl, hlc, hcm, _⟩
          · obtain rfl : k = 0 := by simpa using hke
            clear hke
            rw [show ((0 : Nat) : Int) = 0 from rfl]
            simp only [List.length_nil] at *
            go_wp2
            have hws := HX.out.2.1.below.size
            go_region_held3 (fun _ => True) (exact trivial) (first
              | (refine step_append_x (by rfl) (.tmp 43) (.tmp 46) _ (by rfl) wr.heap.size 9 i0 _ 1 16 Try.underlying25 hi hz0 hz1 hz2 rfl (by omega) _ 1 [encStr x] (by rfl) (fresh_own wr x)
                  none 0 _ [] (by rfl) (by simp) (fun _ => rfl) (fun ad e => by cases e) (fun u hu => by cases hu) (by omega) (by unfold maxLen; omega) (by omega) (by simp) ?_; intro g2 cap2 w2 hown2 hgrow2 hlt2 hor2)
              | (have A2 : w.heap.size ≤ w2.heap.size := Nat.le_trans hws (Nat.le_trans (size_ad wr _) hgrow2.size); refine step_append_x (by rfl) (.tmp 41) (.tmp 47) _ (by rfl) w.heap.size 9 i0 _ 1 16 Try.underlying25 hi hz0 hz1 hz2 rfl (by omega) (.slice none 0 0) 0 [] (by rfl) (World.ownsRow_nil _ _ _ _)
                  (some ⟨g2, 0, none⟩) 1 _ [encStr x] (by rfl) (by simp) (fun e => by cases e) (fun ad e j u hu => by cases e; exact hown2.cells rfl j u hu) (fun u hu => by rw [List.mem_singleton.1 hu]; rfl) (by omega) (by unfold maxLen; omega) (by omega) A2 ?_; intro g3 cap4 w3 hown3 hgrow3 hlt3 hor3))
            have hbf : Below w.heap.size w w3 := chain_below HX.out.2.1.below hgrow2 hws A2 hgrow3 (fun j e => by cases e)
            have HB := Lib.hid hbf
            have HN := Lib.hid hown3
            clear hbf hown3 hgrow3 hgrow2 hown2 hor2 hor3
            go_wp2
            exact ⟨⟨i + 1, [x], by exact congrArg _ (by omega), by omega, put_new (k := 0) HX.out.2.1 HX.out.1 hk hlo HZ.out.1 HZ.out.2 HN.out HB.out⟩, by simp [intOf] <;> omega⟩
          · clear hke
            by_cases hcc : cap3 = k
            · have hcc' := hcc.symm
              subst hcc'
              go_wp2
              have hlk : (out.map encStr).length ≤ k := by rw [List.length_map]; exact hlc
              have q1 : k ≤ k := by omega
              have q3 : (0 : Int) ≤ (k : Int) := by omega
              have q4 : (k : Int) ≤ (k : Int) := by omega
              have q5 : (k : Int) ≤ (out.length : Int) := by omega
              obtain ⟨hgb, hgl⟩ := owns_lt HX.out.2.1.own
              have HO := Lib.hid HX.out.2.1.own
              have hne : g ≠ wr.heap.size := by omega
              have hws := HX.out.2.1.below.size
              have A0 := Lib.hid (show ((wr.alloc (.cells #[.string ⟨x.toArray⟩] 9)).drew).ownsRow w.heap.size 9 1 (.slice (some ⟨g, 0, none⟩) k k) k ((out.map encStr).take k) from owns_take (HO.out.alloc _) hk)
              go_region_held3 (fun _ => True) (exact trivial) (first
                | (refine step_append_x (by rfl) (.tmp 43) (.tmp 46) _ (by rfl) wr.heap.size 9 i0 _ 1 16 Try.underlying25 hi hz0 hz1 hz2 rfl (by omega) _ 1 [encStr x] (by rfl) (fresh_own wr x)
                    (some ⟨g, 0, none⟩) 0 _ [] (by rfl) (by simp) (fun e => rfl) (fun ad e j u hu => by cases hu) (fun u hu => by cases hu) (by omega) (by unfold maxLen; omega) (by omega) (by simp) ?_; intro g2 cap2 w2 hown2 hgrow2 hlt2 hor2)
                | (have A1 := owns_kept (H := wr.heap.size) A0.out hgrow2 hne; have A2 : w.heap.size ≤ w2.heap.size := Nat.le_trans hws (Nat.le_trans (size_ad wr _) hgrow2.size); refine step_append_x (by rfl) (.tmp 41) (.tmp 47) _ (by rfl) w.heap.size 9 i0 _ 1 16 Try.underlying25 hi hz0 hz1 hz2 rfl (by omega) _ k ((out.map encStr).take k) (by rfl) A1
                    (some ⟨g2, 0, none⟩) 1 _ [encStr x] (by rfl) (by simp) (fun e => by cases e) (fun ad e j u hu => by cases e; exact hown2.cells rfl j u hu) (fun u hu => by rw [List.mem_singleton.1 hu]; rfl) (by omega) (by unfold maxLen; omega) (by omega) A2 ?_; intro g3 cap4 w3 hown3 hgrow3 hlt3 hor3))
              have hbf : Below w.heap.size w w3 := chain_below HX.out.2.1.below hgrow2 hws A2 hgrow3 (fun j e => by cases e; exact hgb)
              have HB := Lib.hid hbf
              have HN := Lib.hid (owns_last hlk hown3)
              clear hbf hown3 hgrow3 hgrow2 hown2 A1 hor2 hor3
              go_wp2
              exact ⟨⟨i + 1, _, by exact congrArg _ (by omega), by omega, put_new HX.out.2.1 HX.out.1 hk hlo HZ.out.1 HZ.out.2 HN.out HB.out⟩, by simp [intOf] <;> omega⟩
            · skip
              go_wp2
              have q1 : k ≤ cap3 := by omega
              have q2 : ¬ cap3 = k := hcc
              have q3 : (0 : Int) ≤ (k : Int) := by omega
              have q4 : (k : Int) ≤ (cap3 : Int) := by omega
              have q5 : (k : Int) ≤ (out.length : Int) := by omega
              obtain ⟨hgb, hgl⟩ := owns_lt HX.out.2.1.own
              have HO := Lib.hid HX.out.2.1.own
              have hne : g ≠ wr.heap.size := by omega
              have hws := HX.out.2.1.below.size
              have A0 := Lib.hid (show ((wr.alloc (.cells #[.string ⟨x.toArray⟩] 9)).drew).ownsRow w.heap.size 9 1 (.slice (some ⟨g, 0, none⟩) k cap3) k ((out.map encStr).take k) from owns_take (HO.out.alloc _) hk)
              go_region_held3 (fun _ => True) (exact trivial) (first
                | (refine step_append_x (by rfl) (.tmp 43) (.tmp 46) _ (by rfl) wr.heap.size 9 i0 _ 1 16 Try.underlying25 hi hz0 hz1 hz2 rfl (by omega) _ 1 [encStr x] (by rfl) (fresh_own wr x)
                    (some ⟨g, k, none⟩) (out.length - k) _ ((out.map encStr).drop k) (by rfl) (by simp) (fun e => by cases e) (news_drop (HO.out.alloc _) k) (enc_one out k) (by omega) (by unfold maxLen; omega) (by omega) (by simp) ?_; intro g2 cap2 w2 hown2 hgrow2 hlt2 hor2)
                | (have A1 := owns_kept (H := wr.heap.size) A0.out hgrow2 hne; have A2 : w.heap.size ≤ w2.heap.size := Nat.le_trans hws (Nat.le_trans (size_ad wr _) hgrow2.size); refine step_append_x (by rfl) (.tmp 41) (.tmp 47) _ (by rfl) w.heap.size 9 i0 _ 1 16 Try.underlying25 hi hz0 hz1 hz2 rfl (by omega) _ k ((out.map encStr).take k) (by rfl) A1
                    (some ⟨g2, 0, none⟩) (1 + (out.length - k)) _ ([encStr x] ++ (out.map encStr).drop k) (by rfl) (by simp <;> omega) (fun e => by cases e) (fun ad e j u hu => by cases e; exact hown2.cells rfl j u hu) (enc_one' x out k) (by omega) (by unfold maxLen; omega) (by omega) A2 ?_; intro g3 cap4 w3 hown3 hgrow3 hlt3 hor3))
              have hbf : Below w.heap.size w w3 := chain_below HX.out.2.1.below hgrow2 hws A2 hgrow3 (fun j e => by cases e; exact hgb)
              have HB := Lib.hid hbf
              have HN := Lib.hid hown3
              clear hbf hown3 hgrow3 hgrow2 hown2 A1 hor2 hor3
              go_wp2
              exact ⟨⟨i + 1, _, by exact congrArg _ (by omega), by omega, put_new HX.out.2.1 HX.out.1 hk hlo HZ.out.1 HZ.out.2 HN.out HB.out⟩, by simp [intOf] <;> omega⟩
    · obtain rfl : i = xs.length := by omega
      have hset : setOf xs = out := setOf_eq hP.asc (fun y => by rw [hP.mem, List.take_length])
      have HP := Lib.hid hP
      clear hP
      go_wp2
      go_ret
      refine ⟨u3, rfl, ?_, HP.out.below⟩
      rw [hset]
      exact strs_of_owns HP.out.own
end Go.Proofs.Ytgmnjiiommbjaaa.tx
