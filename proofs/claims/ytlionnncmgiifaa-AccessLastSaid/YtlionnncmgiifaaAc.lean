/- access: May: the last permission that concerns the user and the column decides; none: no. -/
import Derived.Test.YtlionnncmgiifaaAb
set_option linter.unusedVariables false
set_option linter.unusedSimpArgs false
namespace Go.Proofs.Ytlionnncmgiifaa.acc
open Go.RowKit

attribute [local go_sem] Oper.semAt_some

/-- may the user u see column c of table t -/
def may (l : List Perm) (u : ByteArray) (t c : Int) : Bool :=
  match l.reverse.find? (hit u t c) with
  | none => false
  | some p => p.a

set_option maxRecDepth 100000 in
set_option maxHeartbeats 400000 in
theorem concerning (n : Nat) (a : Option Addr) (len cap : Nat) (u : ByteArray) (t c : Int) (w : World) :
    CallsIn Fence.wide n Try.prog 13 #[.slice a len cap, .string u, .agg #[.int .i64 t, .int .i64 c]] w fun e w' =>
      e = .returned (.func (.func 21) #[] #[.pointer (some ⟨w.heap.size, 0, none⟩), .pointer (some ⟨w.heap.size + 1, 0, none⟩), .pointer (some ⟨w.heap.size + 2, 0, none⟩)]) ∧
      w' = ((w.alloc (.cells #[.slice a len cap] 25)).alloc (.cells #[.string u] 9)).alloc (.cells #[.int .i64 t, .int .i64 c] 30) := by
  refine callsIn_of_wp Try.func13 rfl trivial ?_ rfl
  simp only [Try.ntmps13, List.size_toArray, List.length_cons, List.length_nil, Nat.reduceAdd, Nat.reduceSub, Array.replicate_succ, Array.replicate_zero, List.push_toArray, List.append_toArray, List.nil_append, List.cons_append]
  gi_wp2
  go_ret
  exact ⟨rfl, rfl⟩

/-- how the body of the one round is left -/
def retPost (B : Nat) (W : World) (R : World → Prop) : Exit → Act → World → Prop := fun e _ W' => e = .ret ∧ W.heap.size ≤ W'.heap.size ∧ (∀ k, B ≤ k → W'.heap[k]? = W.heap[k]?) ∧ R W'

/-- A loop over a function whose body leaves the caller at the first round: I holds ahead of it, Ix p where the round for p has left. -/
theorem wpIn_first {P : Program} {g : Operand} {ps : Array Tmp} {assign body : Code} {Q : Exit → Act → World → Prop} {a : Act} {w : World} {n : Nat} (h1 : 1 ≤ n)
    {gf : Nat} {lb : Array Value} (hg : a.eval g = .func (.func gf) #[] lb) (eg : ∀ args w, (callFunc gf args).run P w = .ok (.enter gf args) w) {o : Option Perm} {f : Perm → Bool}
    (hseq : ∀ (l : Nat) (W : World) (J : World → Prop) (Jx : Perm → World → Prop), Below w.heap.size w W → OwnFrom W.heap.size (fun (_ : Unit) => J) → (∀ p, OwnFrom W.heap.size (fun (_ : Unit) => Jx p)) →
      (∀ p W1, f p = true → J W1 → W.heap.size ≤ W1.heap.size → YieldAt Fence.wide 0 P l #[p.val] W1 fun e W' => e = .returned (.bool false) ∧ Jx p W' ∧ KeepsFrom W.heap.size W1 W') → J W →
      CallsIn Fence.wide (n - 1) P gf (#[.func (.yield l) #[] #[]] ++ lb) W fun e W' => (∃ v, e = .returned v) ∧ Left J Jx o W')
    (hps : ps.size = 1) (I : World → Prop) (Ix : Perm → World → Prop) (hI : OwnFrom w.heap.size (fun (_ : Unit) => I)) (hIx : ∀ p, OwnFrom w.heap.size (fun (_ : Unit) => Ix p)) (h0 : I w)
    (Ax : Perm → Act → World → Prop) (hAx : ∀ p a', OwnFrom w.heap.size (fun (_ : Unit) => Ax p a'))
    (hassign : ∀ (l : Nat) (p : Perm) (W : World) (K : Act → World → Prop), I W → (∀ a' W', (∀ (k : Nat) (o : Obj), W.heap[k]? = some o → W'.heap[k]? = some o) → I W' → Ax p a' W' → K a' W') →
      assign.wpIn (Fence.wide.inRound l) 0 P (Exit.then K (fun _ _ _ => False)) { tmps := (ps.zip #[p.val]).foldl (fun t (p, v) => t.setIfInBounds p v) a.tmps, defers := [] } W)
    (hbody : ∀ (l : Nat) (p : Perm) (a' : Act) (W : World), f p = true → I W → Ax p a' W →
      body.wpIn (Fence.wide.inRound l) 0 P (retPost w.heap.size W (Ix p)) a' W)
    (hdone : ∀ (D : Nat) (W : World), o = none → w.heap.size ≤ D → I W → W.heap[D]? = some (.deferred (some [])) → Q .normal { a with defers := { target := .collected D, args := #[] } :: a.defers } W)
    (hstop : ∀ (D : Nat) (p : Perm) (W : World), o = some p → w.heap.size ≤ D → Ix p W → W.heap[D]? = some (.deferred (some [])) → Code.ret.wpIn Fence.wide n P Q { a with defers := { target := .collected D, args := #[] } :: a.defers } W) :
    (Code.rangeFunc g ps assign body).wpIn Fence.wide n P Q a w := by
  refine wpIn_rangeFunc ?_
  intro fn _
  obtain ⟨rc, hrc⟩ : ∃ rc : LoopState → Option Code → Loop, rc = fun st pe => { state := st, pending := pe, fn, tmps := a.tmps, params := ps, assign, body, defers := w.heap.size } := ⟨_, rfl⟩
  obtain ⟨W1, hW1⟩ : ∃ W1, (w.alloc (.deferred (some []))).alloc (.loop (rc .ready none)) = W1 := ⟨_, rfl⟩
  have hs1 : W1.heap.size = w.heap.size + 2 := by rw [← hW1]; simp
  have hL1 : W1.heap[w.heap.size + 1]? = some (.loop (rc .ready none)) := by
    rw [← hW1]
    have := World.alloc_heap_new (w.alloc (.deferred (some []))) (.loop (rc .ready none))
    rwa [World.size_alloc] at this
  have hD1 : W1.heap[w.heap.size]? = some (.deferred (some [])) := by
    rw [← hW1]
    exact (Below.heap_alloc _ _ _ (by simp)).trans (World.alloc_heap_new w _)
  have hb1 : Below w.heap.size w W1 := by
    rw [← hW1]
    exact ((Below.refl _ w).alloc (Nat.le_refl _) _).alloc (by simp) _
  have hI1 : I W1 := by
    rw [← hW1]
    exact hI.alloc (s := ()) _ (hI.alloc (s := ()) _ h0)
  -- what is said of the two blocks of the loop abides what grows behind them
  have hkeep : ∀ (o1 : Obj) (A B : World) (row : Option Nat) (k : Nat), k < W1.heap.size → A.heap[k]? = some o1 → A.grownBy B row → (∀ r, row = some r → W1.heap.size ≤ r ∧ ∃ o : Obj, A.heap[r]? = some o ∧ o.isCells = false) → B.heap[k]? = some o1 := by
    intro o1 A B row k hk ha hg hr
    refine (hg.block k (Array.getElem?_eq_some_iff.1 ha).1 (fun e => ?_)).trans ha
    have := (hr k e.symm).1
    omega
  refine ⟨w.heap.size + 1, [{ target := .collected w.heap.size, args := #[] }], W1, { target := .fn (.func gf) lb, args := #[.func (.yield (w.heap.size + 1)) #[] #[]] }, W1, gf, #[.func (.yield (w.heap.size + 1)) #[] #[]] ++ lb, W1, ?_, ?_, ?_, ?_, fun _ => h1, ?_⟩
  · rw [← hW1, hrc]
    exact run_enterLoop_outer _ _ _ _ _
  · simp only [resolve, hg]
    simp [go_sem]
  · intro f' _
    trivial
  · simp [invoke, go_sem, eg]
  · refine (hseq (w.heap.size + 1) W1
      (fun W => I W ∧ W.heap[w.heap.size + 1]? = some (.loop (rc .ready none)) ∧ W.heap[w.heap.size]? = some (.deferred (some [])))
      (fun p W => Ix p W ∧ W.heap[w.heap.size + 1]? = some (.loop (rc .done (some .ret))) ∧ W.heap[w.heap.size]? = some (.deferred (some [])))
      hb1 ?_ ?_ ?_ ⟨hI1, hL1, hD1⟩).mono ?_
    · intro s A B row hs hg hr
      exact ⟨hI () A B row hs.1 hg (fun r e => ⟨by have := (hr r e).1; omega, (hr r e).2⟩), hkeep _ A B row _ (by omega) hs.2.1 hg hr, hkeep _ A B row _ (by omega) hs.2.2 hg hr⟩
    · intro p s A B row hs hg hr
      exact ⟨hIx p () A B row hs.1 hg (fun r e => ⟨by have := (hr r e).1; omega, (hr r e).2⟩), hkeep _ A B row _ (by omega) hs.2.1 hg hr, hkeep _ A B row _ (by omega) hs.2.2 hg hr⟩
    · rintro p W hf ⟨hi, hl, hd⟩ hsz
      have hy := run_yield (P := P) (args := #[p.val]) hl (by rw [hrc]; exact hps.symm)
      rw [hrc] at hy
      refine ⟨fn, _, assign, body, hy, roundIn_of_wpIn trivial (hassign _ p W _ hi ?_)⟩
      intro a' Wa hka hia hax
      have hla := hka _ _ hl
      have hda := hka _ _ hd
      refine ⟨_, run_beginRound hla (by rw [hrc]), ?_⟩
      have hlt : w.heap.size + 1 < Wa.heap.size := (Array.getElem?_eq_some_iff.1 hla).1
      have hl2 : (Wa.putObj (w.heap.size + 1) (.loop { rc .ready none with state := .busy })).heap[w.heap.size + 1]? = some (.loop { rc .ready none with state := .busy }) := World.putObj_heap_same hlt
      have hd2 : (Wa.putObj (w.heap.size + 1) (.loop { rc .ready none with state := .busy })).heap[w.heap.size]? = some (.deferred (some [])) := (World.putObj_heap_other (by omega)).trans hda
      refine wpIn_mono (hbody _ p a' _ hf (hI.putObj (s := ()) _ hia (by omega) hla rfl) ((hAx p a').putObj (s := ()) _ hax (by omega) hla rfl)) ?_
      rintro e a3 W3 ⟨rfl, hko, hk3, hix⟩
      have hl3 := (hk3 _ (by omega)).trans hl2
      have hd3 := (hk3 _ (Nat.le_refl _)).trans hd2
      have hr := run_endRound (P := P) (some .ret) hl3
      refine ⟨_, _, hr, rfl, ⟨(hIx p).putObj (s := ()) _ hix (by omega) hl3 rfl, ?_, (World.putObj_heap_other (by omega)).trans hd3⟩, ?_⟩
      · rw [World.putObj_heap_same (Array.getElem?_eq_some_iff.1 hl3).1, hrc]
        rfl
      · refine ⟨?_, fun k o1 hB hk ho => ?_⟩
        · have e1 : W.heap.size ≤ Wa.heap.size := by
            by_cases h : Wa.heap.size < W.heap.size
            · have := (Array.getElem?_eq_some_iff.1 (hka _ _ (Array.getElem?_eq_getElem h))).1
              omega
            · omega
          simp only [World.putObj_size] at hko ⊢
          omega
        · have hne : k ≠ w.heap.size + 1 := by omega
          rw [World.putObj_heap_other hne, hk3 k (by omega), World.putObj_heap_other hne]
          exact hka _ _ hk
    · rintro e W2 ⟨⟨v, rfl⟩, hleft⟩
      cases o with
      | none =>
        obtain ⟨hi, hl, hd⟩ := hleft
        exact ⟨none, _, by have := run_endLoop (P := P) hl (by rw [hrc]; simp); rw [hrc] at this; exact this, hdone _ _ rfl (Nat.le_refl _) (hI.putObj (s := ()) _ hi (by omega) hl rfl) ((World.putObj_heap_other (by omega)).trans hd)⟩
      | some p =>
        obtain ⟨hi, hl, hd⟩ := hleft
        exact ⟨some .ret, _, by have := run_endLoop (P := P) hl (by rw [hrc]; simp); rw [hrc] at this; exact this, hstop _ p _ rfl (Nat.le_refl _) ((hIx p).putObj (s := ()) _ hi (by omega) hl rfl) ((World.putObj_heap_other (by omega)).trans hd)⟩

theorem lt_of {a b c : Nat} (h : b = c + 5) (k : a < c + 5) : a < b := by omega

set_option maxRecDepth 100000 in
set_option maxHeartbeats 2000000 in
theorem may_in (v : Value) (ps : List Perm) (u : ByteArray) (t c : Int) (w : World) (hI : Perms w.heap.size w v ps) :
    CallsIn Fence.wide 9 Try.prog 8 #[v, .string u, .agg #[.int .i64 t, .int .i64 c]] w fun e w' => e = .returned (.bool (may ps u t c)) ∧ Below w.heap.size w w' := by
  refine callsIn_of_wp_marks Try.func8 rfl trivial ?_ rfl
  simp only [Try.ntmps8, List.size_toArray, List.length_cons, List.length_nil, Nat.reduceAdd, Nat.reduceSub, Array.replicate_succ, Array.replicate_zero, List.push_toArray, List.append_toArray, List.nil_append, List.cons_append]
  obtain ⟨a, len, cap, rfl⟩ : ∃ a len cap, v = .slice a len cap := by
    obtain ⟨_, ⟨rfl, _⟩ | ⟨b, off, cap, rfl, _⟩⟩ := hI
    · exact ⟨_, _, _, rfl⟩
    · exact ⟨_, _, _, rfl⟩
  gi_wp2
  refine ⟨trivial, (concerning _ _ _ _ _ _ _ _).mono ?_⟩
  rintro e w' ⟨rfl, rfl⟩
  gi_wp2
  obtain ⟨w1, hw1⟩ : ∃ w1, w1 = ((((w.alloc (.cells #[.int .i64 t, .int .i64 c] 30)).alloc (.cells #[.bool false] 4)).alloc (.cells #[.slice a len cap] 25)).alloc (.cells #[.string u] 9)).alloc (.cells #[.int .i64 t, .int .i64 c] 30) := ⟨_, rfl⟩
  have hs1 : w1.heap.size = w.heap.size + 5 := by rw [hw1]; simp
  have hb1 : Below w.heap.size w w1 := by
    rw [hw1]
    exact (((((Below.refl _ w).alloc (Nat.le_refl _) _).alloc (by simp) _).alloc (by simp; omega) _).alloc (by simp; omega) _).alloc (by simp; omega) _
  have hR : Boxed w1 (w.heap.size + 1) 4 (.bool false) := by
    rw [hw1]
    have := Boxed.new (w.alloc (.cells #[.int .i64 t, .int .i64 c] 30)) 4 (.bool false)
    rw [World.size_alloc] at this
    exact ((this.alloc _).alloc _).alloc _
  have hl : w1.cell? ⟨w.heap.size + 1 + 1, 0, none⟩ = some (.slice a len cap) := by
    rw [hw1]
    have := Boxed.new ((w.alloc (.cells #[.int .i64 t, .int .i64 c] 30)).alloc (.cells #[.bool false] 4)) 25 (.slice a len cap)
    simp only [World.size_alloc] at this
    exact ((this.alloc _).alloc _).cell
  have hu : w1.cell? ⟨w.heap.size + 1 + 1 + 1, 0, none⟩ = some (.string u) := by
    rw [hw1]
    have := Boxed.new (((w.alloc (.cells #[.int .i64 t, .int .i64 c] 30)).alloc (.cells #[.bool false] 4)).alloc (.cells #[.slice a len cap] 25)) 9 (.string u)
    simp only [World.size_alloc] at this
    exact (this.alloc _).cell
  have hr : w1.heap[w.heap.size + 1 + 1 + 2]? = some (.cells #[.int .i64 t, .int .i64 c] 30) := by
    rw [hw1]
    have := World.alloc_heap_new ((((w.alloc (.cells #[.int .i64 t, .int .i64 c] 30)).alloc (.cells #[.bool false] 4)).alloc (.cells #[.slice a len cap] 25)).alloc (.cells #[.string u] 9)) (.cells #[.int .i64 t, .int .i64 c] 30)
    simpa only [World.size_alloc] using this
  have hr0 : w1.cell? ⟨w.heap.size + 1 + 1 + 2, 0, none⟩ = some (.int .i64 t) := by simp only [World.cell?, hr]; rfl
  have hr1 : w1.cell? ⟨w.heap.size + 1 + 1 + 2, 1, none⟩ = some (.int .i64 c) := by simp only [World.cell?, hr]; rfl
  have hI1 : Perms w1.heap.size w1 (.slice a len cap) ps := (hI.below hb1).more (by omega)
  rw [← hw1]
  clear hw1 hr
  refine wpIn_first (by decide) (gf := 21) (lb := #[.pointer (some ⟨w.heap.size + 1 + 1, 0, none⟩), .pointer (some ⟨w.heap.size + 1 + 1 + 1, 0, none⟩), .pointer (some ⟨w.heap.size + 1 + 1 + 2, 0, none⟩)]) rfl
    (enters_of Try.func21 (by kernel_rfl) rfl) (o := ps.reverse.find? (hit u t c)) (f := hit u t c) ?seq rfl
    (fun W => Below w.heap.size w W ∧ Boxed W (w.heap.size + 1) 4 (.bool false)) (fun p W => Below w.heap.size w W ∧ Boxed W (w.heap.size + 1) 4 (.bool p.a)) ?own1 ?own2 ⟨hb1, hR⟩
    (fun p a' W' => ∃ Bx, At4 W' Bx 0 p ∧ a' = { tmps := #[.slice a len cap, .string u, .agg #[.int .i64 t, .int .i64 c], undef, undef, .pointer (some ⟨w.heap.size, 0, none⟩), .pointer (some ⟨w.heap.size + 1, 0, none⟩), .pointer (some ⟨Bx, 0, none⟩), .slice a len cap, .string u, .agg #[.int .i64 t, .int .i64 c], .func (.func 21) #[] #[.pointer (some ⟨w.heap.size + 1 + 1, 0, none⟩), .pointer (some ⟨w.heap.size + 1 + 1 + 1, 0, none⟩), .pointer (some ⟨w.heap.size + 1 + 1 + 2, 0, none⟩)], p.val, undef, undef], defers := [] }) ?ax ?assign ?body ?done ?stop
  case seq =>
    intro l W J Jx hW hJ hJx hY h0
    exact conc1 _ (by decide) l _ _ _ _ ps u t c W ((hW.cell (p := ⟨_, 0, none⟩) (lt_of hs1 (by dsimp only; omega))).trans hl) ((hW.cell (p := ⟨_, 0, none⟩) (lt_of hs1 (by dsimp only; omega))).trans hu) ((hW.cell (p := ⟨_, 0, none⟩) (lt_of hs1 (by dsimp only; omega))).trans hr0) ((hW.cell (p := ⟨_, 1, none⟩) (lt_of hs1 (by dsimp only; omega))).trans hr1)
      ((hI1.below hW).more hW.size) J Jx hJ hJx hY h0
  case own1 => exact OwnFrom.and (ownFrom_below (Nat.le_refl _) (by omega)) (Own.from (boxed_own _ _ (fun _ => .bool false)) _)
  case own2 => exact fun p => OwnFrom.and (ownFrom_below (Nat.le_refl _) (by omega)) (Own.from (boxed_own _ _ (fun _ => .bool p.a)) _)
  case ax =>
    intro p a' s A B row hs hg hr
    obtain ⟨Bx, h, e⟩ := hs
    exact ⟨Bx, h.kept hg (fun r e => (hr r e).2), e⟩
  case assign =>
    rintro l p X K ⟨hbx, hbo⟩ hK
    have hlt := hbx.size
    simp only [Perm.val]
    gi_wp2
    exact hK _ _ (fun k o hk => (Below.heap_alloc _ _ k (Array.getElem?_eq_some_iff.1 hk).1).trans hk) ⟨hbx.alloc hlt _, hbo.alloc _⟩ ⟨X.heap.size, at4_new X _ p, rfl⟩
  case body =>
    rintro l p a' X hf ⟨hbx, hbo⟩ ⟨Bx, hx, rfl⟩
    obtain ⟨x0, x1, x2, x3⟩ := hx
    simp only [Nat.zero_add] at x0 x1 x2 x3
    have f1 := hbo.cell
    have f2 := hbo.frozen
    simp only [Perm.val]
    gi_wp2
    exact ⟨rfl, by simp, fun k hk => Below.heap_setCell X ⟨w.heap.size + 1, 0, none⟩ _ k (by show k ≠ w.heap.size + 1; omega), hbx.setCell (p := ⟨w.heap.size + 1, 0, none⟩) (Nat.le_add_right _ _) _, hbo.set _⟩
  case done =>
    rintro D X hn hD ⟨hbx, hbo⟩ hK
    have f1 := hbo.cell
    have f2 := hbo.frozen
    gi_wp2
    have hK' := (KeepsOthers.setCell X ⟨w.heap.size + 1, 0, none⟩ (.bool false)).same D _ hK rfl
    have hbo' := ((hbo.set (.bool false)).kept (grownBy_putObj' _ D (.deferred none)) (fun e => by have := Option.some.inj e; omega)).cell
    refine ⟨by simp, .inl ⟨_, _, rfl, run_takeDeferred hK', ?_⟩⟩
    refine ⟨.bool false, ?_, by rw [may, hn], (hbx.setCell (p := ⟨w.heap.size + 1, 0, none⟩) (Nat.le_add_right _ _) _).grown (grownBy_putObj' _ D (.deferred none)) (by have := hbx.size; simpa using this) (fun k e => by have := Option.some.inj e; omega)⟩
    simp [results, Try.f8, go_sem, hbo']
  case stop =>
    rintro D p X hn hD ⟨hbx, hbo⟩ hK
    gi_wp2
    have hbo' := (hbo.kept (grownBy_putObj' _ D (.deferred none)) (fun e => by have := Option.some.inj e; omega)).cell
    refine ⟨by simp, .inl ⟨_, _, rfl, run_takeDeferred hK, ?_⟩⟩
    refine ⟨.bool p.a, ?_, by rw [may, hn], hbx.grown (grownBy_putObj' _ D (.deferred none)) hbx.size (fun k e => by have := Option.some.inj e; omega)⟩
    simp [results, Try.f8, go_sem, hbo']

theorem may_any (v : Value) (ps : List Perm) (u : ByteArray) (t c : Int) (w : World) (hI : Perms w.heap.size w v ps) :
    Calls Try.prog 8 #[v, .string u, .agg #[.int .i64 t, .int .i64 c]] w fun e w' => e = .returned (.bool (may ps u t c)) ∧ Below w.heap.size w w' :=
  callsIn_wide.1 (may_in v ps u t c w hI)

end Go.Proofs.Ytlionnncmgiifaa.acc
