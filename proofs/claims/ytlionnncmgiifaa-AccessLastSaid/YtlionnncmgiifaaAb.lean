/- access: the permissions that concern a user and a column, the last one first: the closure of concerning, up to the first one that its loop takes and leaves with. -/
import Derived.Test.YtlionnncmgiifaaAa
import Derived.MapKept
set_option linter.unusedVariables false
set_option linter.unusedSimpArgs false
namespace Go.Proofs.Ytlionnncmgiifaa.acc
open Go.RowKit

attribute [local go_sem] Oper.semAt_some

/-- does a permission concern the user u and the column c of table t -/
def hit (u : ByteArray) (t c : Int) (p : Perm) : Bool := decide (p.u = u) && (decide (p.t = 0) || decide (p.t = t)) && (decide (p.c = -1) || decide (p.c = c))

theorem At4.kept {W W' : World} {row : Option Nat} {b o : Nat} {p : Perm} (h : At4 W b o p) (hg : W.grownBy W' row) (hr : ∀ r, row = some r → ∃ o : Obj, W.heap[r]? = some o ∧ o.isCells = false) : At4 W' b o p :=
  ⟨cell_kept h.c0 hg hr, cell_kept h.c1 hg hr, cell_kept h.c2 hg hr, cell_kept h.c3 hg hr⟩

theorem find_none {ps : List Perm} {f : Perm → Bool} (h : ∀ x ∈ lastOf ps ps.length, f x.2 = false) : ps.reverse.find? f = none := by
  rw [List.find?_eq_none, ← lastOf_all]
  intro p hp
  obtain ⟨x, hx, rfl⟩ := List.mem_map.1 hp
  simp [h x hx]

theorem find_some {ps : List Perm} {f : Perm → Bool} {k : Nat} {ini : List (Int × Perm)} {x : Int × Perm} (e : lastOf ps k = ini ++ [x]) (h : ∀ y ∈ ini, f y.2 = false) (hx : f x.2 = true) : ps.reverse.find? f = some x.2 := by
  have e2 : ps.reverse = (ini.map (·.2) ++ [x.2]) ++ ps.reverse.drop k := by
    conv => lhs; rw [← List.take_append_drop k ps.reverse]
    rw [← lastOf_snd, e]
    simp
  rw [e2, List.append_assoc, List.find?_append, List.find?_eq_none.2 (fun p hp => by obtain ⟨y, hy, rfl⟩ := List.mem_map.1 hp; simp [h y hy])]
  simp [hx]

/-- what the loop over slices.Backward holds: the boxes -/
structure Boxes3 (W : World) (By B2 B3 : Nat) (y u : Value) (t c : Int) : Prop where
  y : W.cell? ⟨By, 0, none⟩ = some y
  u : W.cell? ⟨B2, 0, none⟩ = some u
  t : W.cell? ⟨B3, 0, none⟩ = some (.int .i64 t)
  c : W.cell? ⟨B3, 1, none⟩ = some (.int .i64 c)

theorem Boxes3.kept {W W' : World} {row : Option Nat} {By B2 B3 : Nat} {y u : Value} {t c : Int} (h : Boxes3 W By B2 B3 y u t c) (hg : W.grownBy W' row) (hr : ∀ r, row = some r → ∃ o : Obj, W.heap[r]? = some o ∧ o.isCells = false) : Boxes3 W' By B2 B3 y u t c :=
  ⟨cell_kept h.y hg hr, cell_kept h.u hg hr, cell_kept h.t hg hr, cell_kept h.c hg hr⟩

theorem cell_alloc {W : World} {a : Addr} {v : Value} (o : Obj) (h : W.cell? a = some v) : (W.alloc o).cell? a = some v := cell_kept h (World.grownBy_alloc W o none) (fun r e => by cases e)
theorem at4_new (W : World) (T : TypeId) (p : Perm) : At4 (W.alloc (.cells #[.string p.u, .bool p.a, .int .i64 p.t, .int .i64 p.c] T)) W.heap.size 0 p := by
  have h := World.alloc_heap_new W (.cells #[.string p.u, .bool p.a, .int .i64 p.t, .int .i64 p.c] T)
  constructor <;> simp only [World.cell?, h] <;> rfl
theorem toList_inj {a b : ByteArray} (h : a.toList = b.toList) : a = b := by
  cases a; cases b
  simpa [ByteArray.toList_eq] using h
theorem toList_ne {a b : ByteArray} (h : ¬ a = b) : (a.toList == b.toList) = false := by
  cases e : (a.toList == b.toList)
  · rfl
  · exact absurd (toList_inj (eq_of_beq e)) h
theorem no_row {W : World} (r : Nat) (e : (none : Option Nat) = some r) : ∃ o : Obj, W.heap[r]? = some o ∧ o.isCells = false := by cases e

/-- how the loop over the permissions that concern has been left -/
def Left (J : World → Prop) (Jx : Perm → World → Prop) (o : Option Perm) (W : World) : Prop :=
  match o with
  | none => J W
  | some p => Jx p W

set_option maxRecDepth 100000 in
set_option maxHeartbeats 2000000 in
theorem conc1 (n : Nat) (hn : 1 ≤ n) (l B1 B2 B3 : Nat) (v : Value) (ps : List Perm) (u : ByteArray) (t c : Int) (W : World)
    (h1 : W.cell? ⟨B1, 0, none⟩ = some v) (h2 : W.cell? ⟨B2, 0, none⟩ = some (.string u)) (h3 : W.cell? ⟨B3, 0, none⟩ = some (.int .i64 t)) (h4 : W.cell? ⟨B3, 1, none⟩ = some (.int .i64 c))
    (hI : Perms W.heap.size W v ps) (J : World → Prop) (Jx : Perm → World → Prop) (hJ : OwnFrom W.heap.size (fun (_ : Unit) => J)) (hJx : ∀ p, OwnFrom W.heap.size (fun (_ : Unit) => Jx p))
    (hY : ∀ p W1, hit u t c p = true → J W1 → W.heap.size ≤ W1.heap.size → YieldAt Fence.wide 0 Try.prog l #[p.val] W1 fun e W' => e = .returned (.bool false) ∧ Jx p W' ∧ KeepsFrom W.heap.size W1 W')
    (h0 : J W) :
    CallsIn Fence.wide n Try.prog 21 #[.func (.yield l) #[] #[], .pointer (some ⟨B1, 0, none⟩), .pointer (some ⟨B2, 0, none⟩), .pointer (some ⟨B3, 0, none⟩)] W fun e W' => (∃ v, e = .returned v) ∧
      Left J Jx (ps.reverse.find? (hit u t c)) W' := by
  refine callsIn_of_wp_marks Try.func21 rfl trivial ?_ rfl
  simp only [Try.ntmps21, List.size_toArray, List.length_cons, List.length_nil, Nat.reduceAdd, Nat.reduceSub, Array.replicate_succ, Array.replicate_zero, List.push_toArray, List.append_toArray, List.nil_append, List.cons_append]
  obtain ⟨a, len, cap, rfl⟩ : ∃ a len cap, v = .slice a len cap := by
    obtain ⟨_, ⟨rfl, _⟩ | ⟨b, off, cap, rfl, _⟩⟩ := hI
    · exact ⟨_, _, _, rfl⟩
    · exact ⟨_, _, _, rfl⟩
  have h1' := cell_alloc (.cells #[Value.func (Fn.yield l) #[] #[]] 58) h1
  gi_wp2
  refine ⟨trivial, (backward _ _ _ _ _).mono ?_⟩
  rintro e w' ⟨rfl, rfl⟩
  gi_wp2
  obtain ⟨w1, hw1⟩ : ∃ w1, w1 = (W.alloc (.cells #[Value.func (Fn.yield l) #[] #[]] 58)).alloc (.cells #[.slice a len cap] 25) := ⟨_, rfl⟩
  have hs1 : w1.heap.size = W.heap.size + 1 + 1 := by rw [hw1]; simp
  have hbx : Boxes3 w1 W.heap.size B2 B3 (.func (.yield l) #[] #[]) (.string u) t c := by
    rw [hw1]
    exact ⟨cell_alloc _ (Boxed.new W _ _).cell, cell_alloc _ (cell_alloc _ h2), cell_alloc _ (cell_alloc _ h3), cell_alloc _ (cell_alloc _ h4)⟩
  have hsl : w1.cell? ⟨W.heap.size + 1, 0, none⟩ = some (.slice a len cap) := by
    rw [hw1]
    have := (Boxed.new (W.alloc (.cells #[Value.func (Fn.yield l) #[] #[]] 58)) 25 (.slice a len cap)).cell
    rwa [World.size_alloc] at this
  have hI1 : Perms w1.heap.size w1 (.slice a len cap) ps := by
    rw [hw1]
    exact ((hI.below (((Below.refl _ W).alloc (Nat.le_refl _) _).alloc (by simp) _))).more (by simp; omega)
  have hJ1 : J w1 := by
    rw [hw1]
    exact hJ.alloc (s := ()) _ (hJ.alloc (s := ()) _ h0)
  rw [← hw1]
  clear hw1 h1' h1 h2 h3 h4
  have hnb : ∀ b off k cp, Value.slice a len cap = .slice (some ⟨b, off, none⟩) k cp → b < W.heap.size := by
    intro b off k cp e
    obtain ⟨_, ⟨e2, _⟩ | ⟨b', off', cap', e2, hb, _⟩⟩ := hI
    · rw [e] at e2; cases e2
    · rw [e] at e2; cases e2; exact hb
  refine wpIn_rangeFunc_ownH rfl hn (gf := 26) (lb := #[.pointer (some ⟨W.heap.size + 1, 0, none⟩)]) rfl trivial (enters_of Try.func26 (by kernel_rfl) rfl)
    (back_stops (n - 1) (W.heap.size + 1) _ ps w1 (by omega) hsl hI1) (fun h k => ⟨k.1.trans h.1, fun b off ln cp e => (k.2 b off ln cp e).trans (h.2 b off ln cp e)⟩)
    (fun X r o o' hr ho _ _ => ⟨World.putObj_heap_other (by omega), fun b off ln cp e => World.putObj_heap_other (by have := hnb _ _ _ _ e; omega)⟩) (Below.refl _ _) (fun _ => rfl)
    (fun pre W' => ((∀ x ∈ pre, hit u t c x.2 = false) ∧ w1.heap.size ≤ W'.heap.size) ∧ J W' ∧ Boxes3 W' W.heap.size B2 B3 (.func (.yield l) #[] #[]) (.string u) t c)
    (fun k pre W' => k = .ret ∧ ∃ ini x, pre = ini ++ [x] ∧ (∀ y ∈ ini, hit u t c y.2 = false) ∧ hit u t c x.2 = true ∧ Jx x.2 W')
    (fun s A B row hs hg hr => ⟨⟨hs.1.1, Nat.le_trans hs.1.2 hg.size⟩, hJ () A B row hs.2.1 hg (fun r e => ⟨by have := (hr r e).1; omega, (hr r e).2⟩), hs.2.2.kept hg (fun r e => (hr r e).2)⟩)
    (fun k s A B row hs hg hr => by
      obtain ⟨hk, ini, x, e, hi, hx, hj⟩ := hs
      exact ⟨hk, ini, x, e, hi, hx, hJx x.2 () A B row hj hg (fun r e => ⟨by have := (hr r e).1; omega, (hr r e).2⟩)⟩)
    ⟨⟨by simp, Nat.le_refl _⟩, hJ1, hbx⟩
    (fun x a' W' => ∃ Bx, At4 W' Bx 0 x.2 ∧ a' = { tmps := #[.func (.yield l) #[] #[], .pointer (some ⟨B1, 0, none⟩), .pointer (some ⟨B2, 0, none⟩), .pointer (some ⟨B3, 0, none⟩), .pointer (some ⟨W.heap.size, 0, none⟩), undef, .pointer (some ⟨Bx, 0, none⟩), undef, .slice a len cap, .func (.func 26) #[] #[.pointer (some ⟨W.heap.size + 1, 0, none⟩)], .int .i64 x.1, x.2.val, undef, undef, undef, undef, undef, undef, undef, undef, undef, undef, undef, undef, undef, undef, undef, undef, undef, undef, undef, undef, undef, undef, undef, undef, undef, undef, undef, undef, undef, undef, undef, undef, undef, undef, undef], defers := [] })
    (fun x a' s A B row hs hg hr => by obtain ⟨Bx, h, e⟩ := hs; exact ⟨Bx, h.kept hg (fun r e => (hr r e).2), e⟩) ?assign ?body ?done ?stop
  case assign =>
    rintro r pre ⟨i, p⟩ X K ⟨⟨hp, hsz⟩, hj, hb⟩ hK
    simp only [Perm.val]
    gi_wp2
    refine hK _ _ ((KeepsOthers.alloc _ _).from _) ⟨Below.heap_alloc _ _ _ (by omega), fun b off ln cp e => Below.heap_alloc _ _ _ (by have := hnb _ _ _ _ e; omega)⟩
      ⟨⟨hp, by simp; omega⟩, hJ.alloc (s := ()) _ hj, hb.kept (World.grownBy_alloc X _ none) (fun r e => by cases e)⟩ ⟨X.heap.size, at4_new X _ p, rfl⟩
  case body =>
    rintro r pre ⟨i, p⟩ a' X hr hrec ⟨⟨hp, hsz⟩, hj, hb⟩ ⟨Bx, hx, rfl⟩ hlen
    obtain ⟨pu, pa, pt, pc⟩ := p
    obtain ⟨x0, x1, x2, x3⟩ := hx
    simp only [Nat.zero_add] at x0 x1 x2 x3
    obtain ⟨y0, y1, y2, y3⟩ := hb
    simp only [Perm.val]
    by_cases hu : pu = u
    · subst hu
      by_cases t1 : pt = 0
      · subst t1
        by_cases c1 : pc = -1
        · subst c1
          have hh : hit pu t c ⟨pu, pa, 0, -1⟩ = true := by simp [hit]
          obtain ⟨fn, tmps, assign, body, hy, hR⟩ := hY _ X hh hj (by omega)
          simp only [Perm.val] at hy
          gi_wp2
          refine ⟨?_, roundIn_wide hR ?_⟩
          · exact wide_any _
          rintro e W3 ⟨rfl, hjx, hkf⟩
          gi_wp2
          exact ⟨⟨hkf.size, fun k o hB => hkf.same k o (by omega)⟩, rfl, pre, _, rfl, hp, hh, hjx⟩
        · have c1' : (pc == -1) = false := by simpa using c1
          by_cases c2 : pc = c
          · subst c2
            have hh : hit pu t pc ⟨pu, pa, 0, pc⟩ = true := by simp [hit]
            obtain ⟨fn, tmps, assign, body, hy, hR⟩ := hY _ X hh hj (by omega)
            simp only [Perm.val] at hy
            gi_wp2
            refine ⟨?_, roundIn_wide hR ?_⟩
            · exact wide_any _
            rintro e W3 ⟨rfl, hjx, hkf⟩
            gi_wp2
            exact ⟨⟨hkf.size, fun k o hB => hkf.same k o (by omega)⟩, rfl, pre, _, rfl, hp, hh, hjx⟩
          · have c2' : (pc == c) = false := by simpa using c2
            have hh : hit pu t c ⟨pu, pa, 0, pc⟩ = false := by simp [hit, c1, c2]
            gi_wp2
            all_goals refine ⟨fun f hf => (nomatch hf), ?_⟩
            all_goals gi_wp2
            all_goals exact ⟨KeepsFrom.refl _ _, ⟨rfl, fun _ _ _ _ _ => rfl⟩, ⟨fun y hy => (List.mem_append.1 hy).elim (hp y) (fun e => by rw [List.mem_singleton.1 e]; exact hh), hsz⟩, hj, ⟨y0, y1, y2, y3⟩⟩
      · have t1' : (pt == 0) = false := by simpa using t1
        by_cases t2 : pt = t
        · subst t2
          by_cases c1 : pc = -1
          · subst c1
            have hh : hit pu pt c ⟨pu, pa, pt, -1⟩ = true := by simp [hit]
            obtain ⟨fn, tmps, assign, body, hy, hR⟩ := hY _ X hh hj (by omega)
            simp only [Perm.val] at hy
            gi_wp2
            refine ⟨?_, roundIn_wide hR ?_⟩
            · exact wide_any _
            rintro e W3 ⟨rfl, hjx, hkf⟩
            gi_wp2
            exact ⟨⟨hkf.size, fun k o hB => hkf.same k o (by omega)⟩, rfl, pre, _, rfl, hp, hh, hjx⟩
          · have c1' : (pc == -1) = false := by simpa using c1
            by_cases c2 : pc = c
            · subst c2
              have hh : hit pu pt pc ⟨pu, pa, pt, pc⟩ = true := by simp [hit]
              obtain ⟨fn, tmps, assign, body, hy, hR⟩ := hY _ X hh hj (by omega)
              simp only [Perm.val] at hy
              gi_wp2
              refine ⟨?_, roundIn_wide hR ?_⟩
              · exact wide_any _
              rintro e W3 ⟨rfl, hjx, hkf⟩
              gi_wp2
              exact ⟨⟨hkf.size, fun k o hB => hkf.same k o (by omega)⟩, rfl, pre, _, rfl, hp, hh, hjx⟩
            · have c2' : (pc == c) = false := by simpa using c2
              have hh : hit pu pt c ⟨pu, pa, pt, pc⟩ = false := by simp [hit, c1, c2]
              gi_wp2
              all_goals refine ⟨fun f hf => (nomatch hf), ?_⟩
              all_goals gi_wp2
              all_goals exact ⟨KeepsFrom.refl _ _, ⟨rfl, fun _ _ _ _ _ => rfl⟩, ⟨fun y hy => (List.mem_append.1 hy).elim (hp y) (fun e => by rw [List.mem_singleton.1 e]; exact hh), hsz⟩, hj, ⟨y0, y1, y2, y3⟩⟩
        · have t2' : (pt == t) = false := by simpa using t2
          have hh : hit pu t c ⟨pu, pa, pt, pc⟩ = false := by simp [hit, t1, t2]
          gi_wp2
          all_goals refine ⟨fun f hf => (nomatch hf), ?_⟩
          all_goals gi_wp2
          all_goals exact ⟨KeepsFrom.refl _ _, ⟨rfl, fun _ _ _ _ _ => rfl⟩, ⟨fun y hy => (List.mem_append.1 hy).elim (hp y) (fun e => by rw [List.mem_singleton.1 e]; exact hh), hsz⟩, hj, ⟨y0, y1, y2, y3⟩⟩
    · have hu' : (pu.toList == u.toList) = false := toList_ne hu
      have hh : hit u t c ⟨pu, pa, pt, pc⟩ = false := by simp [hit, hu]
      gi_wp2
      all_goals refine ⟨fun f hf => (nomatch hf), ?_⟩
      all_goals gi_wp2
      all_goals exact ⟨KeepsFrom.refl _ _, ⟨rfl, fun _ _ _ _ _ => rfl⟩, ⟨fun y hy => (List.mem_append.1 hy).elim (hp y) (fun e => by rw [List.mem_singleton.1 e]; exact hh), hsz⟩, hj, ⟨y0, y1, y2, y3⟩⟩
  case done =>
    rintro D xs X hD rfl ⟨⟨hp, hsz⟩, hj, hb⟩ hK
    have hj' := hJ.putObj (s := ()) (.deferred none) hj (by omega : W.heap.size ≤ D) hK rfl
    gi_wp2
    refine ⟨by simp, .inl ⟨_, _, rfl, run_takeDeferred hK, ?_⟩⟩
    refine ⟨_, results_none rfl _ _ _, ⟨_, rfl⟩, ?_⟩
    rw [find_none hp]
    exact hj'
  case stop =>
    rintro D k pre X hD ⟨m, hm, rfl⟩ ⟨rfl, ini, x, e, hi, hx, hjx⟩ hK
    have hj' := (hJx x.2).putObj (s := ()) (.deferred none) hjx (by omega : W.heap.size ≤ D) hK rfl
    gi_wp2
    refine ⟨by simp, .inl ⟨_, _, rfl, run_takeDeferred hK, ?_⟩⟩
    refine ⟨_, results_none rfl _ _ _, ⟨_, rfl⟩, ?_⟩
    rw [find_some e hi hx]
    exact hj'
end Go.Proofs.Ytlionnncmgiifaa.acc
