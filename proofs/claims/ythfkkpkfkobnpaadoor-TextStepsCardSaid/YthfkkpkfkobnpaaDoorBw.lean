/- text.Pattern: for every string of at most 10^6 bytes. -/
import Derived.Test.YthfkkpkfkobnpaaDoorBp
import Derived.Test.YthfkkpkfkobnpaaDoorBq
import Derived.Test.YthfkkpkfkobnpaaDoorShelf3
import Derived.Shelf.Strings.Runes
import Derived.Shelf.Strings.BuilderK
set_option linter.unusedVariables false
set_option linter.unusedSimpArgs false
namespace Go.Proofs.YthfkkpkfkobnpaaDoor.pat
open Go.RowKit

attribute [local go_sem] Oper.semAt_some

def inSet (c : Int) : Bool := decide (c = 57 ∨ c = 65 ∨ c = 97 ∨ c = 117)
def put1 (g : Int × Nat) : List UInt8 := if 1 < g.2 ∧ inSet g.1 = true then [g.1.toNat.toUInt8, 43] else List.replicate g.2 g.1.toNat.toUInt8
def patOf (l : List (Int × Nat)) : List UInt8 := l.flatMap put1
/-- the classes of the code points, with runs written once -/
def pattern (s : ByteArray) : List UInt8 := patOf (groupsOf s)

set_option maxRecDepth 100000 in
theorem groups_in (n : Nat) (s : ByteArray) (w : World) : CallsIn Fence.wide n Tryd.prog 39 #[.string s] w fun e w' =>
    e = .returned (.func (.func 60) #[] #[.pointer (some ⟨w.heap.size, 0, none⟩)]) ∧ w' = w.alloc (.cells #[.string s] 9) := by
  refine callsIn_of_wp Tryd.func39 rfl trivial ?_ rfl
  simp only [Tryd.ntmps39, List.size_toArray, List.length_cons, List.length_nil, Nat.reduceAdd, Nat.reduceSub, Array.replicate_succ, Array.replicate_zero, List.push_toArray, List.append_toArray, List.nil_append, List.cons_append]
  gi_wp2
  go_ret
  exact ⟨rfl, rfl⟩

theorem contains_in (n : Nat) (c : Int) (h0 : 0 ≤ c) (h1 : c < 128) (w : World) : CallsIn Fence.wide n Tryd.prog 40 #[.string ⟨#[57, 65, 97, 117]⟩, .int .i32 c] w fun e w' => e = .returned (.bool (inSet c)) ∧ w' = w := by
  refine callsIn_wide.2 ((Any.strings_ContainsRune_ascii Tryd.lays151 _ c w h0 h1).mono ?_)
  rintro e w' ⟨rfl, rfl⟩
  refine ⟨?_, rfl⟩
  congr 2
  obtain ⟨k, rfl⟩ : ∃ k : Nat, c = k := ⟨c.toNat, by omega⟩
  have hk : k < 128 := by omega
  clear h0 h1
  revert k
  decide

theorem bld_kept {T e : TypeId} {B b : Nat} {p : Value} {bs : List Value} {A C : World} {row : Option Nat} (h : Lib.BuilderAtF T e B b p bs A) (hg : A.grownBy C row) (hr : ∀ r, row = some r → ∃ o : Obj, A.heap[r]? = some o ∧ o.isCells = false) : Lib.BuilderAtF T e B b p bs C := by
  obtain ⟨hB, v, hb, hown, hne⟩ := h
  have hnr : ∀ (k : Nat) (o : Obj), A.heap[k]? = some o → o.isCells = true → row ≠ some k := by
    intro k o ho hc e
    obtain ⟨o', ho', hc'⟩ := hr k e
    rw [ho] at ho'
    cases ho'
    rw [hc] at hc'
    cases hc'
  refine ⟨hB, v, (hg.block b (Array.getElem?_eq_some_iff.1 hb).1 (fun e => hnr b _ hb rfl e.symm)).trans hb, hown.kept hg ?_, hne⟩
  rcases hv : v.ownBlock with _ | g
  · exact .inl rfl
  · obtain ⟨c, fz, hc⟩ := Lib.ownsRowF_kind hown g hv
    exact .inr (fun e => hnr g _ hc rfl e.symm)
theorem isBld_kept {T e : TypeId} {B b : Nat} {bs : List Value} {A C : World} {row : Option Nat} (h : Lib.IsBuilderF T e B b bs A) (hg : A.grownBy C row) (hr : ∀ r, row = some r → ∃ o : Obj, A.heap[r]? = some o ∧ o.isCells = false) : Lib.IsBuilderF T e B b bs C :=
  h.elim (fun x => .inl (bld_kept x hg hr)) (fun x => .inr (bld_kept x hg hr))
theorem isBld_block {T e : TypeId} {B b : Nat} {bs : List Value} {A : World} (h : Lib.IsBuilderF T e B b bs A) : ∃ c, A.heap[b]? = some (.cells c T (0, 0)) := by
  rcases h with ⟨_, v, hb, _⟩ | ⟨_, v, hb, _⟩
  · exact ⟨_, hb⟩
  · exact ⟨_, hb⟩
theorem keeps_of {T e : TypeId} {B b : Nat} {bs : List Value} {A C : World} (h : Lib.IsBuilderF T e B b bs A) (hk : Lib.OthersKept e (some b) A C) (hs : A.heap.size ≤ C.heap.size) : KeepsOthers A C := by
  obtain ⟨c, hb⟩ := isBld_block h
  refine ⟨hs, fun k o ho hc => hk k o ho (fun e => ?_) (fun c fz e => by subst e; cases hc)⟩
  cases e
  rw [hb] at ho
  cases ho
  cases hc
theorem byte_cell (c : Int) (h0 : 0 ≤ c) (h1 : c < 128) : Lib.byteCells [c.toNat.toUInt8] = [.int .u8 c] := by
  obtain ⟨k, rfl⟩ : ∃ k : Nat, c = k := ⟨c.toNat, by omega⟩
  have hk : k < 128 := by omega
  simp [Lib.byteCells]
  omega
theorem put1_length (g : Grp) : (put1 g.pair).length ≤ 1000000 := by
  have := g.h
  unfold put1 Grp.pair
  split
  · simp
  · simp; omega
theorem patOf_snoc (l : List (Int × Nat)) (g : Int × Nat) : patOf (l ++ [g]) = patOf l ++ put1 g := by simp [patOf]
set_option maxRecDepth 100000 in
theorem extra : Builder.Extra Tryd.prog Tryd.lays169_ren where
  sizeBuilder := bld.size_bld
  liesBuilder := bld.lies_bld
  t5 := Tryd.underlying5
  a5 := Tryd.isAgg5
  z5 := Tryd.sizeOf5
  v5 := Tryd.zeroValue5
  infoByte := bld.info_byte
  cellsByte := by kernel_rfl
  sizeByte := by kernel_rfl
  neB5 := bld.neB

theorem string_any (B b : Nat) (l : List UInt8) (w : World) (h : Lib.IsBuilderF 51 5 B b (Lib.byteCells l) w) (hBw : B ≤ w.heap.size) :
    Calls Tryd.prog 43 #[.pointer (some ⟨b, 0, none⟩)] w fun e w' => e = .returned (.string ⟨l.toArray⟩) ∧ (Lib.IsBuilderF 51 5 B b (Lib.byteCells l) w' ∧ Below B w w' ∧ Lib.OthersKept 5 (some b) w w') :=
  Any.Builder_String_any_k Tryd.lays169 extra B b l w h hBw

/-- the builder at block b holds what has been written for the groups so far -/
structure Got (b : Nat) (w0 : World) (bs : List UInt8) (W : World) : Prop where
  bld : Lib.IsBuilderF 51 5 b b (Lib.byteCells bs) W
  below : Below b w0 W

theorem Got.own (b0 : Nat) (w0 : World) (bs : List UInt8) (hb : w0.heap.size ≤ b0) : OwnFrom b0 (fun (_ : Unit) => Got w0.heap.size w0 bs) := by
  intro _ A C row h hg hr
  exact ⟨isBld_kept h.bld hg (fun r e => (hr r e).2), h.below.grown hg h.below.size (fun k e => by have := (hr k e).1; omega)⟩

theorem got_rune (b : Nat) (w0 : World) (bs : List UInt8) (W : World) (h : Got b w0 bs W) (hb : b ≤ w0.heap.size) (hl : bs.length ≤ 10000000000000) (c : Int) (h0 : 0 ≤ c) (h1 : c < 128) (n : Nat) :
    CallsIn Fence.wide n Tryd.prog 41 #[.pointer (some ⟨b, 0, none⟩), .int .i32 c] W fun e W' => e = .returned (.tuple #[.int .i64 1, .nilIface]) ∧ Got b w0 (bs ++ [c.toNat.toUInt8]) W' ∧ Lib.OthersKept 5 (some b) W W' ∧ W.heap.size ≤ W'.heap.size := by
  refine callsIn_wide.2 ((bld.WriteRune b b _ c h0 (by omega) W h.bld (by rw [Lib.byteCells_length]; omega) (by have := h.below.size; omega)).mono ?_)
  rintro e W1 ⟨rfl, h1', b1, k1⟩
  refine ⟨rfl, ⟨?_, h.below.trans b1⟩, k1, b1.size⟩
  rw [Lib.byteCells_append, byte_cell c h0 h1]
  exact Or.inr h1'
theorem got_byte (b : Nat) (w0 : World) (bs : List UInt8) (W : World) (h : Got b w0 bs W) (hb : b ≤ w0.heap.size) (hl : bs.length ≤ 10000000000000) (n : Nat) :
    CallsIn Fence.wide n Tryd.prog 42 #[.pointer (some ⟨b, 0, none⟩), .int .u8 43] W fun e W' => e = .returned .nilIface ∧ Got b w0 (bs ++ [43]) W' ∧ Lib.OthersKept 5 (some b) W W' ∧ W.heap.size ≤ W'.heap.size := by
  refine callsIn_wide.2 ((bld.WriteByte b b _ 43 W h.bld (by rw [Lib.byteCells_length]; omega) (by have := h.below.size; omega)).mono ?_)
  rintro e W1 ⟨rfl, h1', b1, k1⟩
  refine ⟨rfl, ⟨?_, h.below.trans b1⟩, k1, b1.size⟩
  rw [Lib.byteCells_append]
  exact Or.inr h1'

set_option maxRecDepth 100000 in
set_option maxHeartbeats 2000000 in
theorem pattern_any (s : ByteArray) (hs : s.size ≤ 1000000) (w : World) :
    CallsIn Fence.wide 9 Tryd.prog 23 #[.string s] w fun e w' => e = .returned (.string ⟨(pattern s).toArray⟩) ∧ Below w.heap.size w w' := by
  refine callsIn_of_wp_marks Tryd.func23 rfl trivial ?_ rfl
  simp only [Tryd.ntmps23, List.size_toArray, List.length_cons, List.length_nil, Nat.reduceAdd, Nat.reduceSub, Array.replicate_succ, Array.replicate_zero, List.push_toArray, List.append_toArray, List.nil_append, List.cons_append]
  gi_wp2
  refine ⟨trivial, (groups_in _ _ _).mono ?_⟩
  rintro e w' ⟨rfl, rfl⟩
  gi_wp2
  obtain ⟨w1, hw1⟩ : ∃ w1, w1 = (w.alloc (.cells #[.pointer none, .slice none 0 0] 51)).alloc (.cells #[.string s] 9) := ⟨_, rfl⟩
  have hs1 : w1.heap.size = w.heap.size + 2 := by rw [hw1]; simp
  have hG : Got w.heap.size w [] w1 := by
    rw [hw1]
    exact ⟨(Lib.IsBuilderF.of (Lib.fresh_isBuilder 51 5 w)).alloc _, ((Below.refl _ w).alloc (Nat.le_refl _) _).alloc (by simp) _⟩
  have hbx : w1.cell? ⟨w.heap.size + 1, 0, none⟩ = some (.string s) := by
    rw [hw1]
    have := World.alloc_heap_new (w.alloc (.cells #[.pointer none, .slice none 0 0] 51)) (.cells #[.string s] 9)
    rw [World.size_alloc] at this
    simp only [World.cell?, this]
    rfl
  rw [← hw1]
  clear hw1
  refine wpIn_rangeFunc_ownF rfl (by decide) (gf := 60) (lb := #[.pointer (some ⟨w.heap.size + 1, 0, none⟩)]) rfl trivial (enters_of Tryd.func60 (by kernel_rfl) rfl)
    (seqStopsA_iff.1 (groups_stops _ (w.heap.size + 1) s hs w1 hbx (by omega))) walksK_t walksK_b (Below.refl _ _) (fun _ => rfl)
    (fun xs W => Got w.heap.size w (patOf (xs.map Grp.pair)) W ∧ (patOf (xs.map Grp.pair)).length ≤ 1000000 * xs.length) (fun _ _ _ => False)
    (fun xs A C row hI hg hr => ⟨Got.own _ w _ (by omega) () A C row hI.1 hg hr, hI.2⟩) (fun _ _ _ _ _ h => h.elim) ⟨hG, by simp [patOf]⟩
    (fun x => { tmps := #[.string s, undef, .string ⟨#[]⟩, .pointer (some ⟨w.heap.size, 0, none⟩), .int .i32 x.c, .int .i64 x.n, .string s, .func (.func 60) #[] #[.pointer (some ⟨w.heap.size + 1, 0, none⟩)], .int .i32 x.c, .int .i64 x.n, undef, undef, undef, undef, undef, undef, undef, undef, undef, undef, undef, undef, undef, undef, undef, undef], defers := [] }) ?assign ?body ?done ?stop
  case assign =>
    intro l x W K hK
    gi_wp2
    exact hK
  case body =>
    rintro l pre ⟨c, n, h0, h1, h2, h3⟩ W ⟨hG, hL⟩ hN
    have hmul : 1000000 * pre.length ≤ 1000000 * 1000000 := Nat.mul_le_mul_left _ (by omega)
    dsimp only
    have hp1 : (put1 (Grp.pair ⟨c, n, h0, h1, h2, h3⟩)).length ≤ 1000000 := put1_length _
    by_cases hn : 1 < n
    · cases hc : inSet c
      · have hput : put1 (Grp.pair ⟨c, n, h0, h1, h2, h3⟩) = List.replicate n c.toNat.toUInt8 := by simp [put1, Grp.pair, hc]
        gi_wp2
        refine ⟨trivial, (CallsIn.inRound l (contains_in _ c h0 h1 _)).mono ?_⟩
        rintro e W' ⟨rfl, rfl⟩
        rw [hc]
        gi_wp2
        gi_loopw [20] (fun i wr => ∃ k : Nat, k ≤ n ∧ i = .int .i64 k ∧ Got w.heap.size w (patOf (pre.map Grp.pair) ++ List.replicate k c.toNat.toUInt8) wr ∧ KeepsOthers W' wr) (fun i _ => n - (intOf i).toNat)
        case atStart => exact ⟨0, Nat.zero_le _, rfl, by simpa using hG, KeepsOthers.refl _⟩
        case round =>
          obtain ⟨k, hk, rfl, hg, hko⟩ := hrel
          by_cases hkn : k < n
          · gi_wp2
            refine ⟨trivial, (CallsIn.inRound l (got_rune _ w _ _ hg (Nat.le_refl _) (by simp; omega) c h0 h1 _)).mono ?_⟩
            rintro e W1 ⟨rfl, g1, k1, z1⟩
            gi_wp2
            go_roundw
            case rel => exact ⟨k + 1, by omega, by exact congrArg _ (by omega), by rw [List.replicate_succ', ← List.append_assoc]; exact g1, hko.trans (keeps_of hg.bld k1 z1)⟩
            case measure => simp [intOf] <;> omega
          · obtain rfl : k = n := by omega
            gi_wp2
            exact ⟨hko, hko.walks, by rw [List.map_append, List.map_cons, List.map_nil, patOf_snoc, hput]; exact hg, by rw [List.map_append, List.map_cons, List.map_nil, patOf_snoc, List.length_append, List.length_append]; have := hp1; simp only [List.length_cons, List.length_nil]; omega⟩
      · have hput : put1 (Grp.pair ⟨c, n, h0, h1, h2, h3⟩) = [c.toNat.toUInt8] ++ [43] := by simp [put1, Grp.pair, hc, hn]
        gi_wp2
        refine ⟨trivial, (CallsIn.inRound l (contains_in _ c h0 h1 _)).mono ?_⟩
        rintro e W' ⟨rfl, rfl⟩
        rw [hc]
        gi_wp2
        refine ⟨trivial, (CallsIn.inRound l (got_rune _ w _ _ hG (Nat.le_refl _) (by omega) c h0 h1 _)).mono ?_⟩
        rintro e W1 ⟨rfl, g1, k1, z1⟩
        gi_wp2
        refine ⟨trivial, (CallsIn.inRound l (got_byte _ w _ _ g1 (Nat.le_refl _) (by simp; omega) _)).mono ?_⟩
        rintro e W2 ⟨rfl, g2, k2, z2⟩
        gi_wp2
        have hko := (keeps_of hG.bld k1 z1).trans (keeps_of g1.bld k2 z2)
        exact ⟨hko, hko.walks, by rw [List.map_append, List.map_cons, List.map_nil, patOf_snoc, hput, ← List.append_assoc]; exact g2, by rw [List.map_append, List.map_cons, List.map_nil, patOf_snoc, List.length_append, List.length_append]; have := hp1; simp only [List.length_cons, List.length_nil]; omega⟩
    · have hput : put1 (Grp.pair ⟨c, n, h0, h1, h2, h3⟩) = List.replicate n c.toNat.toUInt8 := by simp [put1, Grp.pair, hn]
      have hn1 : ((n : Int) > 1) = False := by simp; omega
      gi_wp2
      refine ⟨trivial, ?_⟩
      gi_wp2
      gi_loopw [20] (fun i wr => ∃ k : Nat, k ≤ n ∧ i = .int .i64 k ∧ Got w.heap.size w (patOf (pre.map Grp.pair) ++ List.replicate k c.toNat.toUInt8) wr ∧ KeepsOthers W wr) (fun i _ => n - (intOf i).toNat)
      case atStart => exact ⟨0, Nat.zero_le _, rfl, by simpa using hG, KeepsOthers.refl _⟩
      case round =>
        obtain ⟨k, hk, rfl, hg, hko⟩ := hrel
        by_cases hkn : k < n
        · gi_wp2
          refine ⟨trivial, (CallsIn.inRound l (got_rune _ w _ _ hg (Nat.le_refl _) (by simp; omega) c h0 h1 _)).mono ?_⟩
          rintro e W1 ⟨rfl, g1, k1, z1⟩
          gi_wp2
          go_roundw
          case rel => exact ⟨k + 1, by omega, by exact congrArg _ (by omega), by rw [List.replicate_succ', ← List.append_assoc]; exact g1, hko.trans (keeps_of hg.bld k1 z1)⟩
          case measure => simp [intOf] <;> omega
        · obtain rfl : k = n := by omega
          gi_wp2
          exact ⟨hko, hko.walks, by rw [List.map_append, List.map_cons, List.map_nil, patOf_snoc, hput]; exact hg, by rw [List.map_append, List.map_cons, List.map_nil, patOf_snoc, List.length_append, List.length_append]; have := hp1; simp only [List.length_cons, List.length_nil]; omega⟩
  case done =>
    rintro D xs W hD hS ⟨hG, hL⟩ hK
    gi_wp2
    refine ⟨trivial, (callsIn_wide.2 (string_any _ _ _ _ hG.bld (by have := hG.below.size; omega))).mono ?_⟩
    rintro e W1 ⟨rfl, g1, b1, k1⟩
    obtain ⟨c0, hb⟩ := isBld_block hG.bld
    have hK1 := k1 D _ hK (fun e => by have := Option.some.inj e; omega) (fun _ _ e => by cases e)
    gi_wp2
    refine ⟨by simp, .inl ⟨_, _, rfl, run_takeDeferred hK1, ?_⟩⟩
    refine ⟨.string ⟨(pattern s).toArray⟩, ?_, rfl, (hG.below.trans b1).grown (grownBy_putObj' _ D (.deferred none)) (by have := (hG.below.trans b1).size; simpa using this) (fun k e => by have := Option.some.inj e; omega)⟩
    rw [pattern, ← hS]
    simp [results, Tryd.f23, go_sem]
  case stop => exact fun _ _ _ _ _ _ h => h.elim
end Go.Proofs.YthfkkpkfkobnpaaDoor.pat
