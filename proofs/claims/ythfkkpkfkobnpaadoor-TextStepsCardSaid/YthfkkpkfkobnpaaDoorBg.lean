/- text.Lines at any string. -/
import Derived.Test.YthfkkpkfkobnpaaDoorBl
import Derived.Lib.CutLaws
import Derived.Deep.AppendLies
set_option linter.unusedVariables false
set_option linter.unusedSimpArgs false
namespace Go.Proofs.YthfkkpkfkobnpaaDoor.tx
open Go.RowKit Go.Proofs.YthfkkpkfkobnpaaDoor.txt

/-- the place of the first end of a line, or -1 -/
abbrev nl (l : List UInt8) : Int := Lib.indexByte l 10

theorem nl_cases (l : List UInt8) : nl l = -1 ∨ ∃ k : Nat, nl l = k ∧ k < l.length := by
  induction l with
  | nil => exact .inl rfl
  | cons b l ih =>
    unfold nl at *
    unfold Lib.indexByte
    by_cases hb : (b == 10) = true
    · rw [if_pos hb]; exact .inr ⟨0, rfl, by simp⟩
    · rw [if_neg hb]
      rcases ih with h | ⟨k, h, hk⟩
      · rw [h]; exact .inl rfl
      · rw [h]
        have : ((k : Int) == -1) = false := by simp
        rw [this]
        exact .inr ⟨k + 1, rfl, by simpa using hk⟩

set_option maxRecDepth 100000 in
set_option maxHeartbeats 1000000 in
theorem index_nl (s : ByteArray) (hs : 1 ≤ s.size) (hz : s.size ≤ 1000000) (w : World) : Calls Tryd.prog 79 #[.string s, .string ⟨#[10]⟩] w fun e w' => e = .returned (.int .i64 (nl s.data.toList)) ∧ w' = w := by
  have x1 : (({ data := #[10] } : ByteArray)[0]'(by decide)).toNat = 10 := rfl
  have hi := Any.stringslite_IndexByte { Tryd.lays145 with } s 10 w
  rw [show (10 : Int).toNat.toUInt8 = 10 by decide] at hi
  by_cases h10 : s = ⟨#[10]⟩
  · subst h10
    go_enter Tryd.func79, Tryd.ntmps79
    go_wp2
    go_ret
    exact ⟨rfl, rfl⟩
  have hne : ([10] == s.toList) = false := by
    cases e : ([10] == s.toList)
    · rfl
    · refine absurd ?_ h10
      have := eq_of_beq e
      cases s with
      | mk d =>
        rw [ByteArray.toList_eq] at this
        congr
        exact Array.toList_inj.1 this.symm
  go_enter Tryd.func79, Tryd.ntmps79
  go_wp2_with fail
  refine hi.mono ?_
  rintro _ w1 ⟨rfl, hw⟩
  obtain rfl : w = w1 := hw.symm
  go_wp2
  go_ret
  exact ⟨rfl, rfl⟩

set_option maxRecDepth 100000 in
set_option maxHeartbeats 1000000 in
theorem cut_hit (s : ByteArray) (hz : s.size ≤ 1000000) (k : Nat) (hk : nl s.data.toList = k) (hks : k < s.size) (w : World) : Calls Tryd.prog 45 #[.string s, .string ⟨#[10]⟩] w fun e w' => e = .returned (.tuple #[.string (s.extract 0 k), .string (s.extract (k + 1) s.size), .bool true]) ∧ Drew w w' := by
  have hix := index_nl s (by omega) hz w
  rw [hk] at hix
  have c1 : (0 : Int) ≤ (k : Int) := by omega
  have c2 : (k : Int) ≤ (s.size : Int) := by omega
  have c3 : (0 : Int) ≤ (k : Int) + 1 := by omega
  have c4 : (k : Int) + 1 ≤ (s.size : Int) := by omega
  have c5 : IntKind.i64.wrap ((k : Int) + 1) = (k : Int) + 1 := IntWalk.i64_in _ (by omega)
  have z1 : (⟨#[10]⟩ : ByteArray).size = 1 := rfl
  have inner : Calls Tryd.prog 65 #[.string s, .string ⟨#[10]⟩] w fun e w' => e = .returned (.tuple #[.string (s.extract 0 k), .string (s.extract (k + 1) s.size), .bool true]) ∧ Drew w w' := by
    clear hk
    go_enter Tryd.func65, Tryd.ntmps65
    go_wp2_with fail
    refine hix.mono ?_
    rintro _ w1 ⟨rfl, hw⟩
    obtain rfl : w = w1 := hw.symm
    go_wp2
    go_quiet (fail)
    go_wp2
    go_ret3
    exact ⟨rfl, by first | exact Drew.more _ _ | exact ⟨_, rfl⟩ | exact Drew.refl _⟩
  go_enter Tryd.func45, Tryd.ntmps45
  go_wp2_with fail
  refine inner.mono ?_
  rintro _ w1 ⟨rfl, m, rfl⟩
  go_wp2
  go_ret3
  exact ⟨rfl, by first | exact Drew.more _ _ | exact ⟨_, rfl⟩ | exact Drew.refl _⟩
set_option maxRecDepth 100000 in
set_option maxHeartbeats 1000000 in
theorem cut_miss (s : ByteArray) (h1 : 1 ≤ s.size) (hz : s.size ≤ 1000000) (hk : nl s.data.toList = -1) (w : World) : Calls Tryd.prog 45 #[.string s, .string ⟨#[10]⟩] w fun e w' => e = .returned (.tuple #[.string s, .string ⟨#[]⟩, .bool false]) ∧ w' = w := by
  have hix := index_nl s h1 hz w
  rw [hk] at hix
  have inner : Calls Tryd.prog 65 #[.string s, .string ⟨#[10]⟩] w fun e w' => e = .returned (.tuple #[.string s, .string ⟨#[]⟩, .bool false]) ∧ w' = w := by
    clear hk
    go_enter Tryd.func65, Tryd.ntmps65
    go_wp2_with fail
    refine hix.mono ?_
    rintro _ w1 ⟨rfl, hw⟩
    obtain rfl : w = w1 := hw.symm
    go_wp2
    go_ret3
    exact ⟨rfl, rfl⟩
  go_enter Tryd.func45, Tryd.ntmps45
  go_wp2_with fail
  refine inner.mono ?_
  rintro _ w1 ⟨rfl, rfl⟩
  go_wp2
  go_ret3
  exact ⟨rfl, rfl⟩

theorem extract_take (L : List UInt8) (k : Nat) : (⟨L.toArray⟩ : ByteArray).extract 0 k = ⟨(L.take k).toArray⟩ := by
  have h := tok.extract_enc L 0 k
  simp only [List.drop_zero, Nat.sub_zero] at h
  injection h
theorem extract_drop (L : List UInt8) (k : Nat) : (⟨L.toArray⟩ : ByteArray).extract k L.length = ⟨(L.drop k).toArray⟩ := by
  have h := tok.extract_enc L k L.length
  rw [List.take_of_length_le (by simp)] at h
  injection h

theorem cutL_hit (L : List UInt8) (hz : L.length ≤ 1000000) (k : Nat) (hk : nl L = k) (hks : k < L.length) (w : World) : Calls Tryd.prog 45 #[.string ⟨L.toArray⟩, .string ⟨#[10]⟩] w fun e w' => e = .returned (.tuple #[.string ⟨(L.take k).toArray⟩, .string ⟨(L.drop (k + 1)).toArray⟩, .bool true]) ∧ Drew w w' := by
  have h := cut_hit ⟨L.toArray⟩ (by simpa [ByteArray.size] using hz) k hk (by simpa [ByteArray.size] using hks) w
  have e1 : (⟨L.toArray⟩ : ByteArray).size = L.length := by simp [ByteArray.size]
  rw [e1, extract_take, extract_drop] at h
  exact h
theorem cutL_miss (L : List UInt8) (h1 : L ≠ []) (hz : L.length ≤ 1000000) (hk : nl L = -1) (w : World) : Calls Tryd.prog 45 #[.string ⟨L.toArray⟩, .string ⟨#[10]⟩] w fun e w' => e = .returned (.tuple #[.string ⟨L.toArray⟩, .string ⟨#[]⟩, .bool false]) ∧ w' = w :=
  cut_miss ⟨L.toArray⟩ (by have := List.length_pos_iff.2 h1; simp [ByteArray.size]; omega) (by simpa [ByteArray.size] using hz) hk w

/-- a line without the carriage return at its end -/
def chop (l : List UInt8) : List UInt8 := Lib.trimSuffix l [13]
def linesFrom : Nat → List UInt8 → List (List UInt8)
  | 0, _ => []
  | f + 1, l => if l = [] then [] else if nl l = -1 then [l] else chop (l.take (nl l).toNat) :: linesFrom f (l.drop ((nl l).toNat + 1))
/-- the lines of a text -/
def lines (l : List UInt8) : List (List UInt8) := linesFrom l.length l

theorem linesFrom_nil (f : Nat) : linesFrom f [] = [] := by cases f <;> rfl
theorem linesFrom_miss (f : Nat) (l : List UInt8) (h : l ≠ []) (hk : nl l = -1) (hf : l.length ≤ f) : linesFrom f l = [l] := by
  cases f with
  | zero => exact absurd (List.eq_nil_of_length_eq_zero (Nat.le_zero.1 hf)) h
  | succ f => simp only [linesFrom, if_neg h, if_pos hk]
theorem linesFrom_hit (f : Nat) (l : List UInt8) (k : Nat) (h : l ≠ []) (hk : nl l = k) : linesFrom (f + 1) l = chop (l.take k) :: linesFrom f (l.drop (k + 1)) := by
  have hn : ¬ (k : Int) = -1 := by omega
  simp only [linesFrom, if_neg h, hk, if_neg hn, Int.toNat_natCast]

def strSize : Value → Nat
  | .string s => s.size
  | _ => 0

set_option maxRecDepth 100000 in
set_option maxHeartbeats 2000000 in
theorem lines_any (L0 : List UInt8) (hz : L0.length ≤ 1000000) (w : World) : Calls Tryd.prog 25 #[.string ⟨L0.toArray⟩] w fun e w' => ∃ v, e = .returned v ∧ w'.ownsRow w.heap.size 9 1 v (lines L0).length ((lines L0).map encStr) ∧ Below w.heap.size w w' := by
  obtain ⟨i0, hi, hz0, hz1, hz2⟩ := info_parts tok.info_str
  go_enter Tryd.func25, Tryd.ntmps25
  go_wp2
  go_loopw [0, 3] (fun sv v wr => ∃ (L : List UInt8) (out : List (List UInt8)) (f : Nat), sv = .string ⟨L.toArray⟩ ∧ out ++ linesFrom f L = lines L0 ∧ L.length ≤ f ∧ out.length + L.length ≤ L0.length ∧ wr.ownsRow w.heap.size 9 1 v out.length (out.map encStr) ∧ Below w.heap.size w wr) (fun sv _ _ => strSize sv)
  case atStart => exact ⟨L0, [], L0.length, rfl, rfl, Nat.le_refl _, by simp, World.ownsRow_nil _ _ _ _, Below.refl _ _⟩
  case round =>
    obtain ⟨L, out, f, rfl, hout, hf, hol, hown, hb⟩ := hrel
    have hss : ∀ l : List UInt8, strSize (.string ⟨l.toArray⟩) = l.length := fun l => by simp [strSize, ByteArray.size]
    by_cases hL : L = []
    · subst hL
      rw [linesFrom_nil, List.append_nil] at hout
      have HB := Lib.hid (And.intro hout (And.intro hown hb))
      clear hout hown hb
      go_wp2
      go_ret
      exact ⟨_, rfl, by rw [← HB.out.1]; exact HB.out.2.1, HB.out.2.2⟩
    · have hpos := List.length_pos_iff.2 hL
      have hbs := hb.size
      have hemp : (L == []) = false := by simp [hL]
      rcases nl_cases L with hk | ⟨k, hk, hkl⟩
      · rw [linesFrom_miss f L hL hk hf] at hout
        have HB := Lib.hid (And.intro hout hb)
        have HS := Lib.hid hss
        clear hout hb hss
        go_wp2_with fail
        refine (cutL_miss L hL (by omega) hk wr).mono ?_
        rintro _ w1 ⟨rfl, rfl⟩
        go_wp2_with (at_builtin; refine wpList_append_lies _ (by rfl) _ _ 28 (by rfl) w.heap.size 9 i0 _ 1 16 Tryd.underlying28 hi hz0 hz1 hz2 rfl (by omega) _ out.length (out.map encStr) (by rfl) (World.ownsRow.alloc hown _) ⟨w1.heap.size, 0, none⟩ 1 1 [encStr L] (by rfl) (by rfl) (World.news_of_block (cs := #[encStr L]) (t := 9) (fr := (0, 0)) (heap_alloc_new w1 _)) (by simp [Value.oneCell', encStr]) (by omega) (by unfold maxLen; omega) (by omega) (by simp; omega) (w1.heap.size + 1) (by simp) ?_; intro g7 cap7 w7 hown7 hgrow7 hat7 hlt7)
        have hb7 : Below w.heap.size w w7 := (HB.out.2.alloc hbs _).grown hgrow7 (by simp; omega) (fun j e => (hown.lt j e).1)
        refine ⟨⟨[], out ++ [L], 0, rfl, ?_, Nat.le_refl _, by simp; omega, ?_, hb7⟩, ?_⟩
        · rw [linesFrom_nil, List.append_nil]; exact HB.out.1
        · rw [List.length_append, List.map_append, List.map_cons, List.map_nil]; exact hown7
        · rw [HS.out, HS.out]; exact hpos
      · obtain ⟨f, rfl⟩ : ∃ f', f = f' + 1 := ⟨f - 1, by omega⟩
        rw [linesFrom_hit f L k hL hk] at hout
        have HB := Lib.hid (And.intro hout hb)
        have HS := Lib.hid hss
        have htr := fun W => Any.strings_TrimSuffix Tryd.lays102 ⟨(L.take k).toArray⟩ ⟨#[13]⟩ W (by simp [ByteArray.size]; omega)
        have HT := Lib.hid htr
        clear hout hb hss htr
        go_wp2_with fail
        refine (cutL_hit L (by omega) k hk hkl wr).mono ?_
        rintro _ w1 ⟨rfl, hd⟩
        have hb1 : Below w.heap.size w w1 := HB.out.2.trans (hd.below _)
        have hown1 : w1.ownsRow w.heap.size 9 1 u3 out.length (out.map encStr) := by obtain ⟨m, rfl⟩ := hd; exact hown
        have hs1 := hb1.size
        clear hd
        go_wp2_with fail
        refine (HT.out w1).mono ?_
        rintro _ w2 ⟨rfl, rfl⟩
        obtain ⟨C, hC⟩ : ∃ C, C = chop (L.take k) := ⟨_, rfl⟩
        rw [show Lib.trimSuffix (⟨(L.take k).toArray⟩ : ByteArray).data.toList (⟨#[13]⟩ : ByteArray).data.toList = C from hC.symm]
        have HC := Lib.hid hC
        clear hC
        go_wp2_with (at_builtin; refine wpList_append_lies _ (by rfl) _ _ 28 (by rfl) w.heap.size 9 i0 _ 1 16 Tryd.underlying28 hi hz0 hz1 hz2 rfl (by omega) _ out.length (out.map encStr) (by rfl) (World.ownsRow.alloc hown1 _) ⟨w2.heap.size, 0, none⟩ 1 1 [encStr C] (by rfl) (by rfl) (World.news_of_block (cs := #[encStr C]) (t := 9) (fr := (0, 0)) (heap_alloc_new w2 _)) (by simp [Value.oneCell', encStr]) (by omega) (by unfold maxLen; omega) (by omega) (by simp; omega) (w2.heap.size + 1) (by simp) ?_; intro g7 cap7 w7 hown7 hgrow7 hat7 hlt7)
        have hb7 : Below w.heap.size w w7 := (hb1.alloc hs1 _).grown hgrow7 (by simp; omega) (fun j e => (hown1.lt j e).1)
        refine ⟨⟨L.drop (k + 1), out ++ [C], f, rfl, ?_, by simp; omega, by simp; omega, ?_, hb7⟩, ?_⟩
        · rw [List.append_assoc, HC.out]; exact HB.out.1
        · rw [List.length_append, List.map_append, List.map_cons, List.map_nil]; exact hown7
        · rw [HS.out, HS.out]; simp; omega
end Go.Proofs.YthfkkpkfkobnpaaDoor.tx
