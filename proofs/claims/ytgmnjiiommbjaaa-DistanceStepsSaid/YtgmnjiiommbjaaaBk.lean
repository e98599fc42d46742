/- text.Tokens: the tokens of the folded text. -/
import Derived.Test.YtgmnjiiommbjaaaBf
import Derived.Deep.AppendLies
import Derived.Outline
import Derived.Sort.KeysCollected
set_option linter.unusedSimpArgs false
set_option linter.unusedVariables false
namespace Go.Proofs.Ytgmnjiiommbjaaa.tok
open Go.RowKit Go.Proofs.Ytgmnjiiommbjaaa.fold

/-- a byte of a token -/
def inTok (b : UInt8) : Bool := decide (48 ≤ b.toNat ∧ b.toNat ≤ 57 ∨ 97 ≤ b.toNat ∧ b.toNat ≤ 122 ∨ 128 ≤ b.toNat)

set_option maxRecDepth 100000 in
theorem inToken_any (b : UInt8) (w : World) : Calls Try.prog 50 #[.int .u8 (b.toNat : Int)] w fun e w' => e = .returned (.bool (inTok b)) ∧ w' = w := by
  have hx256 : (b.toNat : Int) < 256 := by have := b.toNat_lt; omega
  have hd : inTok b = decide (48 ≤ (b.toNat : Int) ∧ (b.toNat : Int) ≤ 57 ∨ 97 ≤ (b.toNat : Int) ∧ (b.toNat : Int) ≤ 122 ∨ 128 ≤ (b.toNat : Int)) := by
    unfold inTok
    congr 1
    simp only [eq_iff_iff]
    omega
  rw [hd]
  clear hd
  generalize (b.toNat : Int) = x at *
  go_enter Try.func50, Try.ntmps50
  by_cases h1 : 48 ≤ x <;> by_cases h2 : x ≤ 57 <;> by_cases h3 : 97 ≤ x <;> by_cases h4 : x ≤ 122 <;> by_cases h5 : 128 ≤ x <;> first
    | omega
    | (go_wp2; go_ret; exact ⟨by simp [h1, h2, h3, h4, h5] <;> omega, rfl⟩)

def isTok (l : List UInt8) (i : Nat) : Bool := match l[i]? with | some b => inTok b | none => false

/-- one step: at place i of l; what has been found, and where the next token may begin -/
def step (l : List UInt8) (st : List (List UInt8) × Nat) (i : Nat) : List (List UInt8) × Nat :=
  if isTok l i = true then st
  else (if st.2 < i then st.1 ++ [(l.drop st.2).take (i - st.2)] else st.1, i + 1)
def upTo (l : List UInt8) (k : Nat) : List (List UInt8) × Nat := (List.range k).foldl (step l) ([], 0)
def tokens (l : List UInt8) : List (List UInt8) := (upTo l (l.length + 1)).1

theorem upTo_succ (l : List UInt8) (k : Nat) : upTo l (k + 1) = step l (upTo l k) k := by simp [upTo, List.range_succ]
theorem upTo_le (l : List UInt8) (k : Nat) : (upTo l k).2 ≤ k ∧ (upTo l k).1.length ≤ k := by
  induction k with
  | zero => simp [upTo]
  | succ k ih =>
    rw [upTo_succ]
    unfold step
    by_cases h : isTok l k = true
    · rw [if_pos h]
      omega
    · rw [if_neg h]
      refine ⟨Nat.le_refl _, ?_⟩
      by_cases h2 : (upTo l k).2 < k
      · rw [if_pos h2, List.length_append]
        simp
        omega
      · rw [if_neg h2]
        show (upTo l k).1.length ≤ k + 1
        omega

theorem extract_enc (l : List UInt8) (b i : Nat) : Value.string ((⟨l.toArray⟩ : ByteArray).extract b i) = encStr ((l.drop b).take (i - b)) := by
  unfold encStr
  congr 1
  apply ByteArray.ext
  rw [ByteArray.data_extract]
  apply Array.ext'
  simp [List.extract_eq_take_drop]

theorem info_str : (Try.prog.info? 9).map (fun i => (i.zero, i.size, i.bytes)) = some (some (.string ⟨#[]⟩), 1, 16) := by kernel_rfl

set_option maxRecDepth 100000 in
set_option maxHeartbeats 1000000 in
theorem tokens_any (s : ByteArray) (w : World) (hs : s.size ≤ 1000000) :
    Calls Try.prog 37 #[.string s] w fun e w' => ∃ v, e = .returned v ∧ w'.ownsRow w.heap.size 9 1 v (tokens (s.data.toList.map low)).length ((tokens (s.data.toList.map low)).map encStr) ∧ Below w.heap.size w w' := by
  obtain ⟨i0, hi, hz0, hz1, hz2⟩ := info_parts info_str
  go_enter Try.func37, Try.ntmps37
  go_wp2_with fail
  refine (fold_any s w hs).mono ?_
  rintro _ w1 ⟨rfl, hb1⟩
  have hlen0 : (s.data.toList.map low).length ≤ 1000000 := by rw [List.length_map, Array.length_toList]; exact hs
  obtain ⟨l, hl⟩ : ∃ l, l = s.data.toList.map low := ⟨_, rfl⟩
  rw [← hl] at hlen0 ⊢
  have HL := Lib.hid hl
  clear hl
  obtain ⟨S, hS⟩ : ∃ S : ByteArray, S = ⟨l.toArray⟩ := ⟨_, rfl⟩
  have hsz : S.size = l.length := by rw [hS]; simp [ByteArray.size]
  have hsx : ∀ b i, Value.string (S.extract b i) = encStr ((l.drop b).take (i - b)) := by rw [hS]; exact extract_enc l
  have hget : ∀ (i : Nat) (h : i < S.size), l[i]? = some S[i] := by
    subst hS
    intro i h
    have h2 : i < l.length := by simpa [ByteArray.size] using h
    rw [List.getElem?_eq_getElem h2]
    rfl
  rw [← hS]
  have HS := Lib.hid (And.intro hsx (And.intro hget hsz))
  clear hS hsx hget
  rw [← hsz] at hlen0
  clear hsz
  go_wp2_with fail
  go_loopw [3, 4, 11] (fun v b i wr => ∃ k : Nat, k ≤ S.size + 1 ∧ i = .int .i64 (k : Int) ∧ b = .int .i64 ((upTo l k).2 : Int) ∧ wr.ownsRow w.heap.size 9 1 v (upTo l k).1.length ((upTo l k).1.map encStr) ∧ Below w.heap.size w wr)
    (fun _ _ i _ => S.size + 1 - (intOf i).toNat)
  case atStart => exact ⟨0, Nat.zero_le _, rfl, rfl, World.ownsRow_nil _ _ _ _, hb1⟩
  case round =>
    obtain ⟨k, hk, rfl, rfl, hown, hb⟩ := hrel
    obtain ⟨hle1, hle2⟩ := upTo_le l k
    by_cases hlt : k < S.size + 1
    · have hst := upTo_succ l k
      have e3 : IntKind.i64.wrap ((k : Int) + 1) = (k : Int) + 1 := IntWalk.i64_in _ (by omega)
      obtain ⟨ts, b0, hu⟩ : ∃ ts b0, upTo l k = (ts, b0) := ⟨_, _, rfl⟩
      rw [hu] at hst hle1 hle2 hown
      simp only [hu]
      dsimp only at hle1 hle2 hown
      clear hu
      unfold step at hst
      dsimp only at hst
      by_cases hk2 : k < S.size
      · have hg := HS.out.2.1 k hk2
        obtain ⟨x, hx⟩ : ∃ x, x = S[k] := ⟨_, rfl⟩
        rw [← hx] at hg
        have hit := inToken_any x wr
        have hx2 : ((S[k]'hk2).toNat : Int) = (x.toNat : Int) := by rw [hx]
        have hti : isTok l k = inTok x := by unfold isTok; rw [hg]
        rw [hti] at hst
        clear hx hg hti
        by_cases hin : inTok x = true
        · rw [if_pos hin] at hst
          rw [hin] at hit
          have HB := Lib.hid (And.intro hst (And.intro hb hown))
          clear hst hb hown hin
          go_wp2_with fail
          refine hit.mono ?_
          rintro _ w8 ⟨rfl, hw8⟩
          obtain rfl : wr = w8 := hw8.symm
          clear hw8
          go_wp2_with fail
          exact ⟨⟨k + 1, by omega, by simp, by rw [HB.out.1] <;> simp, by rw [HB.out.1]; exact HB.out.2.2, HB.out.2.1⟩, by simp [intOf] <;> omega⟩
        · have hin' : inTok x = false := by simpa using hin
          rw [if_neg hin] at hst
          rw [hin'] at hit
          clear hin hin'
          have HI := Lib.hid (And.intro hst (And.intro hb hown))
          clear hst hb hown
          go_wp2_with fail
          refine hit.mono ?_
          rintro _ w8 ⟨rfl, hw8⟩
          obtain rfl : wr = w8 := hw8.symm
          clear hw8 hit
          obtain ⟨hst, hb, hown⟩ := HI.out
          clear HI
          by_cases hbk : b0 < k
          · have hbk' : (b0 : Int) < (k : Int) := by omega
            have i1 : (0 : Int) ≤ (b0 : Int) := by omega
            have i2 : (b0 : Int) ≤ (k : Int) := by omega
            have i3 : (k : Int) ≤ (S.size : Int) := by omega
            rw [if_pos hbk] at hst
            have hse := HS.out.1 b0 k
            have HB := Lib.hid (And.intro hst hb)
            have hbs := hb.size
            clear hst hb
            go_wp2_with (at_builtin; refine wpList_append_lies _ (by rfl) _ _ 25 (by rfl) w.heap.size 9 i0 _ 1 16 Try.underlying25 hi hz0 hz1 hz2 rfl (by omega) _ ts.length (ts.map encStr) (by rfl) (hown.alloc _) ⟨wr.heap.size, 0, none⟩ 1 1 [encStr ((l.drop b0).take (k - b0))] (by rfl) (by rfl) (World.news_of_block (cs := #[encStr ((l.drop b0).take (k - b0))]) (t := 9) (fr := (0, 0)) (heap_alloc_new wr _)) (by simp [Value.oneCell', encStr]) (by omega) (by unfold maxLen; omega) (by omega) (by simp; omega) (wr.heap.size + 1) (by simp) ?_; intro g2 cap2 w7 hown7 hgrow hat hlt7)
            refine ⟨⟨k + 1, by omega, by simp, by rw [HB.out.1] <;> simp, ?_, ?_⟩, by simp [intOf] <;> omega⟩
            · rw [HB.out.1, List.length_append, List.map_append, List.map_cons, List.map_nil]
              exact hown7
            · exact (HB.out.2.alloc HB.out.2.size _).grown hgrow (by simp; omega) (fun j e => (hown.lt j e).1)
          · have hbk' : ¬ (b0 : Int) < (k : Int) := by omega
            rw [if_neg hbk] at hst
            have HB := Lib.hid (And.intro hst (And.intro hb hown))
            clear hst hb hown
            go_wp2_with fail
            exact ⟨⟨k + 1, by omega, by simp, by rw [HB.out.1] <;> simp, by rw [HB.out.1]; exact HB.out.2.2, HB.out.2.1⟩, by simp [intOf] <;> omega⟩
      · have hke : k = S.size := by omega
        have hti : isTok l k = false := by
          unfold isTok
          rw [hke, HS.out.2.2, List.getElem?_eq_none (Nat.le_refl _)]
        rw [hti, if_neg (by decide)] at hst
        have hw0 : ¬ (k : Int) < (S.size : Int) := by omega
        have hw1 : (k : Int) < (S.size : Int) + 1 := by omega
        clear hti hke
        by_cases hbk : b0 < k
        · have hbk' : (b0 : Int) < (k : Int) := by omega
          have i1 : (0 : Int) ≤ (b0 : Int) := by omega
          have i2 : (b0 : Int) ≤ (k : Int) := by omega
          have i3 : (k : Int) ≤ (S.size : Int) := by omega
          rw [if_pos hbk] at hst
          have hse := HS.out.1 b0 k
          have HB := Lib.hid (And.intro hst hb)
          have hbs := hb.size
          clear hst hb
          go_wp2_with (at_builtin; refine wpList_append_lies _ (by rfl) _ _ 25 (by rfl) w.heap.size 9 i0 _ 1 16 Try.underlying25 hi hz0 hz1 hz2 rfl (by omega) _ ts.length (ts.map encStr) (by rfl) (hown.alloc _) ⟨wr.heap.size, 0, none⟩ 1 1 [encStr ((l.drop b0).take (k - b0))] (by rfl) (by rfl) (World.news_of_block (cs := #[encStr ((l.drop b0).take (k - b0))]) (t := 9) (fr := (0, 0)) (heap_alloc_new wr _)) (by simp [Value.oneCell', encStr]) (by omega) (by unfold maxLen; omega) (by omega) (by simp; omega) (wr.heap.size + 1) (by simp) ?_; intro g2 cap2 w7 hown7 hgrow hat hlt7)
          refine ⟨⟨k + 1, by omega, by simp, by rw [HB.out.1] <;> simp, ?_, ?_⟩, by simp [intOf] <;> omega⟩
          · rw [HB.out.1, List.length_append, List.map_append, List.map_cons, List.map_nil]
            exact hown7
          · exact (HB.out.2.alloc HB.out.2.size _).grown hgrow (by simp; omega) (fun j e => (hown.lt j e).1)
        · have hbk' : ¬ (b0 : Int) < (k : Int) := by omega
          rw [if_neg hbk] at hst
          have HB := Lib.hid (And.intro hst (And.intro hb hown))
          clear hst hb hown
          go_wp2_with fail
          exact ⟨⟨k + 1, by omega, by simp, by rw [HB.out.1] <;> simp, by rw [HB.out.1]; exact HB.out.2.2, HB.out.2.1⟩, by simp [intOf] <;> omega⟩
    · obtain rfl : k = S.size + 1 := by omega
      have hfin : (upTo l (S.size + 1)).1 = tokens l := by unfold tokens; rw [HS.out.2.2]
      rw [hfin] at hown
      have HB := Lib.hid (And.intro hown hb)
      clear hown hb hfin hle1 hle2
      go_wp2_with fail
      go_ret
      have hown := HB.out.1
      rw [HL.out] at hown
      exact ⟨_, rfl, hown, HB.out.2⟩
end Go.Proofs.Ytgmnjiiommbjaaa.tok
