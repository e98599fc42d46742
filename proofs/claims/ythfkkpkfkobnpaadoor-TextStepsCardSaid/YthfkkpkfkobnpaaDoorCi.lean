/- Pattern of the reference: the walk. -/
import Derived.Test.YthfkkpkfkobnpaaDoorCh
import Derived.Deep.Cut
import Derived.Deep.DeepCutAuto
set_option linter.unusedSimpArgs false
set_option linter.unusedVariables false
namespace Go.Proofs.YthfkkpkfkobnpaaDoor.rp
open Go.RowKit Go.Proofs.YthfkkpkfkobnpaaDoor.pat Go.Proofs.YthfkkpkfkobnpaaDoor.tw Go.Proofs.YthfkkpkfkobnpaaDoor.pts

theorem snoc_str (O : List UInt8) (b : UInt8) : (⟨O.toArray⟩ : ByteArray) ++ ⟨#[b]⟩ = ⟨(O ++ [b]).toArray⟩ := by
  apply ByteArray.ext
  rw [ByteArray.data_append]
  simp

/-- the rounds of the second loop go on -/
theorem run_on {cs : List Int} {k q : Nat} {c : Int} (hk : cs[k]? = some c) (hq : q < runLen c (cs.drop (k + 1))) : cs[k + q]? = some c := by
  unfold runLen at hq
  cases q with
  | zero => exact hk
  | succ q =>
    by_cases h : inSet c = true
    · rw [if_pos h] at hq
      have := tw_get c (cs.drop (k + 1)) q (by omega)
      rw [List.getElem?_drop] at this
      have e : k + 1 + q = k + (q + 1) := by omega
      rw [← e]
      exact this
    · rw [if_neg h] at hq
      omega
theorem run_off {cs : List Int} {k : Nat} {c : Int} (hk : cs[k]? = some c) (hs : inSet c = true) (d : Int) (hd : cs[k + runLen c (cs.drop (k + 1))]? = some d) : d ≠ c := by
  unfold runLen at hd
  rw [if_pos hs] at hd
  refine tw_stop c (cs.drop (k + 1)) d ?_
  rw [List.getElem?_drop]
  have e : k + (1 + (List.takeWhile (fun x => x == c) (cs.drop (k + 1))).length) = k + 1 + (List.takeWhile (fun x => x == c) (cs.drop (k + 1))).length := by omega
  rw [← e]
  exact hd

set_option maxRecDepth 100000 in
set_option maxHeartbeats 4000000 in
theorem refPattern_any (s : ByteArray) (hs : s.size ≤ 1000000) (w : World) :
    Calls Tryd.prog 24 #[.string s] w fun e w' => e = .returned (.string ⟨(pattern s).toArray⟩) ∧ Below w.heap.size w w' := by
  obtain ⟨i0, hi, hz0, hz1, hz2⟩ := info_parts info_r
  go_enter Tryd.func24, Tryd.ntmps24
  go_wp2
  go_loopw [3] (fun v wr => ∃ (pos fuel : Nat) (xs : List Int), wr.ownsRow (w.heap.size + 1) 21 1 v xs.length (xs.map encR) ∧ wr.heap[w.heap.size]? = some (.stringIter s pos) ∧ xs ++ (ptsFrom s fuel pos).map cls = (ptsFrom s s.size 0).map cls ∧ s.size ≤ pos + fuel ∧ xs.length + fuel ≤ s.size ∧ Below w.heap.size w wr) (fun _ wr => s.size - wr.iterPos w.heap.size)
  case atStart => exact ⟨0, s.size, [], World.ownsRow_nil _ _ _ _, World.alloc_heap_new w (.stringIter s 0), rfl, by omega, by simp, (Below.refl _ w).alloc (Nat.le_refl _) _⟩
  case round =>
    obtain ⟨pos, fuel, xs, hown, hit, hfin, hfu, hln, hb⟩ := hrel
    have hbs := hb.size
    have hks : w.heap.size < wr.heap.size := (Array.getElem?_eq_some_iff.1 hit).1
    have hpos0 : wr.iterPos w.heap.size = pos := by simp [World.iterPos, hit]
    by_cases hp : pos < s.size
    · have hnx : ∀ ty, (Instr.next (.pointer (some ⟨w.heap.size, 0, none⟩)) true ty).run Tryd.prog wr = _ := fun ty => Lib.run_next_any_at wr w.heap.size s pos ty hit hp
      have hwd := Lib.width_pos s pos
      obtain ⟨f, rfl⟩ : ∃ f, fuel = f + 1 := ⟨fuel - 1, by omega⟩
      rw [ptsFrom_succ s f pos hp, List.map_cons] at hfin
      generalize hr : ((Utf8.decode s pos).1 : Int) = r at *
      generalize hd : pos + (Utf8.decode s pos).2 = pos2 at *
      have hp2 : pos < pos2 := by omega
      have hit2 := Lib.iterAt_heap wr w.heap.size s pos pos2 hit
      have hcl := fun W => refClass_any r W
      obtain ⟨c, hc⟩ : ∃ c, c = cls r := ⟨_, rfl⟩
      rw [← hc] at hfin hcl
      have hown2 := own_iter hown (Nat.lt_succ_self _) s pos2
      have hb2 := below_iter hb (Nat.le_refl _) hks s pos2
      obtain ⟨W, hW⟩ : ∃ W, W = wr.iterAt w.heap.size s pos2 := ⟨_, rfl⟩
      have hz : wr.heap.size ≤ W.heap.size := by rw [hW]; simp [World.iterAt]
      rw [← hW] at hit2 hown2 hb2 hnx
      clear hW hown hit hb hr hd hc
      go_wp2_with fail
      refine (hcl _).mono ?_
      rintro _ W2 ⟨rfl, hW2⟩
      obtain rfl : W = W2 := hW2.symm
      go_wp2_with (at_builtin; refine wpList_append_lies _ (by rfl) _ _ 61 (by rfl) (w.heap.size + 1) 21 i0 _ 1 4 Tryd.underlying61 hi hz0 hz1 hz2 rfl (by omega) _ xs.length (xs.map encR) (by rfl) (hown2.alloc _) ⟨W.heap.size, 0, none⟩ 1 1 [encR c] (by rfl) (by rfl) (World.news_of_block (cs := #[encR c]) (t := 21) (fr := (0, 0)) (heap_alloc_new W _)) (by simp [Value.oneCell', encR]) (by omega) (by unfold maxLen; omega) (by omega) (by simp; omega) (W.heap.size + 1) (by simp) ?_; intro g2 cap2 w7 hown7 hgrow hat hlt7)
      have hb7 : Below w.heap.size w w7 := (hb2.alloc hb2.size _).grown hgrow (by simp; omega) (fun j e => by have := (hown2.lt j e).1; omega)
      have hit7 : w7.heap[w.heap.size]? = some (.stringIter s pos2) := by
        have h1 : (W.alloc (.cells #[encR c] 21)).heap[w.heap.size]? = some (.stringIter s pos2) := by
          rw [Below.heap_alloc _ _ _ (by omega)]; exact hit2
        exact (hgrow.block _ (Array.getElem?_eq_some_iff.1 h1).1 (fun e => by have := (hown2.lt _ e.symm).1; omega)).trans h1
      have hpos7 : w7.iterPos w.heap.size = pos2 := by simp [World.iterPos, hit7]
      refine ⟨⟨pos2, f, xs ++ [c], ?_, hit7, by rw [List.append_assoc]; exact hfin, by omega, by simp; omega, hb7⟩, ?_⟩
      · rw [List.length_append, List.map_append, List.map_cons, List.map_nil]
        exact hown7
      · rw [hpos7, hpos0]
        omega
    · have hnx : ∀ ty, (Instr.next (.pointer (some ⟨w.heap.size, 0, none⟩)) true ty).run Tryd.prog wr = _ := fun ty => Lib.run_next_end_at wr w.heap.size s pos ty hit hp
      rw [ptsFrom_end s fuel pos hp, List.map_nil, List.append_nil] at hfin
      have hpat := pattern_pt s
      rw [← hfin] at hpat
      have hrange : ∀ c ∈ xs, 0 ≤ c ∧ c < 128 := by
        rw [hfin]
        intro c hc
        obtain ⟨r, hr, rfl⟩ := List.mem_map.1 hc
        refine cls_range r ?_
        have : ∀ (f p : Nat), ∀ r ∈ ptsFrom s f p, 0 ≤ r := by
          intro f
          induction f with
          | zero => intro p r h; cases h
          | succ f ih =>
            intro p r h
            by_cases hp : p < s.size
            · rw [ptsFrom_succ s f p hp] at h
              rcases List.mem_cons.1 h with rfl | h
              · omega
              · exact ih _ r h
            · rw [ptsFrom_end s _ p hp] at h
              cases h
        exact this _ _ r hr
      have hlen : xs.length ≤ 1000000 := by omega
      have hptl := pt_length xs.length xs (Nat.le_refl _)
      obtain ⟨a, cap, rfl, hal⟩ := r_parts hown
      have HH := Lib.hid (And.intro hpat (And.intro hrange (And.intro hb hptl)))
      clear hpat hrange hb hptl hfin hown hit hpos0
      go_wp2_with fail
      go_loopw [6, 7] (fun o i wx => ∃ (k : Nat) (O : List UInt8) (m : Nat), k ≤ xs.length ∧ i = .int .i64 (k : Int) ∧ o = .string ⟨O.toArray⟩ ∧ O ++ pt (xs.drop k) = pt xs ∧ wx = wr.drewN m) (fun _ i _ => xs.length - (intOf i).toNat)
      case atStart => exact ⟨0, [], 0, Nat.zero_le _, rfl, rfl, rfl, rfl⟩
      case round =>
        obtain ⟨k, O, m, hk, rfl, rfl, hO, rfl⟩ := hrel
        have hOl : O.length ≤ 2000000 := by
          have := congrArg List.length hO
          rw [List.length_append] at this
          have := HH.out.2.2.2
          omega
        by_cases hlt : k < xs.length
        · obtain ⟨g, rfl, hcell⟩ := hal (by omega)
          obtain ⟨c, hc⟩ : ∃ c, xs[k]? = some c := ⟨_, List.getElem?_eq_getElem hlt⟩
          have ck := hcell k c hc
          obtain ⟨hc0, hc1⟩ := HH.out.2.1 c (List.mem_of_getElem? hc)
          have hdk : xs.drop k = c :: xs.drop (k + 1) := by
            rw [List.drop_eq_getElem_cons hlt]
            congr 1
            rw [List.getElem?_eq_getElem hlt] at hc
            exact Option.some.inj hc
          have hst := pt_step c (xs.drop (k + 1))
          have hrl := runLen_le c (xs.drop (k + 1))
          have hon : ∀ q, q < runLen c (xs.drop (k + 1)) → xs[k + q]? = some c := fun q h => run_on hc h
          have hoff := fun hs => run_off hc hs
          have hn1 : inSet c = false → runLen c (xs.drop (k + 1)) = 1 := fun h => by unfold runLen; rw [h]; rfl
          rw [← hdk] at hst
          rw [List.length_drop] at hrl
          generalize runLen c (xs.drop (k + 1)) = n at *
          have hdd : (xs.drop (k + 1)).drop (n - 1) = xs.drop (k + n) := by
            rw [List.drop_drop]
            congr 1
            omega
          rw [hdd] at hst
          rw [hst] at hO
          have HO := Lib.hid (And.intro hO (And.intro hon (And.intro hoff (And.intro hn1 hcell))))
          clear hO hst hdd hon hoff hn1 hdk hcell hc hal
          go_upto_region 10 with fail
          have e3 : IntKind.i64.wrap ((k : Int) + 1) = (k : Int) + 1 := IntWalk.i64_in _ (by omega)
          go_cut [9] (fun s9 wx => s9 = .bool (inSet c) ∧ wr.drewN m = wx)
          case first =>
            by_cases h57 : c = 57
            · subst h57
              go_wp2_with fail
              go_meet
              exact ⟨rfl, rfl⟩
            have f57 : (c == 57) = false := by simpa using h57
            by_cases h65 : c = 65
            · subst h65
              go_wp2_with fail
              go_meet
              exact ⟨rfl, rfl⟩
            have f65 : (c == 65) = false := by simpa using h65
            by_cases h97 : c = 97
            · subst h97
              go_wp2_with fail
              go_meet
              exact ⟨rfl, rfl⟩
            have f97 : (c == 97) = false := by simpa using h97
            by_cases h117 : c = 117
            · subst h117
              go_wp2_with fail
              go_meet
              exact ⟨rfl, rfl⟩
            have f117 : (c == 117) = false := by simpa using h117
            have hin : inSet c = false := by simp [inSet, h57, h65, h97, h117]
            have HI := Lib.hid hin
            clear hin h57 h65 h97 h117
            go_wp2_with fail
            go_meet
            exact ⟨by rw [HI.out], rfl⟩
          case rest =>
          obtain ⟨rfl, rfl⟩ := hcut
          have henc := enc_ascii c hc0 hc1
          obtain ⟨b, hb⟩ : ∃ b, b = c.toNat.toUInt8 := ⟨_, rfl⟩
          rw [← hb] at henc HO
          have hnr := HO.out.2.2.2.1
          have hoff := HO.out.2.2.1
          generalize inSet c = rn at hnr hoff ⊢
          have HN := Lib.hid (And.intro hnr hoff)
          clear hnr hoff hb
          go_wp2_with fail
          go_loopw [8] (fun kk wx => ∃ p m2 : Nat, kk = .int .i64 (p : Int) ∧ k ≤ p ∧ p ≤ k + n ∧ wx = wr.drewN m2) (fun kk _ => k + n - (intOf kk).toNat)
          case atStart => exact ⟨k, m, rfl, Nat.le_refl _, by omega, rfl⟩
          case round =>
            obtain ⟨p, m2, rfl, hp1, hp2, rfl⟩ := hrel
            have hpn : p ≤ 1000000 := by omega
            have e4 : IntKind.i64.wrap ((p : Int) + 1) = (p : Int) + 1 := IntWalk.i64_in _ (by omega)
            have hcc : (c == c) = true := by simp
            by_cases hlt2 : p < k + n
            · have hx := HO.out.2.1 (p - k) (by omega)
              rw [show k + (p - k) = p by omega] at hx
              have c2 := HO.out.2.2.2.2 p c hx
              have hpl : p < xs.length := (List.getElem?_eq_some_iff.1 hx).1
              have hd : decide ((p : Int) < (xs.length : Int)) = true := by simpa using hpl
              clear hx
              cases rn
              · have h1 := HN.out.1 rfl
                obtain rfl : p = k := by omega
                have hkk : ((p : Int) == (p : Int)) = true := by simp
                go_wp2_with fail
                go_quiet (fail)
                go_wp2_with fail
                go_roundw
                case rel => exact ⟨p + 1, m2 + nq, by exact congrArg _ (by omega), by omega, by omega, by simp [World.drewN, Nat.add_assoc]⟩
                case measure => simp [intOf] <;> omega
              · go_wp2_with fail
                go_quiet (fail)
                go_wp2_with fail
                go_roundw
                case rel => exact ⟨p + 1, m2 + nq, by exact congrArg _ (by omega), by omega, by omega, by simp [World.drewN, Nat.add_assoc]⟩
                case measure => simp [intOf] <;> omega
            · have hpk : p = k + n := by omega
              have hoff2 : rn = true → ∀ d, xs[p]? = some d → d ≠ c := by rw [hpk]; exact HN.out.2
              have hcase : (decide ((p : Int) < (xs.length : Int)) = false ∧ ¬ p < xs.length) ∨ (∃ d, wr.cell? ⟨g, p, none⟩ = some (.int .i32 d) ∧ (decide ((p : Int) < (xs.length : Int)) = true ∧ p < xs.length) ∧ rn = true ∧ (d == c) = false) ∨ (∃ d, wr.cell? ⟨g, p, none⟩ = some (.int .i32 d) ∧ (decide ((p : Int) < (xs.length : Int)) = true ∧ p < xs.length) ∧ rn = false ∧ (d == c) = false) ∨ (wr.cell? ⟨g, p, none⟩ = some (.int .i32 c) ∧ (decide ((p : Int) < (xs.length : Int)) = true ∧ p < xs.length) ∧ rn = false ∧ ((p : Int) == (k : Int)) = false) := by
                by_cases hpl : p < xs.length
                · right
                  obtain ⟨d, hd⟩ : ∃ d, xs[p]? = some d := ⟨_, List.getElem?_eq_getElem hpl⟩
                  have c2 := HO.out.2.2.2.2 p d hd
                  have hdl : decide ((p : Int) < (xs.length : Int)) = true ∧ p < xs.length := ⟨by simpa using hpl, hpl⟩
                  cases rn
                  · right
                    by_cases hdc : d = c
                    · subst hdc
                      exact .inr ⟨c2, hdl, rfl, by simp; omega⟩
                    · exact .inl ⟨d, c2, hdl, rfl, by simpa using hdc⟩
                  · exact .inl ⟨d, c2, hdl, rfl, by simpa using hoff2 rfl d hd⟩
                · exact .inl ⟨by simpa using hpl, hpl⟩
              have hple : p ≤ xs.length := by omega
              clear hoff2
              by_cases hn : 1 < n
              · have hgt : (k : Int) + 1 < (p : Int) := by omega
                have hO := HO.out.1
                rw [if_pos hn, ← hpk] at hO
                have HF := Lib.hid hO
                clear hO hpk hn
                rcases hcase with ⟨q1, q0⟩ | ⟨d, q1, ⟨q2, q0⟩, rfl, q4⟩ | ⟨d, q1, ⟨q2, q0⟩, rfl, q4⟩ | ⟨q1, ⟨q2, q0⟩, rfl, q4⟩
                all_goals
                  go_wp2_with fail
                  go_quiet (fail)
                  go_wp2_with fail
                  rw [snoc_str, snoc_str]
                  exact ⟨⟨p, (O ++ [b]) ++ [43], m2 + nq, hple, rfl, rfl, by simpa [List.append_assoc] using HF.out, rfl⟩, by simp [intOf] <;> omega⟩
              · have hgt : ¬ (k : Int) + 1 < (p : Int) := by omega
                have hO := HO.out.1
                rw [if_neg hn, ← hpk] at hO
                have HF := Lib.hid hO
                clear hO hpk hn
                rcases hcase with ⟨q1, q0⟩ | ⟨d, q1, ⟨q2, q0⟩, rfl, q4⟩ | ⟨d, q1, ⟨q2, q0⟩, rfl, q4⟩ | ⟨q1, ⟨q2, q0⟩, rfl, q4⟩
                all_goals
                  go_wp2_with fail
                  go_quiet (fail)
                  go_wp2_with fail
                  rw [snoc_str]
                  exact ⟨⟨p, O ++ [b], m2 + nq, hple, rfl, rfl, by simpa [List.append_assoc] using HF.out, rfl⟩, by simp [intOf] <;> omega⟩
        · obtain rfl : k = xs.length := by omega
          rw [List.drop_length] at hO
          have hO2 : O = pt xs := by
            have e : pt [] = [] := by simp [pt, gend, patOf]
            rw [e, List.append_nil] at hO
            exact hO
          have HF := Lib.hid hO2
          clear hO hO2 hal
          go_wp2_with fail
          go_ret
          refine ⟨?_, sane.below_q HH.out.2.2.1 m⟩
          rw [HH.out.1, ← HF.out]
          rfl
end Go.Proofs.YthfkkpkfkobnpaaDoor.rp
