/- DistanceWords: the law. -/
import Derived.Test.YtgmnjiiommbjaaaDl
import Derived.Laws.IdiomStrings
set_option linter.unusedVariables false
set_option linter.unusedSimpArgs false
namespace Go.Proofs.Ytgmnjiiommbjaaa.dist
open Go.RowKit Go.Proofs.Ytgmnjiiommbjaaa.txt Go.Proofs.Ytgmnjiiommbjaaa.mill Go.Proofs.Ytgmnjiiommbjaaa.tx Go.Proofs.Ytgmnjiiommbjaaa.fold

theorem strA (A t : List UInt8) : (⟨A.toArray⟩ : ByteArray) ++ (⟨t.toArray⟩ ++ ⟨#[32]⟩) = ⟨(A ++ (t ++ [32])).toArray⟩ := by
  apply ByteArray.ext
  rw [ByteArray.data_append, ByteArray.data_append]
  simp
theorem strB (B t : List UInt8) : (⟨B.toArray⟩ : ByteArray) ++ ((⟨#[45]⟩ ++ ⟨t.toArray⟩) ++ ⟨#[59, 32]⟩) = ⟨(B ++ ([45] ++ (t ++ [59, 32]))).toArray⟩ := by
  apply ByteArray.ext
  rw [ByteArray.data_append, ByteArray.data_append, ByteArray.data_append]
  simp
theorem strE (X Y : List UInt8) : (⟨X.toArray⟩ : ByteArray) ++ ⟨Y.toArray⟩ = ⟨(X ++ Y).toArray⟩ := by
  apply ByteArray.ext
  rw [ByteArray.data_append]
  simp
theorem strs_kept {g : Nat} {w w' : World} {v : Value} {xs : List (List UInt8)} (h : Strs w w.heap.size v xs) (hk : Kept g w w') (hn : NotAt g v) : Strs w' w'.heap.size v xs := by
  rcases h with h | ⟨b, off, cap, rfl, hlt, hc⟩
  · exact .inl h
  · exact .inr ⟨b, off, cap, rfl, Nat.lt_of_lt_of_le hlt hk.bel.size, fun j x hx => (hk.cell (p := ⟨b, off + j, none⟩) hlt (hn b off _ _ rfl)).trans (hc j x hx)⟩
theorem take_snoc (xs : List (List UInt8)) (k : Nat) (t : List UInt8) (h : xs[k]? = some t) : xs.take (k + 1) = xs.take k ++ [t] := by
  rw [List.take_add_one, h]
  rfl
theorem rev_get (xs : List (List UInt8)) (k : Nat) (h : k < xs.length) : xs.reverse[k]? = xs[xs.length - 1 - k]? := List.getElem?_reverse h

set_option maxRecDepth 100000 in
set_option maxHeartbeats 4000000 in
theorem words_law (w : World) (A : Option Addr) (c : Nat) (l : List Nat) (S : Seeds w w.heap.size A c l) (hl : l.length ≤ maxLen) :
    Calls Try.prog 7 #[.slice A l.length c] w fun e w' => e = .returned (.bool true) ∧ Below w.heap.size w w' := by
  go_enter Try.func7, Try.ntmps7
  have HS := Lib.hid S
  clear S
  go_wp2_with fail
  refine (sane_any w).mono ?_
  rintro _ w1 ⟨rfl, b1⟩
  have s1 := b1.size
  go_wp2_with fail
  refine (new_any w1 A c l ((HS.out.below b1).more s1) hl).mono ?_
  rintro _ w2 ⟨rfl, D2, b2⟩
  have s2 := b2.size
  have hg := D2.lt
  have HB := Lib.hid (b1.trans (b2.mono s1))
  clear b1 b2
  go_wp2_with fail
  refine (textsQ_any w2 w1.heap.size _ 0 4 D2 (by omega)).mono ?_
  rintro _ w3 ⟨v3, xs, k3, rfl, S3, hx4, D3, K3, N3, hQ⟩
  have hz3 := K3.bel.size
  obtain ⟨av, cv, rfl, hp⟩ := S3.parts
  have HK := Lib.hid (And.intro (HB.out.trans (K3.bel.mono s1)) (And.intro S3 (And.intro N3 (And.intro hQ hp))))
  have hAl : ∀ k, (catA (xs.take k)).length ≤ 84 := fun k => by
    have := catA_len (xs.take k) fun x hx => hQ x (List.mem_of_mem_take hx)
    rw [List.length_take] at this
    omega
  have hBl : ∀ k, (catB (xs.reverse.take k)).length ≤ 92 := fun k => by
    have := catB_len (xs.reverse.take k) fun x hx => hQ x (List.mem_reverse.1 (List.mem_of_mem_take hx))
    rw [List.length_take, List.length_reverse] at this
    omega
  have HL := Lib.hid (And.intro hAl hBl)
  clear hQ hp N3 S3 D2 K3 hAl hBl
  go_wp2_with fail
  go_loopw [5, 6, 23] (fun a b i wx => ∃ k : Nat, k ≤ xs.length ∧ i = .int .i64 (k : Int) ∧ a = .string ⟨(catA (xs.take k)).toArray⟩ ∧ b = .string ⟨(catB (xs.reverse.take k)).toArray⟩ ∧ wx = w3) (fun _ _ i _ => xs.length - (intOf i).toNat)
  case atStart => exact ⟨0, Nat.zero_le _, rfl, rfl, rfl, rfl⟩
  case round =>
    obtain ⟨k, hk, rfl, rfl, rfl, rfl⟩ := hrel
    by_cases hlt : k < xs.length
    · obtain ⟨gb, off, rfl, hgl, hc⟩ := HK.out.2.2.2.2 (by omega)
      obtain ⟨x, hx⟩ : ∃ x, xs[k]? = some x := ⟨_, List.getElem?_eq_getElem hlt⟩
      obtain ⟨y, hy⟩ : ∃ y, xs[xs.length - 1 - k]? = some y := ⟨_, List.getElem?_eq_getElem (by omega)⟩
      have cx := hc k x hx
      have cy := hc _ y hy
      have hxl := wq_len (HK.out.2.2.2.1 x (List.mem_of_getElem? hx))
      have hyl := wq_len (HK.out.2.2.2.1 y (List.mem_of_getElem? hy))
      have ha := take_snoc xs k x hx
      have hb := take_snoc xs.reverse k y (by rw [rev_get xs k hlt]; exact hy)
      have hal := HL.out.1 k
      have hbl := HL.out.2 k
      have ha2 := catA_snoc (xs.take k) x
      have hb2 := catB_snoc (xs.reverse.take k) y
      rw [← ha] at ha2
      rw [← hb] at hb2
      obtain ⟨AA, hAA⟩ : ∃ AA, AA = catA (xs.take k) := ⟨_, rfl⟩
      obtain ⟨BB, hBB⟩ : ∃ BB, BB = catB (xs.reverse.take k) := ⟨_, rfl⟩
      rw [← hAA] at hal ha2 ⊢
      rw [← hBB] at hbl hb2 ⊢
      have HAB := Lib.hid (And.intro ha2 hb2)
      obtain ⟨q, hq⟩ : ∃ q, q = xs.length - 1 - k := ⟨_, rfl⟩
      rw [← hq] at cy
      have e1 : (xs.length : Int) - 1 - (k : Int) = (q : Int) := by omega
      have e2 : IntKind.i64.wrap ((k : Int) + 1) = (k : Int) + 1 := IntWalk.i64_in _ (by omega)
      have hql : (q : Int) < (xs.length : Int) := by omega
      clear hc hx hy ha hb ha2 hb2 hAA hBB hq
      go_wp2_with fail
      rw [strA, strB, ← HAB.out.1, ← HAB.out.2]
      exact ⟨⟨k + 1, by omega, by simp, rfl, rfl, trivial⟩, by simp [intOf] <;> omega⟩
    · obtain rfl : k = xs.length := by omega
      have hr : xs.reverse.take xs.length = xs.reverse := List.take_of_length_le (by simp)
      have ha0 := HL.out.1 xs.length
      have hb0 := HL.out.2 xs.length
      rw [List.take_length] at ha0 ⊢
      rw [hr] at hb0 ⊢
      have hlow : ∀ k, (catA (xs.take k)).length ≤ 84 := HL.out.1
      obtain ⟨AA, hAA⟩ : ∃ AA, AA = catA xs := ⟨_, rfl⟩
      obtain ⟨BB, hBB⟩ : ∃ BB, BB = catB xs.reverse := ⟨_, rfl⟩
      rw [← hAA] at ha0 ⊢
      rw [← hBB] at hb0 ⊢
      have HAB := Lib.hid (And.intro hAA hBB)
      clear hAA hBB hr hlow hlt
      go_upto_region 12 with fail
      go_cut [53] (fun s53 wx => ∃ (M : Bool), s53 = .bool M ∧ (M = true → xs ≠ []) ∧ Hid (Below w.heap.size w wx ∧ Strs wx wx.heap.size (.slice av xs.length cv) xs))
      case first =>
        go_wp2_with fail
        refine (pick_some wr w1.heap.size 2 _ k3 D3 (by omega) (by omega)).mono ?_
        rintro _ w4 ⟨n4, k4, rfl, hn4, D4, K4⟩
        have HF := Lib.hid (And.intro (HK.out.1.trans (K4.bel.mono s1)) (strs_kept HK.out.2.1 K4 HK.out.2.2.1))
        clear D4 K4 D3
        by_cases hx0 : 0 < xs.length
        · have g0 : (0 : Int) < (xs.length : Int) := by omega
          have hne : xs ≠ [] := List.length_pos_iff.1 hx0
          have HNE := Lib.hid hne
          clear hne hx0
          go_wp2_with fail
          all_goals (go_meet; exact ⟨_, rfl, fun _ => HNE.out, HF⟩)
        · have g0 : ¬ (0 : Int) < (xs.length : Int) := by omega
          have HNE := Lib.hid hx0
          clear hx0
          go_wp2_with fail
          all_goals (go_meet; exact ⟨_, rfl, (fun h hx => by simp [hx] at h), HF⟩)
      case rest =>
      obtain ⟨M, rfl, hM, HW⟩ := hcut
      have hzc : w.heap.size ≤ wc.heap.size := HW.out.1.size
      have HM := Lib.hid hM
      clear hM D3
      go_upto_if 53 with fail
      go_cut [6] (fun s6 wx => ∃ e : List UInt8, s6 = .string ⟨(BB ++ e).toArray⟩ ∧ Hid (e = [] ∨ e ∈ xs) ∧ e.length ≤ 20 ∧ wc = wx)
      case first =>
        cases M
        · go_wp2_with fail
          go_meet
          exact ⟨[], by rw [List.append_nil], Lib.hid (.inl rfl), by simp, rfl⟩
        · have hne := HM.out rfl
          have hpos := List.length_pos_iff.2 hne
          obtain ⟨av2, cv2, hv2, hp2⟩ := HW.out.2.parts
          injection hv2 with hv2 hv3 hv4
          subst hv2 hv4
          obtain ⟨gb, off, rfl, hgl, hc⟩ := hp2 (by omega)
          obtain ⟨x0, hx0⟩ : ∃ x, xs[0]? = some x := ⟨_, List.getElem?_eq_getElem hpos⟩
          have c0 := hc 0 x0 hx0
          rw [Nat.add_zero] at c0
          have hmem := List.mem_of_getElem? hx0
          have hl0 := wq_len (HK.out.2.2.2.1 x0 hmem)
          have HME := Lib.hid hmem
          have g0 : (0 : Int) < (xs.length : Int) := by omega
          clear hx0 hc hp2 hv3 hmem hne
          go_wp2_with fail
          go_meet
          exact ⟨x0, congrArg Value.string (strE BB x0), Lib.hid (.inr HME.out), hl0, rfl⟩
      case rest =>
      obtain ⟨e, rfl, HE, hel, rfl⟩ := hcut
      obtain ⟨CC, hCC⟩ : ∃ CC, CC = BB ++ e := ⟨_, rfl⟩
      have hcl : CC.length ≤ 112 := by rw [hCC]; simp; omega
      rw [← hCC]
      have HC := Lib.hid hCC
      clear hCC HM
      have hcv := fun W => run_bytes_of_string (P := Try.prog) W 9 22 5 ⟨AA.toArray⟩ (by kernel_rfl) (by kernel_rfl) (by kernel_rfl)
      go_wp2_with fail
      clear hcv
      generalize grownCap wc AA.length 0 5 = cap0 at *
      have hc4 := fun j x h => bytes_at wc ⟨AA.toArray⟩ cap0 5 ((bytesRow ⟨AA.toArray⟩ cap0).size, (bytesRow ⟨AA.toArray⟩ cap0).size + 1) j x h
      have hf4 := fun j h => bytes_free wc ⟨AA.toArray⟩ cap0 5 j h
      have hb4 : Below wc.heap.size wc (wc.alloc (.cells (bytesRow ⟨AA.toArray⟩ cap0) 5 ((bytesRow ⟨AA.toArray⟩ cap0).size, (bytesRow ⟨AA.toArray⟩ cap0).size + 1))).drew := ((Below.refl _ _).alloc (Nat.le_refl _) _).drew
      have hz4 : wc.heap.size < (wc.alloc (.cells (bytesRow ⟨AA.toArray⟩ cap0) 5 ((bytesRow ⟨AA.toArray⟩ cap0).size, (bytesRow ⟨AA.toArray⟩ cap0).size + 1))).drew.heap.size := by simp
      obtain ⟨w4, hw4⟩ : ∃ w4, w4 = (wc.alloc (.cells (bytesRow ⟨AA.toArray⟩ cap0) 5 ((bytesRow ⟨AA.toArray⟩ cap0).size, (bytesRow ⟨AA.toArray⟩ cap0).size + 1))).drew := ⟨_, rfl⟩
      rw [← hw4] at hc4 hf4 hb4 hz4 ⊢
      obtain ⟨B, hB⟩ : ∃ B, B = wc.heap.size := ⟨_, rfl⟩
      rw [← hB] at hc4 hf4 hb4 hz4 hzc ⊢
      have hfr : ∀ j, j < AA.length → w4.frozen? ⟨B, j, none⟩ = false := fun j h => hf4 j (by simpa [ByteArray.size] using h)
      have H4 := Lib.hid (And.intro hc4 (And.intro hfr (And.intro hb4 (And.intro hz4 hB))))
      clear hw4 hc4 hf4 hfr hb4 hz4 hB
      go_loopw [63] (fun i wx => ∃ k : Nat, k ≤ AA.length ∧ i = .int .i64 (k : Int) ∧ (∀ j x, AA[j]? = some x → wx.cell? ⟨B, j, none⟩ = some (.int .u8 (((if j < k then up x else x).toNat : Nat) : Int)) ∧ wx.frozen? ⟨B, j, none⟩ = false) ∧ Below B wc wx ∧ B < wx.heap.size)
        (fun i _ => AA.length - (intOf i).toNat)
      case atStart => exact ⟨0, Nat.zero_le _, rfl, fun j x h => ⟨by simpa using H4.out.1 j x h, H4.out.2.1 j (List.getElem?_eq_some_iff.1 h).1⟩, H4.out.2.2.1, H4.out.2.2.2.1⟩
      case round =>
        obtain ⟨k, hk, rfl, hc, hbx, hBz⟩ := hrel
        by_cases hlt : k < AA.length
        · obtain ⟨x, hx⟩ : ∃ x, AA[k]? = some x := ⟨_, List.getElem?_eq_getElem hlt⟩
          obtain ⟨c1, f1⟩ := hc k x hx
          rw [if_neg (by omega)] at c1
          have hx256 : (x.toNat : Int) < 256 := by have := x.toNat_lt; omega
          have e3 : IntKind.i64.wrap ((k : Int) + 1) = (k : Int) + 1 := IntWalk.i64_in _ (by omega)
          have HC2 := Lib.hid (And.intro hc hbx)
          clear hc hbx
          by_cases h1 : 97 ≤ x.toNat ∧ x.toNat ≤ 122
          · have hn := up_num x h1
            have g1 : (97 : Int) ≤ (x.toNat : Int) := by omega
            have g2 : (x.toNat : Int) ≤ 122 := by omega
            have HN := Lib.hid hn
            clear hn
            go_wp2_with fail
            obtain ⟨hc, hbx⟩ := HC2.out
            refine ⟨⟨k + 1, by omega, by simp, fun i y hi => ?_, hbx.setCell (p := ⟨B, k, none⟩) (Nat.le_refl _) _, by simpa using hBz⟩, by simp [intOf] <;> omega⟩
            refine ⟨?_, by rw [World.frozen?_setCell]; exact (hc i y hi).2⟩
            by_cases e : i = k
            · subst e
              obtain rfl : x = y := by rw [hx] at hi; exact Option.some.inj hi
              rw [if_pos (by omega), World.cell?_setCell_same _ _ _ c1, HN.out]
              congr 2
              omega
            · rw [World.cell?_setCell_other _ _ _ _ (by intro h; injection h with _ h; omega), (hc i y hi).1]
              have : (i < k + 1) = (i < k) := by simp; omega
              simp only [this]
          · have hn : up x = x := by unfold up; rw [if_neg h1]
            have HN := Lib.hid hn
            clear hn
            go_wp2_with fail
            all_goals (
              obtain ⟨hc, hb⟩ := HC2.out
              refine ⟨⟨k + 1, by omega, by simp, fun i y hi => ?_, hb, hBz⟩, by simp [intOf] <;> omega⟩
              refine ⟨?_, (hc i y hi).2⟩
              rw [(hc i y hi).1]
              by_cases e : i = k
              · subst e
                obtain rfl : x = y := by rw [hx] at hi; exact Option.some.inj hi
                rw [if_neg (by omega), if_pos (by omega), HN.out]
              · have : (i < k + 1) = (i < k) := by simp; omega
                simp only [this])
        · obtain rfl : k = AA.length := by omega
          have hrow : ∀ i x, (AA.map up)[i]? = some x → wr.cell? ⟨B, i, none⟩ = some (.int .u8 (x.toNat : Int)) := by
            intro i x hi
            have hi' : i < AA.length := by simpa using (List.getElem?_eq_some_iff.1 hi).1
            rw [(hc i _ (List.getElem?_eq_getElem hi')).1, if_pos hi']
            rw [List.getElem?_map, List.getElem?_eq_getElem hi'] at hi
            rw [← Option.some.inj hi]
          have HR := Lib.hid (And.intro hrow (And.intro (HW.out.1.trans (hbx.mono hzc)) hBz))
          have hzr := HR.out.2.1.size
          have hT1 : TS AA = setOf (allTok xs) := by rw [HAB.out.1]; exact TS_A xs
          have hT2 : TS CC = setOf (allTok xs) := by rw [HC.out, HAB.out.2]; exact TS_B xs e HE.out
          have hT3 : TS (AA.map up) = setOf (allTok xs) := by rw [TS_up]; exact hT1
          have hco1 : Co AA CC = (setOf (allTok xs)).length := by show merge _ _ = _; rw [hT1, hT2, merge_self]
          have hco2 : Co (AA.map up) CC = (setOf (allTok xs)).length := by show merge _ _ = _; rw [hT3, hT2, merge_self]
          have hun1 : Un AA CC = (setOf (allTok xs)).length := by show (TS AA).length + (TS CC).length - Co AA CC = _; rw [hco1, hT1, hT2]; omega
          have hun2 : Un (AA.map up) CC = (setOf (allTok xs)).length := by show (TS (AA.map up)).length + (TS CC).length - Co (AA.map up) CC = _; rw [hco2, hT3, hT2]; omega
          have hpos : xs ≠ [] → 0 < (setOf (allTok xs)).length := fun h => allTok_ne xs h HK.out.2.2.2.1
          obtain ⟨N, hN⟩ : ∃ N, N = (setOf (allTok xs)).length := ⟨_, rfl⟩
          rw [← hN] at hco1 hco2 hun1 hun2 hpos
          have hsim : ∀ a, Un a CC = N → Co a CC = N → 0 < N → simV 3 0 1 1 a CC = true := by
            intro a h1 h2 h3
            rw [simV_three (by decide) rfl a CC (by rw [h1]; exact h3), h1, h2]
            exact decide_eq_true (by omega)
          have HU := Lib.hid (And.intro (And.intro hco1 hco2) (And.intro (And.intro hun1 hun2) (And.intro hpos (And.intro (hsim AA hun1 hco1) (hsim (AA.map up) hun2 hco2)))))
          have hcv := fun W h => run_convert_bytes_back (P := Try.prog) W 22 9 5 ⟨B, 0, none⟩ cap0 (AA.map up) (by kernel_rfl) (by kernel_rfl) (by kernel_rfl) h
          simp only [List.length_map] at hcv
          have HCV := Lib.hid hcv
          clear hc hbx hrow hT1 hT2 hT3 hco1 hco2 hun1 hun2 hpos hsim hN hcv H4
          go_wp2_with fail
          refine (tokens_two AA CC wr (by omega) (by omega)).mono ?_
          rintro _ w6 ⟨rfl, b6⟩
          rw [HU.out.1.1, HU.out.2.1.1]
          have hrow6 : ∀ i x, (AA.map up)[i]? = some x → w6.cell? ⟨B, i, none⟩ = some (.int .u8 (x.toNat : Int)) := fun i x h => (b6.cell (p := ⟨B, i, none⟩) HR.out.2.2).trans (HR.out.1 i x h)
          have HR6 := Lib.hid (And.intro hrow6 (And.intro (HR.out.2.1.trans (b6.mono hzr)) (Nat.lt_of_lt_of_le HR.out.2.2 b6.size)))
          have hz6 := HR6.out.2.1.size
          clear hrow6 b6
          have hc6 := HCV.out w6 (fun i hi => by
            rw [show ((⟨B, 0, none⟩ : Addr).add i) = ⟨B, i, none⟩ by unfold Addr.add; split <;> simp_all]
            exact HR6.out.1 i _ (List.getElem?_eq_getElem (by simpa using hi)))
          go_wp2_with fail
          refine (tokens_two (AA.map up) CC w6 (by simp; omega) (by omega)).mono ?_
          rintro _ w7 ⟨rfl, b7⟩
          rw [HU.out.1.2, HU.out.2.1.2]
          have hrow7 : ∀ i x, (AA.map up)[i]? = some x → w7.cell? ⟨B, i, none⟩ = some (.int .u8 (x.toNat : Int)) := fun i x h => (b7.cell (p := ⟨B, i, none⟩) HR6.out.2.2).trans (HR6.out.1 i x h)
          have HR7 := Lib.hid (And.intro hrow7 (And.intro (HR6.out.2.1.trans (b7.mono hz6)) (Nat.lt_of_lt_of_le HR6.out.2.2 b7.size)))
          have hz7 := HR7.out.2.1.size
          clear hrow7 b7 hc6
          by_cases hxe : xs.length = 0
          · have g0 : ((xs.length : Int) == 0) = true := by rw [beq_iff_eq]; omega
            have HX := Lib.hid hxe
            clear hxe
            go_wp2_with fail
            go_ret
            exact ⟨rfl, HR7.out.2.1.alloc hz7 _⟩
          · have g0 : ((xs.length : Int) == 0) = false := by rw [beq_eq_false_iff_ne]; omega
            have hN0 := HU.out.2.2.1 (fun h => hxe (by rw [h]; rfl))
            have HX := Lib.hid hxe
            clear hxe
            go_wp2_with fail
            obtain ⟨W8, hW8⟩ : ∃ W8, W8 = w7.alloc (.cells #[.int .i64 3, .int .i64 0, .int .i64 1, .int .i64 1] 24) := ⟨_, rfl⟩
            have hz8 : W8.heap.size = w7.heap.size + 1 := by rw [hW8]; simp
            have q0 : W8.cell? ⟨w7.heap.size, 0, none⟩ = some (.int .i64 3) := by rw [hW8, World.cell?_alloc_new]; rfl
            have q1 : W8.cell? ⟨w7.heap.size, 1, none⟩ = some (.int .i64 0) := by rw [hW8, World.cell?_alloc_new]; rfl
            have q2 : W8.cell? ⟨w7.heap.size, 2, none⟩ = some (.int .i64 1) := by rw [hW8, World.cell?_alloc_new]; rfl
            have q3 : W8.cell? ⟨w7.heap.size, 3, none⟩ = some (.int .i64 1) := by rw [hW8, World.cell?_alloc_new]; rfl
            have hb8 : Below w7.heap.size w7 W8 := by rw [hW8]; exact (Below.refl _ _).alloc (Nat.le_refl _) _
            rw [← hW8]
            clear hW8
            refine (similar_any 3 0 1 1 AA CC W8 (by omega) (by omega)).mono ?_
            rintro _ w9 ⟨rfl, b9⟩
            rw [HU.out.2.2.2.1 hN0]
            have p0 := (b9.cell (p := ⟨w7.heap.size, 0, none⟩) (by show w7.heap.size < _; omega)).trans q0
            have p1 := (b9.cell (p := ⟨w7.heap.size, 1, none⟩) (by show w7.heap.size < _; omega)).trans q1
            have p2 := (b9.cell (p := ⟨w7.heap.size, 2, none⟩) (by show w7.heap.size < _; omega)).trans q2
            have p3 := (b9.cell (p := ⟨w7.heap.size, 3, none⟩) (by show w7.heap.size < _; omega)).trans q3
            have hb79 : Below w7.heap.size w7 w9 := hb8.trans (b9.mono (by omega))
            have hc9 := HCV.out w9 (fun i hi => by
              rw [show ((⟨B, 0, none⟩ : Addr).add i) = ⟨B, i, none⟩ by unfold Addr.add; split <;> simp_all]
              exact (hb79.cell (p := ⟨B, i, none⟩) HR7.out.2.2).trans (HR7.out.1 i _ (List.getElem?_eq_getElem (by simpa using hi))))
            have HR9 := Lib.hid (HR7.out.2.1.trans (hb79.mono hz7))
            have hz9 := HR9.out.size
            clear hb79 b9 hb8 q0 q1 q2 q3
            go_wp2_with fail
            refine (similar_any 3 0 1 1 (AA.map up) CC w9 (by simp; omega) (by omega)).mono ?_
            rintro _ w10 ⟨rfl, b10⟩
            rw [HU.out.2.2.2.2 hN0]
            have HF := Lib.hid (HR9.out.trans (b10.mono hz9))
            clear b10
            go_wp2_with fail
            go_ret
            exact ⟨rfl, HF.out⟩
end Go.Proofs.Ytgmnjiiommbjaaa.dist
