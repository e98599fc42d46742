/- TextTwice: the law. -/
import Derived.Test.YthfkkpkfkobnpaaDoorBd
import Derived.Test.YthfkkpkfkobnpaaDoorCa
import Derived.Test.YthfkkpkfkobnpaaDoorCb
set_option linter.unusedVariables false
set_option linter.unusedSimpArgs false
namespace Go.Proofs.YthfkkpkfkobnpaaDoor.tw
open Go.RowKit Go.Proofs.YthfkkpkfkobnpaaDoor.txt Go.Proofs.YthfkkpkfkobnpaaDoor.mill Go.Proofs.YthfkkpkfkobnpaaDoor.tx Go.Proofs.YthfkkpkfkobnpaaDoor.fold

theorem foldL (X : List UInt8) (w : World) (hs : X.length ≤ 1000000) :
    Calls Tryd.prog 16 #[.string ⟨X.toArray⟩] w fun e w' => e = .returned (.string ⟨(X.map low).toArray⟩) ∧ Below w.heap.size w w' :=
  fold_any ⟨X.toArray⟩ w (by simpa [ByteArray.size] using hs)
theorem tokensL (X : List UInt8) (w : World) (hs : X.length ≤ 1000000) :
    Calls Tryd.prog 21 #[.string ⟨X.toArray⟩] w fun e w' => ∃ v, e = .returned v ∧ w'.ownsRow w.heap.size 9 1 v (tok.tokens (X.map low)).length ((tok.tokens (X.map low)).map encStr) ∧ Below w.heap.size w w' :=
  tok.tokens_any ⟨X.toArray⟩ w (by simpa [ByteArray.size] using hs)
theorem patternL (X : List UInt8) (w : World) (hs : X.length ≤ 1000000) :
    Calls Tryd.prog 23 #[.string ⟨X.toArray⟩] w fun e w' => e = .returned (.string ⟨(pat.pattern ⟨X.toArray⟩).toArray⟩) ∧ Below w.heap.size w w' :=
  callsIn_wide.1 (pat.pattern_any ⟨X.toArray⟩ (by simpa [ByteArray.size] using hs) w)
theorem trimL (X : List UInt8) (w : World) (hs : X.length ≤ 1000000) :
    Calls Tryd.prog 18 #[.string ⟨X.toArray⟩] w fun e w' => e = .returned (.string ⟨(Lib.trimB X 32).toArray⟩) ∧ Below w.heap.size w w' :=
  (trim_any X hs w).mono fun _ _ ⟨h1, h2⟩ => ⟨h1, h2.below _⟩

/-- the texts over which the law goes -/
def Two (W : World) (B : Nat) : Prop := ∀ j, j < 2 → ∃ X : List UInt8, W.cell? ⟨B, j, none⟩ = some (.string ⟨X.toArray⟩) ∧ X.length ≤ 300

theorem around_str (X : List UInt8) : (⟨#[32]⟩ ++ ⟨X.toArray⟩ : ByteArray) ++ ⟨#[32, 32]⟩ = ⟨(([32] ++ X) ++ [32, 32]).toArray⟩ := by
  apply ByteArray.ext
  rw [ByteArray.data_append, ByteArray.data_append]
  simp
theorem cat_str (A t : List UInt8) : (⟨A.toArray⟩ : ByteArray) ++ (⟨t.toArray⟩ ++ ⟨#[44, 32]⟩) = ⟨(A ++ (t ++ [44, 32])).toArray⟩ := by
  apply ByteArray.ext
  rw [ByteArray.data_append, ByteArray.data_append]
  simp

/-- what the law knows of a text -/
structure About (X F : List UInt8) (TS : List (List UInt8)) : Prop where
  low : F.map low = F
  len : F.length = X.length
  toks : tok.tokens F = TS
  one : ∀ t ∈ TS, tok.tokens (t.map fold.low) = [t] ∧ t.length ≤ X.length
  few : TS.length ≤ X.length
  cat : tok.tokens ((cat TS).map fold.low) = TS
  catl : ∀ k, (tw.cat (TS.take k)).length ≤ 3 * X.length

theorem mem_flat {TS : List (List UInt8)} {t : List UInt8} (h : t ∈ TS) : t.length ≤ TS.flatten.length := by
  induction TS with
  | nil => cases h
  | cons a r ih =>
    rcases List.mem_cons.1 h with rfl | h
    · simp
    · have := ih h
      rw [List.flatten_cons, List.length_append]
      omega
theorem few_flat {TS : List (List UInt8)} (h : ∀ t ∈ TS, t ≠ []) : TS.length ≤ TS.flatten.length := by
  induction TS with
  | nil => simp
  | cons a r ih =>
    have := ih fun t ht => h t (by simp [ht])
    have := List.length_pos_iff.2 (h a (by simp))
    rw [List.flatten_cons, List.length_append, List.length_cons]
    omega
theorem about (X : List UInt8) : About X (X.map fold.low) (tok.tokens (X.map fold.low)) := by
  have hm := tokens_mem (X.map fold.low)
  have hf : (tok.tokens (X.map fold.low)).flatten.length ≤ X.length := by
    rw [tokens_tk]
    have := tk_size (X.map fold.low) []
    simpa using this
  refine ⟨low_lows X, by simp, rfl, fun t ht => ⟨tokens_one t (hm t ht).1 (hm t ht).2, Nat.le_trans (mem_flat ht) hf⟩, Nat.le_trans (few_flat fun t ht => (hm t ht).1) hf, tokens_cat _ hm, fun k => ?_⟩
  refine Nat.le_trans (cat_length _ fun t ht => (hm t (List.mem_of_mem_take ht)).1) ?_
  have h1 : ((tok.tokens (X.map fold.low)).take k).flatten.length ≤ (tok.tokens (X.map fold.low)).flatten.length := by
    conv => rhs; rw [← List.take_append_drop k (tok.tokens (X.map fold.low)), List.flatten_append, List.length_append]
    omega
  omega

set_option maxRecDepth 100000 in
set_option maxHeartbeats 4000000 in
theorem twice_any (w : World) (A : Option Addr) (c : Nat) (l : List Nat) (S : Seeds w w.heap.size A c l) (hl : l.length ≤ maxLen) (raw : ByteArray) (hU : sane.Utf w) (h2 : 2 ≤ w.heap.size) :
    Calls Tryd.prog 5 #[.slice A l.length c, .string raw] w fun e w' => e = .returned (.bool true) ∧ Below w.heap.size w w' := by
  go_enter Tryd.func5, Tryd.ntmps5
  have HS := Lib.hid S
  clear S
  go_wp2_with fail
  refine (sane_any w hU h2).mono ?_
  rintro _ w1 ⟨rfl, b1⟩
  have s1 := b1.size
  by_cases h300 : 300 < raw.size
  · have HB := Lib.hid b1
    go_wp2
    go_ret
    exact ⟨rfl, HB.out⟩
  go_wp2_with fail
  refine (new_any w1 A c l ((HS.out.below b1).more s1) hl).mono ?_
  rintro _ w2 ⟨rfl, D2, b2⟩
  have s2 := b2.size
  have hg := D2.lt
  go_wp2_with fail
  refine (pick_some w2 w1.heap.size 9 _ 0 D2 (by omega) (by omega)).mono ?_
  rintro _ w3 ⟨n0, k3, rfl, hn0, D3, K3⟩
  go_wp2_with fail
  refine (bn.field_any w3 w1.heap.size _ k3 n0 D3 (by omega)).mono ?_
  rintro _ w4 ⟨x1, k4, rfl, hx1, _, D4, K4⟩
  go_wp2_with fail
  refine (pick_some w4 w1.heap.size 9 _ k4 D4 (by omega) (by omega)).mono ?_
  rintro _ w5 ⟨n5, k5, rfl, hn5, D5, K5⟩
  go_wp2_with fail
  refine (bn.field_any w5 w1.heap.size _ k5 n5 D5 (by omega)).mono ?_
  rintro _ w6 ⟨x2, k6, rfl, hx2, _, D6, K6⟩
  have KK := (((K3.trans K4).trans K5).trans K6)
  have hbel : Below w.heap.size w w6 := (b1.trans (b2.mono s1)).trans (KK.bel.mono s1)
  obtain ⟨W, hW⟩ : ∃ W, W = w6.alloc (.cells #[.string raw, .string (x1 ++ x2)] 9) := ⟨_, rfl⟩
  have hWw : Below w.heap.size w W := by rw [hW]; exact hbel.alloc hbel.size _
  have hTwo : Two W w6.heap.size := by
    intro j hj
    match j, hj with
    | 0, _ => exact ⟨raw.data.toList, by rw [hW]; simp only [World.cell?, heap_alloc_new]; rfl, by rw [← Lib.size_eq]; omega⟩
    | 1, _ => exact ⟨(x1 ++ x2).data.toList, by rw [hW]; simp only [World.cell?, heap_alloc_new]; rfl, by rw [← Lib.size_eq, ByteArray.size_append]; omega⟩
  have HL := Lib.hid (And.intro hTwo hWw)
  clear hTwo hWw hbel KK K3 K4 K5 K6 D2 D3 D4 D5 D6 b1 b2
  go_wp2_with fail
  rw [← hW]
  have hWs : w6.heap.size < W.heap.size := by rw [hW]; simp
  clear hW
  go_loopw [34] (fun i wr => ∃ j : Nat, i = .int .i64 (j : Int) ∧ j ≤ 2 ∧ Below W.heap.size W wr) (fun i _ => 2 - (intOf i).toNat)
  case atStart => exact ⟨0, rfl, by omega, Below.refl _ _⟩
  case round =>
    obtain ⟨j, rfl, hj, hb⟩ := hrel
    by_cases hj2 : j < 2
    · obtain ⟨X, hc, hX⟩ := HL.out.1 j hj2
      have cj := (hb.cell (p := ⟨w6.heap.size, j, none⟩) hWs).trans hc
      have HB := Lib.hid hb
      have hz := hb.size
      clear hb hc
      go_wp2_with fail
      obtain ⟨F, TS, hAb, hFe⟩ : ∃ F TS, About X F TS ∧ F = X.map fold.low := ⟨_, _, about X, rfl⟩
      refine (foldL X wr (by omega)).mono ?_
      rintro _ w7 ⟨rfl, b7⟩
      rw [← hFe]
      have hFl := hAb.len
      have HAb := Lib.hid (And.intro hAb hFe)
      clear hAb hFe
      go_wp2_with fail
      refine (foldL F w7 (by omega)).mono ?_
      rintro _ w8 ⟨rfl, b8⟩
      rw [HAb.out.1.low]
      have b78 := b7.trans (b8.mono b7.size)
      clear b7 b8
      go_wp2_with fail
      refine (trimL X w8 (by omega)).mono ?_
      rintro _ w9 ⟨rfl, b9⟩
      have htl := trim_length X 32
      have htt := trim_trim X 32
      have hta := trim_around X
      obtain ⟨T, hT⟩ : ∃ T, T = Lib.trimB X 32 := ⟨_, rfl⟩
      rw [← hT] at htl htt hta ⊢
      have HT := Lib.hid (And.intro hT (And.intro htt hta))
      clear hT htt hta
      go_wp2_with fail
      refine (trimL T w9 (by omega)).mono ?_
      rintro _ w10 ⟨rfl, b10⟩
      rw [HT.out.2.1]
      go_wp2_with fail
      refine (trimL X w10 (by omega)).mono ?_
      rintro _ w11 ⟨rfl, b11⟩
      rw [← HT.out.1]
      have b711 := ((b78.trans (b9.mono b78.size)).trans (b10.mono (Nat.le_trans b78.size b9.size))).trans (b11.mono (Nat.le_trans b78.size (Nat.le_trans b9.size b10.size)))
      clear b78 b9 b10 b11
      go_wp2_with fail
      rw [around_str]
      refine (trimL _ w11 (by simp; omega)).mono ?_
      rintro _ w12 ⟨rfl, b12⟩
      rw [HT.out.2.2]
      go_wp2_with fail
      refine (trimL X w12 (by omega)).mono ?_
      rintro _ w13 ⟨rfl, b13⟩
      rw [← HT.out.1]
      have b713 := (b711.trans (b12.mono b711.size)).trans (b13.mono (Nat.le_trans b711.size b12.size))
      clear b711 b12 b13
      go_wp2_with fail
      refine (tokensL X w13 (by omega)).mono ?_
      rintro _ w14 ⟨v14, rfl, hown, b14⟩
      rw [← HAb.out.2, HAb.out.1.toks] at hown
      obtain ⟨au, cu, rfl, hal⟩ := put_parts hown
      have b714 := b713.trans (b14.mono b713.size)
      have HW := Lib.hid (And.intro hown b714)
      have hz14 := b714.size
      clear hown b713 b14 b714
      have hfew := HAb.out.1.few
      go_wp2_with fail
      go_loopw [9, 71] (fun a i wx => ∃ k : Nat, k ≤ TS.length ∧ i = .int .i64 (k : Int) ∧ a = .string ⟨(cat (TS.take k)).toArray⟩ ∧ Below w14.heap.size w14 wx) (fun _ i _ => TS.length - (intOf i).toNat)
      case atStart => exact ⟨0, Nat.zero_le _, rfl, rfl, Below.refl _ _⟩
      case round =>
        obtain ⟨k, hk, rfl, rfl, hbx⟩ := hrel
        have hzx := hbx.size
        by_cases hlt : k < TS.length
        · obtain ⟨g, rfl, hgl, hcell⟩ : ∃ g, au = some ⟨g, 0, none⟩ ∧ g < w14.heap.size ∧ ∀ (j : Nat) (x : List UInt8), TS[j]? = some x → w14.cell? ⟨g, j, none⟩ = some (.string ⟨x.toArray⟩) := by
            rcases hal with ⟨_, he, _⟩ | ⟨g, he, _, _, hc⟩
            · rw [he] at hlt; exact absurd hlt (Nat.not_lt_zero _)
            · refine ⟨g, he, ?_, hc⟩
              exact World.block_lt_of_cell? w14 _ (hc k _ (List.getElem?_eq_getElem hlt))
          obtain ⟨t, ht⟩ : ∃ t, TS[k]? = some t := ⟨_, List.getElem?_eq_getElem hlt⟩
          have ct := (hbx.cell (p := ⟨g, k, none⟩) hgl).trans (hcell k t ht)
          obtain ⟨hone, htl2⟩ := HAb.out.1.one t (List.mem_of_getElem? ht)
          have hcat : cat (TS.take (k + 1)) = cat (TS.take k) ++ (t ++ [44, 32]) := by
            rw [List.take_add_one, ht]
            exact cat_snoc _ _
          have hcl := HAb.out.1.catl k
          obtain ⟨C, hC⟩ : ∃ C, C = cat (TS.take k) := ⟨_, rfl⟩
          rw [← hC] at hcat hcl ⊢
          have HC := Lib.hid (And.intro hC (And.intro hcat (And.intro hone hbx)))
          have e3 : IntKind.i64.wrap ((k : Int) + 1) = (k : Int) + 1 := IntWalk.i64_in _ (by omega)
          clear hC hcat hone hbx ht hcell hal
          go_wp2_with fail
          refine (tokensL t wr (by omega)).mono ?_
          rintro _ w15 ⟨v15, rfl, hown, b15⟩
          rw [HC.out.2.2.1] at hown
          obtain ⟨au2, cu2, rfl, hal2⟩ := put_parts hown
          obtain ⟨g2, rfl, hc2⟩ : ∃ g2, au2 = some ⟨g2, 0, none⟩ ∧ w15.cell? ⟨g2, 0, none⟩ = some (.string ⟨t.toArray⟩) := by
            rcases hal2 with ⟨_, he, _⟩ | ⟨g, he, _, _, hc⟩
            · cases he
            · exact ⟨g, he, hc 0 t rfl⟩
          have H15 := Lib.hid b15
          clear hal2 hown b15
          go_wp2_with fail
          rw [cat_str, ← HC.out.2.1]
          exact ⟨⟨k + 1, by omega, by simp, rfl, HC.out.2.2.2.trans (H15.out.mono hzx)⟩, by simp [intOf] <;> omega⟩
        · obtain rfl : k = TS.length := by omega
          rw [List.take_length]
          have hcl := HAb.out.1.catl TS.length
          rw [List.take_length] at hcl
          have htc := HAb.out.1.cat
          have hbw := HW.out.2.trans (hbx.mono hz14)
          have H15 := Lib.hid hbw
          have hz15 := hbw.size
          obtain ⟨C, hC⟩ : ∃ C, C = cat TS := ⟨_, rfl⟩
          rw [← hC] at hcl htc ⊢
          have HC := Lib.hid htc
          clear hbx hbw hal htc hC
          go_wp2_with fail
          refine (tokensL C wr (by omega)).mono ?_
          rintro _ w15 ⟨v15, rfl, hown15, b15⟩
          rw [HC.out] at hown15
          have HO := Lib.hid hown15
          clear hown15
          go_wp2_with fail
          refine (tokensL F w15 (by omega)).mono ?_
          rintro _ w16 ⟨v16, rfl, hown16, b16⟩
          rw [HAb.out.1.low, HAb.out.1.toks] at hown16
          have hS15 := strs_of_owns (owns_below HO.out b16)
          have hS16 := strs_of_owns hown16
          have HO2 := Lib.hid (And.intro b15 b16)
          have hz16 := Nat.le_trans b15.size b16.size
          clear hown16 b15 b16
          go_wp2_with fail
          refine (same_any v15 v16 TS TS w16 hS15 hS16 (by omega) (by omega)).mono ?_
          rintro _ w17 ⟨rfl, hd⟩
          rw [decide_eq_true (rfl : TS = TS)]
          have hbw := (H15.out.trans ((HO2.out.1.trans (HO2.out.2.mono HO2.out.1.size)).mono hz15)).trans ((hd.below w16.heap.size).mono (Nat.le_trans hz15 hz16))
          have hz17 := hbw.size
          have H17 := Lib.hid hbw
          clear hbw hd hS15 hS16 HO HO2 HC
          have hcv := fun W => run_bytes_of_string (P := Tryd.prog) W 9 22 5 ⟨X.toArray⟩ (by kernel_rfl) (by kernel_rfl) (by kernel_rfl)
          go_wp2_with fail
          clear hcv
          generalize grownCap w17 X.length 0 5 = cap0 at *
          have hc4 := fun j x h => bytes_at w17 ⟨X.toArray⟩ cap0 5 ((bytesRow ⟨X.toArray⟩ cap0).size, (bytesRow ⟨X.toArray⟩ cap0).size + 1) j x h
          have hf4 := fun j h => bytes_free w17 ⟨X.toArray⟩ cap0 5 j h
          have hb4 : Below w17.heap.size w17 (w17.alloc (.cells (bytesRow ⟨X.toArray⟩ cap0) 5 ((bytesRow ⟨X.toArray⟩ cap0).size, (bytesRow ⟨X.toArray⟩ cap0).size + 1))).drew := ((Below.refl _ _).alloc (Nat.le_refl _) _).drew
          have hz4 : w17.heap.size < (w17.alloc (.cells (bytesRow ⟨X.toArray⟩ cap0) 5 ((bytesRow ⟨X.toArray⟩ cap0).size, (bytesRow ⟨X.toArray⟩ cap0).size + 1))).drew.heap.size := by simp
          obtain ⟨w4, hw4⟩ : ∃ w4, w4 = (w17.alloc (.cells (bytesRow ⟨X.toArray⟩ cap0) 5 ((bytesRow ⟨X.toArray⟩ cap0).size, (bytesRow ⟨X.toArray⟩ cap0).size + 1))).drew := ⟨_, rfl⟩
          rw [← hw4] at hc4 hf4 hb4 hz4 ⊢
          obtain ⟨B, hB⟩ : ∃ B, B = w17.heap.size := ⟨_, rfl⟩
          rw [← hB] at hc4 hf4 hb4 hz4 hz17 ⊢
          have hfr : ∀ j, j < X.length → w4.frozen? ⟨B, j, none⟩ = false := fun j h => hf4 j (by simpa [ByteArray.size] using h)
          have H4 := Lib.hid (And.intro hc4 (And.intro hfr (And.intro hb4 (And.intro hz4 hB))))
          clear hw4 hc4 hf4 hfr hb4 hz4 hB
          go_loopw [102] (fun i wx => ∃ k : Nat, k ≤ X.length ∧ i = .int .i64 (k : Int) ∧ (∀ j x, X[j]? = some x → wx.cell? ⟨B, j, none⟩ = some (.int .u8 (((if j < k then shift x else x).toNat : Nat) : Int)) ∧ wx.frozen? ⟨B, j, none⟩ = false) ∧ Below B w17 wx)
            (fun i _ => X.length - (intOf i).toNat)
          case atStart => exact ⟨0, Nat.zero_le _, rfl, fun j x h => ⟨by simpa using H4.out.1 j x h, H4.out.2.1 j (List.getElem?_eq_some_iff.1 h).1⟩, H4.out.2.2.1⟩
          case round =>
            obtain ⟨k, hk, rfl, hc, hbx⟩ := hrel
            by_cases hlt : k < X.length
            · obtain ⟨x, hx⟩ : ∃ x, X[k]? = some x := ⟨_, List.getElem?_eq_getElem hlt⟩
              obtain ⟨c1, f1⟩ := hc k x hx
              rw [if_neg (by omega)] at c1
              have hx256 : (x.toNat : Int) < 256 := by have := x.toNat_lt; omega
              have e3 : IntKind.i64.wrap ((k : Int) + 1) = (k : Int) + 1 := IntWalk.i64_in _ (by omega)
              have HC := Lib.hid (And.intro hc hbx)
              clear hc hbx
              by_cases h1 : 48 ≤ x.toNat ∧ x.toNat ≤ 57
              · have hn := shift_num x h1
                have g1 : (48 : Int) ≤ (x.toNat : Int) := by omega
                have g2 : (x.toNat : Int) ≤ 57 := by omega
                have HN := Lib.hid hn
                clear hn
                go_wp2_with fail
                obtain ⟨hc, hbx⟩ := HC.out
                refine ⟨⟨k + 1, by omega, by simp, fun i y hi => ?_, hbx.setCell (p := ⟨B, k, none⟩) (Nat.le_refl _) _⟩, by simp [intOf] <;> omega⟩
                refine ⟨?_, by rw [World.frozen?_setCell]; exact (hc i y hi).2⟩
                by_cases e : i = k
                · subst e
                  obtain rfl : x = y := by rw [hx] at hi; exact Option.some.inj hi
                  rw [if_pos (by omega), World.cell?_setCell_same _ _ _ c1, HN.out]
                  congr 2
                  omega
                · rw [World.cell?_setCell_other _ _ _ _ (by intro h; injection h with _ h; omega), (hc i y hi).1]
                  have : (i < k + 1) = (i < k) := by simp; omega
                  simp only [this]
              · have hn : shift x = x := by unfold shift; rw [if_neg h1]
                have HN := Lib.hid hn
                clear hn
                go_wp2_with fail
                all_goals (
                  obtain ⟨hc, hb⟩ := HC.out
                  refine ⟨⟨k + 1, by omega, by simp, fun i y hi => ?_, hb⟩, by simp [intOf] <;> omega⟩
                  refine ⟨?_, (hc i y hi).2⟩
                  rw [(hc i y hi).1]
                  by_cases e : i = k
                  · subst e
                    obtain rfl : x = y := by rw [hx] at hi; exact Option.some.inj hi
                    rw [if_neg (by omega), if_pos (by omega), HN.out]
                  · have : (i < k + 1) = (i < k) := by simp; omega
                    simp only [this])
            · obtain rfl : k = X.length := by omega
              have hcv := run_convert_bytes_back (P := Tryd.prog) wr 22 9 5 ⟨B, 0, none⟩ cap0 (X.map shift) (by kernel_rfl) (by kernel_rfl) (by kernel_rfl) (fun i hi => by
                rw [show ((⟨B, 0, none⟩ : Addr).add i) = ⟨B, i, none⟩ by unfold Addr.add; split <;> simp_all]
                have hi' : i < X.length := by simpa using hi
                rw [(hc i _ (List.getElem?_eq_getElem hi')).1, if_pos hi', List.getElem_map])
              rw [List.length_map] at hcv
              have hbw := H17.out.trans (hbx.mono hz17)
              have hz18 := hbw.size
              have H18 := Lib.hid hbw
              have e4 : IntKind.i64.wrap ((j : Int) + 1) = (j : Int) + 1 := IntWalk.i64_in _ (by omega)
              clear hc hbx hbw
              go_wp2_with fail
              refine (patternL (X.map shift) wr (by simp; omega)).mono ?_
              rintro _ w18 ⟨rfl, b18⟩
              rw [pattern_shift]
              go_wp2_with fail
              refine (patternL X w18 (by omega)).mono ?_
              rintro _ w19 ⟨rfl, b19⟩
              have hbw := H18.out.trans ((b18.trans (b19.mono b18.size)).mono hz18)
              have H19 := Lib.hid (HB.out.trans (hbw.mono hz))
              clear hbw b18 b19 hcv
              go_wp2_with fail
              exact ⟨⟨j + 1, by simp, by omega, H19.out⟩, by simp [intOf] <;> omega⟩
    · obtain rfl : j = 2 := by omega
      have HB := Lib.hid (HL.out.2.trans (hb.mono (by have := HL.out.2.size; omega)))
      go_wp2_with fail
      go_ret
      exact ⟨rfl, HB.out⟩
end Go.Proofs.YthfkkpkfkobnpaaDoor.tw
