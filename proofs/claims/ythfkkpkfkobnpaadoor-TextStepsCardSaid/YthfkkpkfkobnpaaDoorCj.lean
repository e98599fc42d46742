/- TextSteps: the law. -/
import Derived.Test.YthfkkpkfkobnpaaDoorCc
import Derived.Test.YthfkkpkfkobnpaaDoorCd
import Derived.Test.YthfkkpkfkobnpaaDoorCe
import Derived.Test.YthfkkpkfkobnpaaDoorCf
import Derived.Test.YthfkkpkfkobnpaaDoorCg
import Derived.Test.YthfkkpkfkobnpaaDoorCi
import Derived.Test.YthfkkpkfkobnpaaDoorShelf4
import Derived.Shelf.Unicode.ValidAny
import Derived.Laws.BytesArg
set_option linter.unusedVariables false
set_option linter.unusedSimpArgs false
namespace Go.Proofs.YthfkkpkfkobnpaaDoor.ts
open Go.RowKit Go.Proofs.YthfkkpkfkobnpaaDoor.txt Go.Proofs.YthfkkpkfkobnpaaDoor.mill Go.Proofs.YthfkkpkfkobnpaaDoor.tx Go.Proofs.YthfkkpkfkobnpaaDoor.fold Go.Proofs.YthfkkpkfkobnpaaDoor.tw Go.Proofs.YthfkkpkfkobnpaaDoor.bn

abbrev Tabs (w : World) : Prop := Lib.Utf8Tabs 0 1 w

set_option maxRecDepth 100000 in
theorem validStr (X : List UInt8) (w : World) (hs : X.length ≤ 1000000) (hT : Tabs w) :
    Calls Tryd.prog 36 #[.string ⟨X.toArray⟩] w fun e w' => e = .returned (.bool (Lib.validD X)) ∧ Below w.heap.size w w' :=
  Any.utf8_ValidString Tryd.lays196 ⟨X.toArray⟩ w (by simp [ByteArray.size]; omega) hT

set_option maxRecDepth 100000 in
theorem validL (X : List UInt8) (w : World) (hs : X.length ≤ 1000000) (hT : Tabs w) :
    Calls Tryd.prog 11 #[.string ⟨X.toArray⟩] w fun e w' => e = .returned (.bool (Lib.validD X)) ∧ Below w.heap.size w w' := by
  have h := validStr X w hs hT
  generalize Lib.validD X = V at *
  go_enter Tryd.func11, Tryd.ntmps11
  go_wp2_with fail
  refine h.mono ?_
  rintro _ w1 ⟨rfl, hb⟩
  go_wp2
  go_ret
  exact ⟨rfl, hb⟩
set_option maxRecDepth 100000 in
theorem refValidL (X : List UInt8) (w : World) (hs : X.length ≤ 1000000) (hT : Tabs w) :
    Calls Tryd.prog 12 #[.string ⟨X.toArray⟩] w fun e w' => e = .returned (.bool (Lib.validD X)) ∧ Below w.heap.size w w' := by
  have h := validStr X w hs hT
  generalize Lib.validD X = V at *
  go_enter Tryd.func12, Tryd.ntmps12
  go_wp2_with fail
  refine h.mono ?_
  rintro _ w1 ⟨rfl, hb⟩
  go_wp2
  go_ret
  exact ⟨rfl, hb⟩

theorem refFoldL (X : List UInt8) (w : World) (hs : X.length ≤ 1000000) :
    Calls Tryd.prog 17 #[.string ⟨X.toArray⟩] w fun e w' => e = .returned (.string ⟨(X.map low).toArray⟩) ∧ Below w.heap.size w w' :=
  rf.refFold_any ⟨X.toArray⟩ w (by simpa [ByteArray.size] using hs)
theorem refTrimL (X : List UInt8) (w : World) (hs : X.length ≤ 1000000) :
    Calls Tryd.prog 19 #[.string ⟨X.toArray⟩] w fun e w' => e = .returned (.string ⟨(Lib.trimB X 32).toArray⟩) ∧ Below w.heap.size w w' :=
  (rf.refTrim_any X hs w).mono fun _ _ ⟨h1, h2⟩ => ⟨h1, by rw [h2]; exact Below.refl _ _⟩
theorem refTokensL (X : List UInt8) (w : World) (hs : X.length ≤ 1000000) :
    Calls Tryd.prog 22 #[.string ⟨X.toArray⟩] w fun e w' => ∃ v, e = .returned v ∧ w'.ownsRow w.heap.size 9 1 v (tok.tokens (X.map low)).length ((tok.tokens (X.map low)).map encStr) ∧ Below w.heap.size w w' :=
  rf.refTokens_any ⟨X.toArray⟩ w (by simpa [ByteArray.size] using hs)
theorem pointsL (X : List UInt8) (w : World) (hs : X.length ≤ 1000000) :
    Calls Tryd.prog 14 #[.string ⟨X.toArray⟩] w fun e w' => ∃ v, e = .returned v ∧ w'.ownsRow w.heap.size 3 1 v (pts.points ⟨X.toArray⟩).length ((pts.points ⟨X.toArray⟩).map pts.encInt) ∧ Below w.heap.size w w' :=
  pts.points_any ⟨X.toArray⟩ (by simpa [ByteArray.size] using hs) w
theorem refPointsL (X : List UInt8) (w : World) (hs : X.length ≤ 1000000) :
    Calls Tryd.prog 15 #[.string ⟨X.toArray⟩] w fun e w' => ∃ v, e = .returned v ∧ w'.ownsRow w.heap.size 3 1 v (pts.points ⟨X.toArray⟩).length ((pts.points ⟨X.toArray⟩).map pts.encInt) ∧ Below w.heap.size w w' :=
  pts.refPoints_any ⟨X.toArray⟩ (by simpa [ByteArray.size] using hs) w
theorem refPatternL (X : List UInt8) (w : World) (hs : X.length ≤ 1000000) :
    Calls Tryd.prog 24 #[.string ⟨X.toArray⟩] w fun e w' => e = .returned (.string ⟨(pat.pattern ⟨X.toArray⟩).toArray⟩) ∧ Below w.heap.size w w' :=
  rp.refPattern_any ⟨X.toArray⟩ (by simpa [ByteArray.size] using hs) w
theorem pointsL_length (X : List UInt8) (hs : X.length ≤ 1000000) : (pts.points ⟨X.toArray⟩).length ≤ 1000000 :=
  Nat.le_trans (pts.points_length _) (by simpa [ByteArray.size] using hs)
theorem own_below {W V : World} {base n : Nat} {e : TypeId} {v : Value} {ys : List Value} (h : W.ownsRow base e 1 v n ys) (hb : Below W.heap.size W V) : V.ownsRow base e 1 v n ys := by
  obtain ⟨hl, h2⟩ := h
  refine ⟨hl, ?_⟩
  rcases h2 with h2 | ⟨g, cap, cur, hv, hB, hh, r⟩
  · exact .inl h2
  · exact .inr ⟨g, cap, cur, hv, hB, (hb.block g (Array.getElem?_eq_some_iff.1 hh).1).trans hh, r⟩
theorem tokens_few (X : List UInt8) : (tok.tokens (X.map low)).length ≤ X.length := by
  have h := (about X).few
  exact h
theorem lines_few (X : List UInt8) : (lines X).length ≤ X.length := rf.lines_length _ _

/-- the texts over which the law goes -/
def Five (W : World) (B : Nat) : Prop := ∀ j, j < 5 → ∃ x : ByteArray, W.cell? ⟨B, j, none⟩ = some (.string x)

theorem seeds_conv {w : World} {B : Nat} {A : Option Addr} {c : Nat} {l : List Nat} (S : Seeds w B A c l) : ∃ SS : ByteArray, (convert 22 9 (.slice A l.length c)).run Tryd.prog w = .ok (.string SS) w := by
  by_cases h : l.length = 0
  · rw [h]
    refine ⟨ByteArray.empty, ?_⟩
    rw [run_convert_bytes_string w 22 9 5 A 0 c (by kernel_rfl) (by kernel_rfl) (by kernel_rfl)]
    cases A <;> simp [Conv.bytesToString, loadCells]
    all_goals rfl
  · obtain ⟨b, off, rfl, hb, hc⟩ := S.cells (by omega)
    refine ⟨_, run_convert_bytes_arg w 22 5 (by kernel_rfl) (by kernel_rfl) b off l.length c (l.map (fun n : Nat => (n : Int))) (by simp) (fun i hi => ?_) 9 (by kernel_rfl)⟩
    rw [hc i hi]
    simp [List.getD_eq_getElem?_getD, List.getElem?_map, List.getElem?_eq_getElem hi]

/-- what the first loop of TextSteps holds -/
structure Put5 (w2 : World) (g : Nat) (l : List Nat) (n : Nat) (T : ByteArray) (k : Nat) (wr : World) : Prop where
  sz : T.size + 100 * n ≤ 500
  dice : DiceAt wr g l k
  kept : Kept g w2 wr

set_option maxRecDepth 100000 in
set_option maxHeartbeats 4000000 in
theorem steps_any (w : World) (A : Option Addr) (c : Nat) (l : List Nat) (S : Seeds w w.heap.size A c l) (hl : l.length ≤ maxLen) (raw : ByteArray) (hU : sane.Utf w) (h2 : 2 ≤ w.heap.size) (hT : Tabs w) :
    Calls Tryd.prog 3 #[.slice A l.length c, .string raw] w fun e w' => e = .returned (.bool true) ∧ Below w.heap.size w w' := by
  go_enter Tryd.func3, Tryd.ntmps3
  have HS := Lib.hid (And.intro S hT)
  clear S hT
  go_wp2_with fail
  refine (sane_any w hU h2).mono ?_
  rintro _ w1 ⟨rfl, b1⟩
  have s1 := b1.size
  by_cases h300 : 300 < raw.size
  · have HB := Lib.hid b1
    go_wp2
    go_ret
    exact ⟨rfl, HB.out⟩
  go_wp2_with fail
  refine (new_any w1 A c l ((HS.out.1.below b1).more s1) hl).mono ?_
  rintro _ w2 ⟨rfl, D2, b2⟩
  have s2 := b2.size
  have hg := D2.lt
  go_wp2_with fail
  refine (pick_some w2 w1.heap.size 6 _ 0 D2 (by omega) (by omega)).mono ?_
  rintro _ w3 ⟨n0, k3, rfl, hn0, D3, K3⟩
  have HK := Lib.hid (And.intro b1 b2)
  clear b1 b2
  go_wp2_with fail
  go_loopw [6, 7] (fun t nn wr => ∃ (n k : Nat) (T : ByteArray), nn = .int .i64 (n : Int) ∧ t = .string T ∧ Put5 w2 w1.heap.size (l.take 300) n T k wr) (fun _ nn _ => (intOf nn).toNat)
  case atStart => exact ⟨n0, k3, ⟨#[]⟩, rfl, rfl, by simp [ByteArray.size]; omega, D3, K3⟩
  case round =>
    obtain ⟨n, k, T, rfl, rfl, hP⟩ := hrel
    have HP := Lib.hid hP
    have hTs := hP.sz
    have hD := hP.dice
    clear hP
    cases n with
    | zero =>
      rw [show ((0 : Nat) : Int) = 0 from rfl]
      have hwr : Below w.heap.size w wr := (HK.out.1.trans (HK.out.2.mono s1)).trans (HP.out.kept.bel.mono s1)
      obtain ⟨SS, hcv⟩ := seeds_conv (HS.out.1.below hwr)
      have hTw : Tabs wr := Utf8Tabs_below HS.out.2 hwr
      have HW := Lib.hid (And.intro hwr hTw)
      clear hwr hTw hD
      go_wp2_with fail
      obtain ⟨W, hW⟩ : ∃ W, W = wr.alloc (.cells #[.string T, .string raw, .string (T ++ raw), .string SS, .string (raw ++ ⟨#[10]⟩ ++ raw)] 9) := ⟨_, rfl⟩
      have hWw : Below w.heap.size w W := by rw [hW]; exact HW.out.1.alloc HW.out.1.size _
      have hFive : Five W wr.heap.size := by
        intro j hj
        match j, hj with
        | 0, _ => exact ⟨_, by rw [hW]; simp only [World.cell?, heap_alloc_new]; rfl⟩
        | 1, _ => exact ⟨_, by rw [hW]; simp only [World.cell?, heap_alloc_new]; rfl⟩
        | 2, _ => exact ⟨_, by rw [hW]; simp only [World.cell?, heap_alloc_new]; rfl⟩
        | 3, _ => exact ⟨_, by rw [hW]; simp only [World.cell?, heap_alloc_new]; rfl⟩
        | 4, _ => exact ⟨_, by rw [hW]; simp only [World.cell?, heap_alloc_new]; rfl⟩
      have hWs : wr.heap.size < W.heap.size := by rw [hW]; simp
      rw [← hW]
      obtain ⟨B, hB⟩ : ∃ B, B = wr.heap.size := ⟨_, rfl⟩
      rw [← hB] at hFive hWs ⊢
      have HL := Lib.hid (And.intro hFive (And.intro hWw (Utf8Tabs_below HS.out.2 hWw)))
      clear hW hFive hWw hcv HP HW hTs D2 D3 K3 HK hB
      go_loopw [48] (fun i wx => ∃ j : Nat, i = .int .i64 (j : Int) ∧ j ≤ 5 ∧ Below W.heap.size W wx) (fun i _ => 5 - (intOf i).toNat)
      case atStart => exact ⟨0, rfl, by omega, Below.refl _ _⟩
      case round =>
        obtain ⟨j, rfl, hj, hb⟩ := hrel
        by_cases hj5 : j < 5
        · obtain ⟨x, hc⟩ := HL.out.1 j hj5
          have cj := (hb.cell (p := ⟨B, j, none⟩) hWs).trans hc
          have HB := Lib.hid hb
          have hz := hb.size
          have e4 : IntKind.i64.wrap ((j : Int) + 1) = (j : Int) + 1 := IntWalk.i64_in _ (by omega)
          have HT := Lib.hid (Utf8Tabs_below HL.out.2.2 hb)
          clear hb hc
          by_cases hx7 : 700 < x.size
          · go_wp2_with fail
            exact ⟨⟨j + 1, by simp, by omega, HB.out⟩, by simp [intOf] <;> omega⟩
          · obtain ⟨X, hX⟩ : ∃ X : List UInt8, x = ⟨X.toArray⟩ := ⟨x.data.toList, rfl⟩
            have hXl : X.length ≤ 700 := by
              rw [hX] at hx7
              simp [ByteArray.size] at hx7
              exact hx7
            subst hX
            clear hx7
            go_wp2_with fail
            refine (validL X wr (by omega) HT.out).mono ?_
            rintro _ v1 ⟨rfl, c1⟩
            have z1 := c1.size
            obtain ⟨V, hV⟩ : ∃ V, V = Lib.validD X := ⟨_, rfl⟩
            have HT1 := Utf8Tabs_below HT.out c1
            have H1 := Lib.hid (And.intro hV (And.intro c1 HT1))
            rw [← hV]
            clear c1 hV HT1
            go_wp2_with fail
            refine (refValidL X v1 (by omega) H1.out.2.2).mono ?_
            rintro _ v2 ⟨rfl, c2⟩
            rw [← H1.out.1]
            have hbw := H1.out.2.1.trans (c2.mono z1)
            have z2 := hbw.size
            have H2 := Lib.hid hbw
            clear hbw c2
            go_wp2_with fail
            obtain ⟨P, hP⟩ : ∃ P, P = pts.points ⟨X.toArray⟩ := ⟨_, rfl⟩
            have hPl := pointsL_length X (by omega)
            have h3 := pointsL X v2 (by omega)
            have h4 := fun W => refPointsL X W (by omega)
            rw [← hP] at h3 hPl
            simp only [← hP] at h4
            have HP := Lib.hid hP
            clear hP
            refine h3.mono ?_
            rintro _ v3 ⟨u3, rfl, o3, c3⟩
            clear h3
            have H3 := Lib.hid (And.intro o3 (H2.out.trans (c3.mono z2)))
            have z3 := Nat.le_trans z2 c3.size
            clear o3 c3
            go_wp2_with fail
            refine (h4 v3).mono ?_
            rintro _ v4 ⟨u4, rfl, o4, c4⟩
            clear h4
            have o3 := own_below H3.out.1 c4
            have H4 := Lib.hid (H3.out.2.trans (c4.mono z3))
            have z4 := Nat.le_trans z3 c4.size
            go_wp2_with fail
            refine (pts.ints_same u3 u4 P v4 _ _ o3 o4 hPl).mono ?_
            rintro _ v5 ⟨rfl, c5⟩
            have H5 := Lib.hid (H4.out.trans (c5.mono z4))
            have z5 := Nat.le_trans z4 c5.size
            clear o3 o4 c4 c5
            go_wp2_with fail
            refine (foldL X v5 (by omega)).mono ?_
            rintro _ v6 ⟨rfl, c6⟩
            obtain ⟨F, hF⟩ : ∃ F, F = X.map low := ⟨_, rfl⟩
            rw [← hF]
            have HF := Lib.hid hF
            clear hF
            have H6 := Lib.hid (H5.out.trans (c6.mono z5))
            have z6 := Nat.le_trans z5 c6.size
            clear c6
            go_wp2_with fail
            refine (refFoldL X v6 (by omega)).mono ?_
            rintro _ v7 ⟨rfl, c7⟩
            rw [← HF.out]
            have H7 := Lib.hid (H6.out.trans (c7.mono z6))
            have z7 := Nat.le_trans z6 c7.size
            clear c7
            go_wp2_with fail
            refine (trimL X v7 (by omega)).mono ?_
            rintro _ v8 ⟨rfl, c8⟩
            obtain ⟨T, hT⟩ : ∃ T, T = Lib.trimB X 32 := ⟨_, rfl⟩
            rw [← hT]
            have HTr := Lib.hid hT
            clear hT
            have H8 := Lib.hid (H7.out.trans (c8.mono z7))
            have z8 := Nat.le_trans z7 c8.size
            clear c8
            go_wp2_with fail
            refine (refTrimL X v8 (by omega)).mono ?_
            rintro _ v9 ⟨rfl, c9⟩
            rw [← HTr.out]
            have H9 := Lib.hid (H8.out.trans (c9.mono z8))
            have z9 := Nat.le_trans z8 c9.size
            clear c9
            go_wp2_with fail
            refine (tokensL X v9 (by omega)).mono ?_
            rintro _ v10 ⟨u10, rfl, o10, c10⟩
            have H10 := Lib.hid (And.intro o10 (H9.out.trans (c10.mono z9)))
            have z10 := Nat.le_trans z9 c10.size
            clear c10 o10
            go_wp2_with fail
            refine (refTokensL X v10 (by omega)).mono ?_
            rintro _ v11 ⟨u11, rfl, o11, c11⟩
            have S10 := strs_of_owns (owns_below H10.out.1 c11)
            have S11 := strs_of_owns o11
            have H11 := Lib.hid (H10.out.2.trans (c11.mono z10))
            have z11 := Nat.le_trans z10 c11.size
            have hTl := tokens_few X
            clear c11 o11
            go_wp2_with fail
            refine (same_any u10 u11 _ _ v11 S10 S11 (by omega) (by omega)).mono ?_
            rintro _ v12 ⟨rfl, hd12⟩
            rw [decide_eq_true (rfl : tok.tokens (X.map low) = tok.tokens (X.map low))]
            have c12 := hd12.below v11.heap.size
            have H12 := Lib.hid (H11.out.trans (c12.mono z11))
            have z12 := Nat.le_trans z11 c12.size
            clear c12 hd12 S10 S11
            go_wp2_with fail
            refine (patternL X v12 (by omega)).mono ?_
            rintro _ v13 ⟨rfl, c13⟩
            obtain ⟨Q, hQ⟩ : ∃ Q, Q = pat.pattern ⟨X.toArray⟩ := ⟨_, rfl⟩
            rw [← hQ]
            have HQ := Lib.hid hQ
            clear hQ
            have H13 := Lib.hid (H12.out.trans (c13.mono z12))
            have z13 := Nat.le_trans z12 c13.size
            clear c13
            go_wp2_with fail
            refine (refPatternL X v13 (by omega)).mono ?_
            rintro _ v14 ⟨rfl, c14⟩
            rw [← HQ.out]
            have H14 := Lib.hid (H13.out.trans (c14.mono z13))
            have z14 := Nat.le_trans z13 c14.size
            clear c14
            go_wp2_with fail
            refine (lines_any X (by omega) v14).mono ?_
            rintro _ v15 ⟨u15, rfl, o15, c15⟩
            have H15 := Lib.hid (And.intro o15 (H14.out.trans (c15.mono z14)))
            have z15 := Nat.le_trans z14 c15.size
            clear c15 o15
            go_wp2_with fail
            refine (rf.refLines_any X (by omega) v15).mono ?_
            rintro _ v16 ⟨u16, rfl, o16, c16⟩
            have S15 := strs_of_owns (owns_below H15.out.1 c16)
            have S16 := strs_of_owns o16
            have H16 := Lib.hid (H15.out.2.trans (c16.mono z15))
            have z16 := Nat.le_trans z15 c16.size
            have hLl := lines_few X
            clear c16 o16
            go_wp2_with fail
            refine (same_any u15 u16 _ _ v16 S15 S16 (by omega) (by omega)).mono ?_
            rintro _ v17 ⟨rfl, hd17⟩
            rw [decide_eq_true (rfl : lines X = lines X)]
            have H17 := Lib.hid (HB.out.trans ((H16.out.trans ((hd17.below v16.heap.size).mono z16)).mono hz))
            clear hd17 S15 S16
            go_wp2_with fail
            exact ⟨⟨j + 1, by simp, by omega, H17.out⟩, by simp [intOf] <;> omega⟩
        · obtain rfl : j = 5 := by omega
          have HB := Lib.hid (HL.out.2.1.trans (hb.mono HL.out.2.1.size))
          go_wp2_with fail
          go_ret
          exact ⟨rfl, HB.out⟩
    | succ n =>
      have e2 : ((n + 1 : Nat) : Int) = (n : Int) + 1 := by omega
      rw [e2]
      go_wp2_with fail
      refine (pick_some wr w1.heap.size 9 _ k hD (by omega) (by omega)).mono ?_
      rintro _ w4 ⟨kd, k4, rfl, hkd, D4, K4⟩
      go_wp2_with fail
      refine (bn.field_any w4 w1.heap.size _ k4 kd D4 (by omega)).mono ?_
      rintro _ w5 ⟨x, k5, rfl, hxs, _, D5, K5⟩
      have hg5 := D5.lt
      have K45 := Lib.hid (HP.out.kept.trans (K4.trans K5))
      clear K4 K5 hD D4
      go_wp2_with fail
      refine (pick_some _ w1.heap.size 5 _ k5 (dice_alloc D5 _) (by decide) (by decide)).mono ?_
      rintro _ w6 ⟨v6, k6, rfl, hv6, D6, K6⟩
      obtain ⟨s6, hs6, hz6, _⟩ := lit_at false _ (by rfl : (#[.string ⟨#[]⟩, .string ⟨#[32]⟩, .string ⟨#[10]⟩, .string ⟨#[13, 10]⟩, .string ⟨#[13]⟩] : Array Value).toList.all (okV false) = true) v6 hv6
      have c6 := lit_kept K6 hg5 hs6
      have H6 := Lib.hid (And.intro D6 (K45.out.trans (kept_alloc hg5 K6)))
      clear K6 D6 D5 hs6
      have i6 : (v6 : Int) < 5 := by omega
      go_wp2_with fail
      exact ⟨⟨n, k6, T ++ (x ++ s6), rfl, rfl, by rw [ByteArray.size_append, ByteArray.size_append]; omega, H6.out.1, H6.out.2⟩, by simp [intOf] <;> omega⟩
end Go.Proofs.YthfkkpkfkobnpaaDoor.ts
