/- TextLines: the law. -/
import Derived.Test.YthfkkpkfkobnpaaDoorBj
import Derived.Test.YthfkkpkfkobnpaaDoorBx
import Derived.Test.YthfkkpkfkobnpaaDoorBy
set_option linter.unusedVariables false
set_option linter.unusedSimpArgs false
namespace Go.Proofs.YthfkkpkfkobnpaaDoor.tx
open Go.RowKit Go.Proofs.YthfkkpkfkobnpaaDoor.txt Go.Proofs.YthfkkpkfkobnpaaDoor.mill

section
variable {P : Program}
/-- append at a guarded operation of a plain region -/
theorem wpList_append_lies_g {w : World} {ops : Array Oper} {rest : List Oper} {o : Oper} {a : Act} {Q : Exit → Act → World → Prop} (hw : Region.wanted o (yielded ops a.tmps) = true) (s x : Operand) (t : TypeId)
    (ho : o.op = .call { callee := .builtin .append, args := #[s, x], argTypes := #[t, t] })
    (base : Nat) (e : TypeId) (i : TypeInfo) (z : Value) (size bytes : Nat) (ht : P.underlying t = some (.slice e)) (hi : P.info? e = some i) (hz : i.zero = some z)
    (hsize : i.size = size) (hby : i.bytes = bytes) (hzs : z.cells.size = size) (hsz : 0 < size)
    (v : Value) (n : Nat) (xs : List Value) (hs : a.eval s = v) (hown : w.ownsRow base e size v n xs)
    (ad : Addr) (m c : Nat) (news : List Value) (hx : a.eval x = .slice (some ad) m c) (hl : news.length = m * size) (hnews : ∀ j u, news[j]? = some u → w.cell? (ad.add j) = some u) (h1 : ∀ u ∈ news, u.oneCell' = true)
    (hm : 0 < m) (h63 : n + m ≤ maxLen) (hbytes : (n + m) * bytes ≤ 140737488355328) (hbase : base ≤ w.heap.size) (H : Nat) (hH : w.heap.size = H)
    (h : ∀ g cap w', w'.ownsRow base e size (.slice (some ⟨g, 0, none⟩) (n + m) cap) (n + m) (xs ++ news) → w.grownBy w' v.ownBlock → (v.ownBlock = some g ∨ g = H) → g < w'.heap.size → wpList P ops Q rest (a.put o.dst (.slice (some ⟨g, 0, none⟩) (n + m) cap)) w') : wpList P ops Q (o :: rest) a w :=
  wpList_step fun K hK => by
    rw [if_pos hw]
    exact wp_append_lies w s x t ho base e i z size bytes ht hi hz hsize hby hzs hsz v n xs hs hown ad m c news hx hl hnews h1 hm h63 hbytes hbase H hH fun g cap w' h2 h3 h4 h5 => hK _ _ (h g cap w' h2 h3 h4 h5)
end

/-- what the loop of TextLines holds -/
structure Built (crlf : Bool) (w2 : World) (g : Nat) (l : List Nat) (v : Value) (T : ByteArray) (xs : List (List UInt8)) (k : Nat) (wr : World) : Prop where
  own : wr.ownsRow w2.heap.size 9 1 v xs.length (xs.map encStr)
  txt : T.data.toList = joined crlf xs
  pl : ∀ x ∈ xs, PlL x
  sz : T.size ≤ 100 * xs.length
  dice : DiceAt wr g l k
  kept : Kept g w2 wr

theorem joined_snoc (crlf : Bool) (xs : List (List UInt8)) (x : List UInt8) : joined crlf (xs ++ [x]) = joined crlf xs ++ (x ++ lineEnd crlf) := by simp [joined]

theorem data_list (a b : ByteArray) : (a ++ b).data.toList = a.data.toList ++ b.data.toList := by rw [ByteArray.data_append, Array.toList_append]
theorem txt_lf (T : ByteArray) (X : List UInt8) : (T ++ ((⟨X.toArray⟩ : ByteArray) ++ ⟨#[10]⟩)).data.toList = T.data.toList ++ (X ++ lineEnd false) := by
  rw [data_list, data_list]; rfl
theorem txt_crlf (T : ByteArray) (X : List UInt8) : ((T ++ ((⟨X.toArray⟩ : ByteArray) ++ ⟨#[10]⟩)).extract 0 (T.size + X.length) ++ ⟨#[13, 10]⟩).data.toList = T.data.toList ++ (X ++ lineEnd true) := by
  rw [data_list, ByteArray.data_extract, Array.toList_extract, data_list, data_list]
  have hs : T.size = T.data.toList.length := Lib.size_eq T
  have e : List.extract (T.data.toList ++ ((⟨X.toArray⟩ : ByteArray).data.toList ++ (⟨#[10]⟩ : ByteArray).data.toList)) 0 (T.size + X.length) = T.data.toList ++ X := by
    rw [hs]
    show (List.drop 0 (T.data.toList ++ (X ++ [10]))).take (T.data.toList.length + X.length - 0) = _
    rw [List.drop_zero, Nat.sub_zero, ← List.append_assoc, List.take_append_of_le_length (by simp)]
    exact List.take_of_length_le (by simp)
  rw [e, List.append_assoc]
  rfl
theorem owns_below {W V : World} {base n : Nat} {v : Value} {ys : List Value} (h : W.ownsRow base 9 1 v n ys) (hb : Below W.heap.size W V) : V.ownsRow base 9 1 v n ys := by
  obtain ⟨hl, h2⟩ := h
  refine ⟨hl, ?_⟩
  rcases h2 with h2 | ⟨g, cap, cur, hv, hB, hh, r⟩
  · exact .inl h2
  · exact .inr ⟨g, cap, cur, hv, hB, (hb.block g (Array.getElem?_eq_some_iff.1 hh).1).trans hh, r⟩
theorem cat_last (J : List UInt8) : ((⟨J.toArray⟩ : ByteArray) ++ ⟨#[108, 97, 115, 116]⟩) = ⟨(J ++ [108, 97, 115, 116]).toArray⟩ := by
  apply ByteArray.ext
  rw [ByteArray.data_append]
  simp
theorem empty_own (U : World) : (U.alloc (.cells #[] 9)).ownsRow U.heap.size 9 1 (.slice (some ⟨U.heap.size, 0, none⟩) 0 0) 0 ([] : List Value) :=
  ⟨rfl, .inr ⟨U.heap.size, 0, #[], rfl, Nat.le_refl _, heap_alloc_new U _, Nat.le_refl _, by unfold maxLen; omega, rfl, rfl⟩⟩
theorem size_list (a : ByteArray) : a.size = a.data.toList.length := Lib.size_eq a
theorem size_lf (T : ByteArray) (X : List UInt8) : (T ++ ((⟨X.toArray⟩ : ByteArray) ++ ⟨#[10]⟩)).size = T.size + (X.length + 1) := by
  rw [size_list, txt_lf, size_list T]; simp [lineEnd]
theorem size_crlf (T : ByteArray) (X : List UInt8) : ((T ++ ((⟨X.toArray⟩ : ByteArray) ++ ⟨#[10]⟩)).extract 0 (T.size + X.length) ++ ⟨#[13, 10]⟩).size = T.size + (X.length + 2) := by
  rw [size_list, txt_crlf, size_list T]; simp [lineEnd]

set_option maxRecDepth 100000 in
set_option maxHeartbeats 2000000 in
theorem lines_law (w : World) (A : Option Addr) (c : Nat) (l : List Nat) (S : Seeds w w.heap.size A c l) (hl : l.length ≤ maxLen) (crlf : Bool) (hU : sane.Utf w) (h2 : 2 ≤ w.heap.size) :
    Calls Tryd.prog 6 #[.slice A l.length c, .bool crlf] w fun e w' => e = .returned (.bool true) ∧ Below w.heap.size w w' := by
  obtain ⟨i0, hi, hz0, hz1, hz2⟩ := info_parts tok.info_str
  go_enter Tryd.func6, Tryd.ntmps6
  have HS := Lib.hid S
  clear S
  go_wp2_with fail
  refine (sane_any w hU h2).mono ?_
  rintro _ w1 ⟨rfl, b1⟩
  have s1 := b1.size
  go_wp2_with fail
  refine (new_any w1 A c l ((HS.out.below b1).more s1) hl).mono ?_
  rintro _ w2 ⟨rfl, D2, b2⟩
  have s2 := b2.size
  have hg := D2.lt
  go_wp2_with fail
  refine (pick_some w2 w1.heap.size 8 _ 0 D2 (by omega) (by omega)).mono ?_
  rintro _ w3 ⟨n0, k3, rfl, hn0, D3, K3⟩
  go_wp2_with fail
  go_loopw [6, 7, 8] (fun v t nn wr => ∃ (n k : Nat) (xs : List (List UInt8)) (T : ByteArray), nn = .int .i64 (n : Int) ∧ t = .string T ∧ n + xs.length ≤ 7 ∧ Built crlf w2 w1.heap.size (l.take 300) v T xs k wr) (fun _ _ nn _ => (intOf nn).toNat)
  case atStart => exact ⟨n0, k3, [], ⟨#[]⟩, rfl, rfl, by simp; omega, World.ownsRow_nil _ _ _ _, rfl, by simp, by simp [ByteArray.size], D3, K3⟩
  case round =>
    obtain ⟨n, k, xs, T, rfl, rfl, hx, hB⟩ := hrel
    have HB := Lib.hid hB
    have hTs := hB.sz
    have hD := hB.dice
    have hown := hB.own
    clear hB
    cases n with
    | zero =>
      rw [show ((0 : Nat) : Int) = 0 from rfl]
      have hla := lines_joined crlf xs [] HB.out.pl
      rw [List.append_nil, lines_none, List.append_nil] at hla
      obtain ⟨J, hJ⟩ : ∃ J, J = joined crlf xs := ⟨_, rfl⟩
      have hTJ : T = ⟨J.toArray⟩ := by
        cases T with
        | mk d => rw [hJ, ← HB.out.txt]
      have hJl : J.length ≤ 700 := by
        have := Lib.size_eq T
        rw [HB.out.txt, ← hJ] at this
        omega
      rw [← hJ] at hla
      have HJ := Lib.hid hJ
      have HLA := Lib.hid hla
      clear hJ hla hTs
      subst hTJ
      have hli := lines_any J (by omega) wr
      rw [HLA.out] at hli
      have HO := Lib.hid hown
      clear hown
      go_wp2_with fail
      refine hli.mono ?_
      rintro _ w4 ⟨v4, rfl, hown4, b4⟩
      have hk4 := HB.out.kept.bel.size
      have hS4 := strs_of_owns hown4
      have hOw := owns_below HO.out b4
      have hS5 := strs_of_owns hOw
      go_wp2_with fail
      refine (same_any v4 u6 xs xs w4 hS4 hS5 (by omega) (by omega)).mono ?_
      rintro _ w5 ⟨rfl, hd⟩
      rw [decide_eq_true (rfl : xs = xs)]
      have b5 := hd.below w4.heap.size
      have z1 : w.heap.size ≤ wr.heap.size := Nat.le_trans s1 (Nat.le_trans s2 hk4)
      have z2 : w.heap.size ≤ w4.heap.size := Nat.le_trans z1 b4.size
      have hW : Below w.heap.size w w5 := ((b1.trans (b2.mono s1)).trans (HB.out.kept.bel.mono s1)).trans ((b4.mono z1).trans (b5.mono z2))
      have hOw5 := owns_below hOw b5
      have HQ := Lib.hid (And.intro hW hOw5)
      clear hW hOw5 hOw hS4 hS5 hown4 b4 b5 hd HO hli
      obtain ⟨au, cu, rfl, hal⟩ := put_parts HQ.out.2
      have HAL := Lib.hid hal
      clear hal
      by_cases h0 : xs.length = 0
      · go_wp2
        go_ret
        exact ⟨rfl, HQ.out.1⟩
      · have h0' : ((xs.length : Int) == 0) = false := by simpa using h0
        obtain ⟨gx, rfl⟩ : ∃ gx, au = some ⟨gx, 0, none⟩ := by
          rcases HAL.out with ⟨_, he, _⟩ | ⟨gx, he, _⟩
          · rw [he] at h0; exact absurd rfl h0
          · exact ⟨gx, he⟩
        clear HAL
        go_wp2_with fail
        rw [cat_last J]
        have hl2 := lines_joined crlf xs [108, 97, 115, 116] HB.out.pl
        rw [lines_last, ← HJ.out] at hl2
        have hli2 := lines_any (J ++ [108, 97, 115, 116]) (by simp; omega) w5
        rw [hl2] at hli2
        clear hl2
        refine hli2.mono ?_
        rintro _ w6 ⟨v6, rfl, hown6, b6⟩
        have hOw6 := owns_below HQ.out.2 b6
        have HR := Lib.hid (And.intro hown6 (And.intro hOw6 b6))
        clear hown6 hOw6 b6
        have ho1 : ∀ u ∈ xs.map encStr, u.oneCell' = true := fun u hu => by
          obtain ⟨y, _, rfl⟩ := List.mem_map.1 hu
          rfl
        have HO1 := Lib.hid ho1
        clear ho1
        go_wp2_with (first
          | (refine wpList_append_lies_g (by rfl) (.tmp 53) (.tmp 54) 28 (by rfl) w6.heap.size 9 i0 _ 1 16 Tryd.underlying28 hi hz0 hz1 hz2 rfl (by omega) _ _ _ (by rfl) (hown7.alloc _) ⟨w7.heap.size, 0, none⟩ 1 1 [encStr [108, 97, 115, 116]] (by rfl) (by rfl) (World.news_of_block (cs := #[encStr [108, 97, 115, 116]]) (t := 9) (fr := (0, 0)) (heap_alloc_new w7 _)) (by simp [Value.oneCell', encStr]) (by omega) (by unfold maxLen; omega) (by omega) (by have := hgrow7.size; simp at this ⊢; omega) _ rfl ?_; intro g8 cap8 w8 hown8 hgrow8 hat8 hlt8)
          | (refine wpList_append_lies_g (by rfl) (.tmp 51) (.tmp 52) 28 (by rfl) w6.heap.size 9 i0 _ 1 16 Tryd.underlying28 hi hz0 hz1 hz2 rfl (by omega) _ 0 [] (by rfl) (empty_own w6) ⟨gx, 0, none⟩ xs.length cu (xs.map encStr) (by rfl) (by simp) (fun j u hu => (HR.out.2.1.alloc _).cells rfl j u hu) HO1.out (by omega) (by unfold maxLen; omega) (by omega) (by simp) _ rfl ?_; intro g7 cap7 w7 hown7 hgrow7 hat7 hlt7; simp only [Nat.zero_add, List.nil_append] at hown7))
        have s6 := HR.out.2.2.size
        have b67 : Below w6.heap.size w6 w7 := ((Below.refl w6.heap.size w6).alloc (Nat.le_refl _) _).grown hgrow7 (by simp) (fun j e => by simp [Value.ownBlock] at e; omega)
        have b68 : Below w6.heap.size w6 w8 := (b67.alloc b67.size _).grown hgrow8 (by have := b67.size; simp; omega) (fun j e => (hown7.lt j e).1)
        have h8 : w8.ownsRow w6.heap.size 9 1 (.slice (some ⟨g8, 0, none⟩) (xs.length + 1) cap8) (xs ++ [[108, 97, 115, 116]]).length ((xs ++ [[108, 97, 115, 116]]).map encStr) := by
          rw [List.length_append, List.map_append]
          exact hown8
        have hF := HQ.out.1.trans ((HR.out.2.2.mono HQ.out.1.size).trans (b68.mono (by have := HQ.out.1.size; omega)))
        have HF := Lib.hid hF
        have hS6 := strs_of_owns (owns_below HR.out.1 b68)
        have hS8 := strs_of_owns h8
        clear hF b67 b68 h8 hown7 hown8 hgrow7 hgrow8 hat7 hat8 hli2
        refine (same_any v6 _ _ _ w8 hS6 hS8 (by simp; omega) (by simp; omega)).mono ?_
        rintro _ w9 ⟨rfl, hd9⟩
        rw [decide_eq_true (rfl : xs ++ [[108, 97, 115, 116]] = xs ++ [[108, 97, 115, 116]])]
        have HG := Lib.hid (HF.out.trans ((hd9.below w8.heap.size).mono HF.out.size))
        go_wp2
        go_ret
        exact ⟨rfl, HG.out⟩
    | succ n =>
      have e2 : ((n + 1 : Nat) : Int) = (n : Int) + 1 := by omega
      have hT7 : T.size ≤ 700 := by omega
      rw [e2]
      cases crlf
      all_goals
        go_wp2_with fail
        refine (pick_some wr w1.heap.size 6 _ k hD (by omega) (by omega)).mono ?_
        rintro _ w4 ⟨kd, k4, rfl, hkd, D4, K4⟩
        go_wp2_with fail
        refine (bn.field_any w4 w1.heap.size _ k4 kd D4 (by omega)).mono ?_
        rintro _ w5 ⟨x, k5, rfl, hxs, hpl, D5, K5⟩
        have K45 := K4.trans K5
        have hown5 := K45.own hg hown
        have hpl' := hpl (by omega)
        have HK := Lib.hid (And.intro hpl' (And.intro (HB.out.kept.trans K45) D5))
        have hs5 : w2.heap.size ≤ w5.heap.size := Nat.le_trans HB.out.kept.bel.size K45.bel.size
        obtain ⟨X, hX⟩ : ∃ X, X = x.data.toList := ⟨_, rfl⟩
        have hxX : x = ⟨X.toArray⟩ := by rw [hX]
        have HX := Lib.hid hX
        clear K4 K5 K45 D4 D5 hD hown hpl hpl' hX
        have hX70 : X.length ≤ 70 := by rw [hxX] at hxs; simpa [ByteArray.size] using hxs
        subst hxX
        go_wp2_with (at_builtin; refine wpList_append_lies _ (by rfl) _ _ 28 (by rfl) w2.heap.size 9 i0 _ 1 16 Tryd.underlying28 hi hz0 hz1 hz2 rfl (by omega) _ xs.length (xs.map encStr) (by rfl) (World.ownsRow.alloc hown5 _) ⟨w5.heap.size, 0, none⟩ 1 1 [encStr X] (by rfl) (by rfl) (World.news_of_block (cs := #[encStr X]) (t := 9) (fr := (0, 0)) (heap_alloc_new w5 _)) (by simp [Value.oneCell', encStr]) (by omega) (by unfold maxLen; omega) (by omega) (by simp; omega) (w5.heap.size + 1) (by simp) ?_; intro g7 cap7 w7 hown7 hgrow7 hat7 hlt7)
        have hb57 : Below w2.heap.size w5 w7 := ((Below.refl w2.heap.size w5).alloc hs5 _).grown hgrow7 (by simp; omega) (fun j e => (hown5.lt j e).1)
        have D7 := HK.out.2.2.high hb57 hg
        have K7 := HK.out.2.1.then_below hb57 (by omega)
        have HF := Lib.hid (And.intro D7 (And.intro K7 hown7))
        clear hown7 hgrow7 hat7 hb57 D7 K7 hown5
        go_roundw
        case rel =>
          refine ⟨n, k5, xs ++ [X], _, rfl, rfl, by simp; omega, ⟨by rw [List.length_append, List.map_append, List.map_cons, List.map_nil]; exact HF.out.2.2, ?_, fun y hy => ?_, ?_, HF.out.1, HF.out.2.1⟩⟩
          · rw [joined_snoc, ← HB.out.txt]
            first | exact txt_lf T X | exact txt_crlf T X
          · rcases List.mem_append.1 hy with h | h
            · exact HB.out.pl y h
            · rw [List.mem_singleton.1 h]; exact HK.out.1
          · rw [List.length_append]
            first | (rw [size_lf]; simp; omega) | (rw [size_crlf]; simp; omega)
        case measure => simp [intOf] <;> omega
end Go.Proofs.YthfkkpkfkobnpaaDoor.tx
