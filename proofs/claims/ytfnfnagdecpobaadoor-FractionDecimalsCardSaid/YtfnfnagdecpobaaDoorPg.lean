/- The reference: Decimal. -/
import Derived.Test.YtfnfnagdecpobaaDoorPf
set_option linter.unusedSimpArgs false
namespace Go.Proofs.YtfnfnagdecpobaaDoor.pg
open Go.RowKit Go.Proofs.YtfnfnagdecpobaaDoor.fm Go.Proofs.YtfnfnagdecpobaaDoor.mem Go.Proofs.YtfnfnagdecpobaaDoor.fu Go.Proofs.YtfnfnagdecpobaaDoor.fv Go.Proofs.YtfnfnagdecpobaaDoor.fw Go.Proofs.YtfnfnagdecpobaaDoor.fy Go.Proofs.YtfnfnagdecpobaaDoor.fz Go.Proofs.YtfnfnagdecpobaaDoor.gb Go.Proofs.YtfnfnagdecpobaaDoor.gc Go.Proofs.YtfnfnagdecpobaaDoor.ge Go.Proofs.YtfnfnagdecpobaaDoor.gg Go.Proofs.YtfnfnagdecpobaaDoor.he Go.Proofs.YtfnfnagdecpobaaDoor.jh Go.Proofs.YtfnfnagdecpobaaDoor.pb Go.Proofs.YtfnfnagdecpobaaDoor.pd Go.Proofs.YtfnfnagdecpobaaDoor.pe Go.Proofs.YtfnfnagdecpobaaDoor.pf

theorem DSt.bytes {w W W' : World} {g gb gc : Nat} {l : List UInt8} {N D : Int} {A A' : Option Addr} {c c' : Nat} (S : DSt w W g gc [] N D A c A' c') (h : Below W.heap.size W W') (h1 : W.heap.size ≤ gb) (h2 : gb < W'.heap.size)
    (hc : ∀ j x, l[j]? = some x → W'.cell? ⟨gb, j, none⟩ = some (.int .u8 (x.toNat : Int))) : DSt w W' g gb l N D A c A' c' := by
  have S' := S.after h
  have hi := S.hi
  exact ⟨S'.F, S'.lo, S'.hi, S'.n0, S'.n1, S'.d0, S'.d1, S'.fn, S'.fd, S'.RN, S'.RD, .inr ⟨by omega, h2⟩, hc⟩

theorem dec_no {s : ByteArray} (h : NotDec s) : DecIs s false 0 0 := by
  by_cases hs : 26 < s.size
  · exact .inl ⟨hs, rfl, rfl, rfl⟩
  · rcases h with h | ⟨f, b, p, h1, h2⟩
    · exact absurd h hs
    · exact .inr ⟨by omega, f, b, p, h1, h2.symm, fun _ => ⟨rfl, rfl⟩, fun h => absurd h (by decide)⟩

theorem num_all {f : ByteArray} {m : Nat} (h : isNum f m = true) : f.data.toList.all dig = true ∧ f.size ≤ m := by
  unfold isNum at h
  simp only [Bool.and_eq_true, decide_eq_true_eq] at h
  exact ⟨h.2, h.1.2⟩

/-- what a decimal's parts give -/
theorem dec_yes {s f b : ByteArray} {n : Bool} (h : PartsIs s n f b true) : s.size ≤ 26 ∧ n = headIs s 45 ∧ (f.data.toList ++ b.data.toList).all dig = true ∧ f.size ≤ 15 ∧ b.size ≤ 9 ∧
    ∀ (Z : Int) (D V Q : Nat), V = dval (f.data.toList ++ b.data.toList) → Q = 10 ^ b.size → Z = (sgnd n V).tdiv (Nat.gcd V Q : Nat) → D = Q / Nat.gcd V Q → DecIs s true Z D := by
  rcases h with ⟨h, _⟩ | ⟨_, hn, hs, hf, hb⟩
  · exact absurd h (by decide)
  · obtain ⟨hf1, hf2⟩ := num_all hf
    have hlen : b.data.toList.length = b.size := data_len b
    rcases hb with ⟨rfl, hc⟩ | ⟨hb, hc⟩
    · refine ⟨hs, hn, ?_, hf2, by decide, ?_⟩
      · rw [List.all_append, hf1]; rfl
      · intro Z D V Q hV hQ hZ hD
        refine .inr ⟨hs, f, _, false, hc, by rw [hf]; rfl, fun h => absurd h (by decide), fun _ => ?_⟩
        have e : dval (f.data.toList ++ ByteArray.empty.data.toList) = dval f.data.toList * 10 ^ ByteArray.empty.size + dval ByteArray.empty.data.toList := dval_append _ _
        rw [← e, ← hV, ← hQ, ← hn]
        exact ⟨hZ, hD⟩
    · obtain ⟨hb1, hb2⟩ := num_all hb
      refine ⟨hs, hn, ?_, hf2, hb2, ?_⟩
      · rw [List.all_append, hf1, hb1]; rfl
      · intro Z D V Q hV hQ hZ hD
        refine .inr ⟨hs, f, b, true, hc, by rw [hf, hb]; rfl, fun h => absurd h (by decide), fun _ => ?_⟩
        have e : dval (f.data.toList ++ b.data.toList) = dval f.data.toList * 10 ^ b.size + dval b.data.toList := by rw [dval_append, hlen]
        rw [← e, ← hV, ← hQ, ← hn]
        exact ⟨hZ, hD⟩

/-- the text is no longer needed -/
theorem DSt.bare {w W : World} {g gb : Nat} {l : List UInt8} {N D : Int} {A A' : Option Addr} {c c' : Nat} (S : DSt w W g gb l N D A c A' c') : DSt w W g gb [] N D A c A' c' :=
  ⟨S.F, S.lo, S.hi, S.n0, S.n1, S.d0, S.d1, S.fn, S.fd, S.RN, S.RD, .inl rfl, fun j x hj => absurd hj (by simp)⟩

theorem cell_iter {W : World} {it : Nat} {s : ByteArray} {k : Nat} (h : W.heap[it]? = some (.stringIter s k)) {p : Addr} (hp : p.block = it) : W.cell? p = none := by
  unfold World.cell?
  rw [hp, h]

theorem rd_iter {W : World} {it : Nat} {s : ByteArray} {k k' : Nat} {A : Option Addr} {c : Nat} {m : List Nat} (h : W.heap[it]? = some (.stringIter s k)) (R : Rd W W.heap.size A c m) :
    Rd (W.iterAt it s k') (W.iterAt it s k').heap.size A c m := by
  rw [Lib.iterAt_size]
  refine ⟨R.ok, R.fit, fun hn => ?_⟩
  obtain ⟨b, off, e, hb, hc⟩ := R.cells hn
  refine ⟨b, off, e, hb, fun j hj => ?_⟩
  have hne : b ≠ it := fun e => by
    have := hc j hj
    rw [cell_iter h (p := ⟨b, off + j, none⟩) e] at this
    cases this
  exact (World.cell?_of_block (Lib.iterAt_other W it b s k' hne)).trans (hc j hj)

/-- an iterator that has moved on -/
theorem DSt.iter {w W : World} {g gb it k k' : Nat} {s : ByteArray} {N D : Int} {A A' : Option Addr} {c c' : Nat} (S : DSt w W g gb [] N D A c A' c') (h : W.heap[it]? = some (.stringIter s k)) (hit : g + 1 < it) :
    DSt w (W.iterAt it s k') g gb [] N D A c A' c' := by
  have lo := S.lo
  have hb : Below it W (W.iterAt it s k') := Lib.below_iterAt (Below.refl _ _) (Nat.le_refl _) _ _
  have hw : w.heap.size < it := by omega
  refine ⟨⟨S.F.bel.trans (hb.mono (by omega)), S.F.lo, by rw [Lib.iterAt_size]; exact S.F.size, (hb.cell hw).trans S.F.r0, (hb.cell hw).trans S.F.r1, (hb.cell hw).trans S.F.r2, (hb.cell hw).trans S.F.r3, fun k => (below_frozen hb hw).trans (S.F.fr k)⟩, lo, by rw [Lib.iterAt_size]; exact S.hi,
    (hb.cell (p := ⟨g, 0, none⟩) (by show g < it; omega)).trans S.n0, (hb.cell (p := ⟨g, 1, none⟩) (by show g < it; omega)).trans S.n1, (hb.cell (p := ⟨g + 1, 0, none⟩) hit).trans S.d0, (hb.cell (p := ⟨g + 1, 1, none⟩) hit).trans S.d1,
    fun k => (below_frozen hb (p := ⟨g, k, none⟩) (by show g < it; omega)).trans (S.fn k), fun k => (below_frozen hb (p := ⟨g + 1, k, none⟩) hit).trans (S.fd k), rd_iter h S.RN, rd_iter h S.RD, .inl rfl, fun j x hj => absurd hj (by simp)⟩

/-- .. and the iterator behind two stores into a box -/
theorem iter_put {W : World} {it k h : Nat} {s : ByteArray} {v0 v1 : Value} (hi : W.heap[it]? = some (.stringIter s k)) (hn : it ≠ h) : ((W.setCell ⟨h, 0, none⟩ v0).setCell ⟨h, 1, none⟩ v1).heap[it]? = some (.stringIter s k) := by
  rw [Below.heap_setCell _ _ _ _ hn, Below.heap_setCell _ _ _ _ hn]
  exact hi

/-- .. all at once -/
def DIt (w W : World) (g gb it j : Nat) (b : ByteArray) (N D : Int) (A : Option Addr) (c : Nat) (A' : Option Addr) (c' : Nat) : Prop := DSt w W g gb [] N D A c A' c' ∧ W.heap[it]? = some (.stringIter b j) ∧ g + 1 < it

theorem DIt.after {w W W' : World} {g gb it j c c' : Nat} {b : ByteArray} {N D : Int} {A A' : Option Addr} (S : DIt w W g gb it j b N D A c A' c') (h : Below W.heap.size W W') : DIt w W' g gb it j b N D A c A' c' :=
  ⟨S.1.after h, (h.block it (Array.getElem?_eq_some_iff.1 S.2.1).1).trans S.2.1, S.2.2⟩
theorem DIt.next {w W : World} {g gb it j c c' : Nat} {b : ByteArray} {N D : Int} {A A' : Option Addr} (S : DIt w W g gb it j b N D A c A' c') (k : Nat) : DIt w (W.iterAt it b k) g gb it k b N D A c A' c' :=
  ⟨DSt.iter S.1 S.2.1 S.2.2, Lib.iterAt_heap W it b j k S.2.1, S.2.2⟩
theorem DIt.putD {w W : World} {g gb it j c c' : Nat} {b : ByteArray} {N D : Int} {A A' : Option Addr} (S : DIt w W g gb it j b N D A c A' c') {Z : Int} {A2 : Option Addr} {c2 : Nat} (R : Rd W W.heap.size A2 c2 (digs Z.natAbs)) :
    DIt w ((W.setCell ⟨g + 1, 0, none⟩ (.bool (decide (Z < 0)))).setCell ⟨g + 1, 1, none⟩ (.slice A2 (digs Z.natAbs).length c2)) g gb it j b N Z A c A2 c2 :=
  ⟨S.1.putD R, iter_put S.2.1 (by have := S.2.2; omega), S.2.2⟩

theorem pow_len {k : Nat} (h : k ≤ 10) : (digs (10 ^ k)).length ≤ 3 := len_small (Nat.lt_of_le_of_lt (Nat.pow_le_pow_right (by decide) h) (by decide))

theorem turned_pos {x : Int} {y : Nat} : turned x (y : Int) = x := by
  unfold turned
  rw [decide_eq_false (show ¬ (y : Int) < 0 by omega)]
  rw [Bool.bne_false]
  exact sgnd_self x

theorem sgnd_nabs (n : Bool) (m : Nat) : (sgnd n m).natAbs = m := by unfold sgnd; cases n <;> simp
theorem sgnd_neg' (m : Nat) : -((m : Nat) : Int) = sgnd true m := by unfold sgnd; simp
theorem sgnd_pos' (m : Nat) : ((m : Nat) : Int) = sgnd false m := by unfold sgnd; simp

set_option maxRecDepth 100000 in
set_option maxHeartbeats 4000000 in
theorem rdecimal_any (w : World) (s : ByteArray) (hs : s.size ≤ 1000000) :
    Calls Tryd.prog 34 #[.string s] w (Dec s w) := by
  have hcv := fun w s => run_bytes_of_string (P := Tryd.prog) w 9 22 5 s Tryd.underlying9 Tryd.underlying22 Tryd.underlying5
  go_enter Tryd.func34, Tryd.ntmps34
  have HF := Lib.hid (fbox_made w)
  obtain ⟨W, hW⟩ : ∃ W, W = (w.alloc (.cells #[.bool false, .slice none 0 0, .bool false, .slice none 0 0] 50)) := ⟨_, rfl⟩
  rw [← hW] at HF
  go_wp2_with fail
  rw [← hW]
  clear hW
  refine (parts_any W s hs).mono ?_
  rintro _ W1 ⟨n, f, b, o, rfl, HP, j1, hj1⟩
  have F1 := HF.out.after (show Below W.heap.size W W1 by rw [hj1]; exact ⟨rfl, rfl, rfl, Nat.le_refl _, fun _ _ => rfl⟩)
  have HF1 := Lib.hid F1
  clear hj1 HF
  cases o with
  | false =>
    have HD := Lib.hid (dec_no (s := s) (by
      rcases HP.out with ⟨_, _, _, _, h⟩ | ⟨h, _⟩
      · exact h
      · exact absurd h (by decide)))
    have r0 := F1.r0
    have r1 := F1.r1
    have r2 := F1.r2
    have r3 := F1.r3
    have f0 := F1.fr 0
    have f1 := F1.fr 1
    have f2 := F1.fr 2
    have f3 := F1.fr 3
    obtain ⟨e, d0, d1, d2, d3⟩ := F1.filled (z := 0) (d := 0) (A := none) (c := 0) (A' := none) (c' := 0) (Rd.nil _ _ _ _) (Rd.nil _ _ _ _) _ rfl
    have HE := Lib.hid (And.intro e (And.intro d0 (And.intro d1 (And.intro d2 d3))))
    clear e d0 d1 d2 d3 F1
    go_wp2
    (try simp only [Exit.inBlock, Exit.then])
    refine bodyPost_ret (results_dec rfl _ _ w.heap.size rfl HE.out.2.1 HE.out.2.2.1 HE.out.2.2.2.1 HE.out.2.2.2.2) rfl ?_
    exact ⟨_, false, 0, 0, rfl, HE.out.1.1, HE.out.1.2, HD⟩
  | true =>
    have HY := Lib.hid (dec_yes HP.out)
    have hfs : f.size ≤ 15 := HY.out.2.2.2.1
    have hbs : b.size ≤ 9 := HY.out.2.2.2.2.1
    clear F1 HP
    go_wp2_with fail
    refine (rfromInt_any W1 1 (by decide) (by decide)).mono ?_
    rintro _ W2 ⟨v2, rfl, ⟨A2, c2, rfl, R2⟩, hb2⟩
    have hS := dst_new (HF1.out.after hb2) 1 A2 c2 0 R2
    clear R2 hb2
    simp only [show decide ((1 : Int) < 0) = false from rfl, show (1 : Int).natAbs = 1 from rfl] at hS
    go_upto_region 5 with fail
    obtain ⟨W3, hW3⟩ : ∃ W3, W3 = ((W2.alloc (.cells #[.bool false, .slice none 0 0] 28)).alloc (.cells #[.bool false, .slice A2 (digs 1).length c2] 28)) := ⟨_, rfl⟩
    rw [← hW3] at hS ⊢
    clear hW3
    generalize W2.heap.size = g at *
    have HS3 := Lib.hid hS
    clear hS
    go_upto_region 6 with fail
    obtain ⟨l, hl⟩ : ∃ l, l = f.data.toList ++ b.data.toList := ⟨_, rfl⟩
    have hll : l.length = f.size + b.size := by rw [hl, List.length_append, data_len, data_len]
    have hla : l.all dig = true := by rw [hl]; exact HY.out.2.2.1
    have HLL := Lib.hid (And.intro hl hla)
    have hlz : (l.length : Int) = (f.size : Int) + (b.size : Int) := by omega
    generalize grownCap W3 (f.size + b.size) 0 5 = cap at *
    obtain ⟨W4, hW4⟩ : ∃ W4, W4 = (W3.alloc (.cells (bytesRow (f ++ b) cap) 5 ((bytesRow (f ++ b) cap).size, (bytesRow (f ++ b) cap).size + 1))).drew := ⟨_, rfl⟩
    have hD4 : DSt w W4 g W3.heap.size l 0 1 none 0 A2 c2 := by
      rw [hW4]
      refine DSt.bytes HS3.out (((Below.refl _ _).alloc (Nat.le_refl _) _).drew) (Nat.le_refl _) (by simp) (fun j x hj => ?_)
      have hg := heap_alloc_new W3 (.cells (bytesRow (f ++ b) cap) 5 ((bytesRow (f ++ b) cap).size, (bytesRow (f ++ b) cap).size + 1))
      show (W3.alloc (.cells (bytesRow (f ++ b) cap) 5 ((bytesRow (f ++ b) cap).size, (bytesRow (f ++ b) cap).size + 1))).cell? ⟨W3.heap.size, j, none⟩ = _
      rw [cell_of_row _ _ j _ _ _ hg]
      have he : (f ++ b).data.toList = l := by rw [hl, ByteArray.data_append, Array.toList_append]
      have hjl : j < l.length := (List.getElem?_eq_some_iff.1 hj).1
      have hjs : j < (f ++ b).data.size := by rw [← Array.length_toList, he]; exact hjl
      rw [bytesRow_at _ _ j hjs]
      have hx2 : (f ++ b).data[j] = x := by
        have h1 : (f ++ b).data.toList[j]? = some x := by rw [he]; exact hj
        rw [List.getElem?_eq_getElem (by rw [Array.length_toList]; exact hjs)] at h1
        rw [← Array.getElem_toList]
        exact Option.some.inj h1
      rw [hx2]
    rw [← hW4]
    clear hW4 hl hla HS3 hcv
    generalize W3.heap.size = gb at *
    go_loopw [29] (fun i wr => ∃ (k : Nat) (A : Option Addr) (c : Nat), k ≤ l.length ∧ i = .int .i64 k ∧ DSt w wr g gb l (dval (l.take k) : Nat) 1 A c A2 c2) (fun i _ => l.length - (intOf i).toNat)
    case atStart => exact ⟨0, none, 0, Nat.zero_le _, rfl, hD4⟩
    case round =>
      clear hD4
      obtain ⟨k, A, c, hk, rfl, hD⟩ := hrel
      have H0 := Lib.hid hD
      by_cases hkl : k < l.length
      · obtain ⟨x, hx⟩ : ∃ x, l[k]? = some x := ⟨_, List.getElem?_eq_getElem hkl⟩
        have hxd : dig x = true := List.all_eq_true.1 HLL.out.2 x (List.mem_of_getElem? hx)
        have hx1 : 48 ≤ x.toNat := by unfold dig at hxd; simp only [Bool.and_eq_true, decide_eq_true_eq] at hxd; exact hxd.1
        have hx2 : x.toNat ≤ 57 := by unfold dig at hxd; simp only [Bool.and_eq_true, decide_eq_true_eq] at hxd; exact hxd.2
        have c1 := hD.by' k x hx
        have hkz : (k : Int) < (f.size : Int) + (b.size : Int) := by omega
        have hkz2 : k < f.size + b.size := by omega
        have htk : (l.take (k + 1)) = l.take k ++ [x] := by rw [List.take_add_one, hx]; rfl
        have hall : ∀ j, (l.take j).all dig = true := fun j => List.all_eq_true.2 (fun y hy => List.all_eq_true.1 HLL.out.2 y (List.mem_of_mem_take hy))
        have hsm : ∀ j, (digs (dval (l.take j))).length ≤ 3 := fun j => len_small (Nat.lt_of_lt_of_le (dval_small (hall j) (by rw [List.length_take]; omega)) (by decide))
        obtain ⟨V, hV⟩ : ∃ V : Int, V = (dval (l.take k) : Nat) := ⟨_, rfl⟩
        obtain ⟨V2, hV2⟩ : ∃ V2 : Int, V2 = (dval (l.take (k + 1)) : Nat) := ⟨_, rfl⟩
        obtain ⟨d, hd⟩ : ∃ d : Nat, d = x.toNat - 48 := ⟨_, rfl⟩
        have hst : V * 10 + (d : Int) = V2 := by rw [hV, hV2, htk, dval_snoc]; omega
        have i1 : IntKind.u8.wrap ((x.toNat : Int) - 48) = (d : Int) := by rw [IntWalk.u8_in _ (by omega)]; omega
        have i2 : IntKind.i64.wrap (d : Int) = (d : Int) := IntWalk.i64_in _ (by omega)
        have hd9 : d ≤ 9 := by omega
        have hl1 : (digs V.natAbs).length ≤ 10 := by rw [hV, Int.natAbs_natCast]; exact Nat.le_trans (hsm k) (by decide)
        have hl2 : (digs (V * 10).natAbs).length ≤ 10 := by
          have h1 := len_mul 3 1 (x := V) (y := 10) (by rw [hV, Int.natAbs_natCast]; exact hsm k) (by decide)
          exact Nat.le_trans h1 (by decide)
        have hl3 : (digs (d : Int).natAbs).length ≤ 10 := Nat.le_trans (int_len (by omega) (by omega)) (by decide)
        rw [← hV] at hD H0
        have HV := Lib.hid (And.intro hV2 (And.intro hst (And.intro hl1 (And.intro hl2 hl3))))
        have n0 := hD.n0
        have n1 := hD.n1
        have H0d := Lib.hid hD.draw
        have HK := Lib.hid (And.intro hk (And.intro hkl (And.intro hll hlz)))
        clear hD hV hV2 hst hl1 hl2 hl3 htk hall hsm hxd hx hk hkl hll hlz hkz2 hd hx1 hx2
        go_upto_region 8 with fail
        have n0d := H0d.out.n0
        have n1d := H0d.out.n1
        go_region_with (first
          | (have h3 := H3; go_at_call 52; refine (rplus_any 10 _ _ _ (V * 10) (d : Int) H3.out.2.1 H3.out.2.2 HV.out.2.2.2.1 HV.out.2.2.2.2 (by decide)).mono ?_; rintro _ W8 ⟨v8, rfl, hI8, hb8⟩
             rw [HV.out.2.1] at hI8
             obtain ⟨A8, c8, rfl, R8⟩ := hI8
             have h4 := H3.out.1.after hb8
             have H4 := Lib.hid h4
             have m0 := h4.n0
             have m1 := h4.n1
             have f0 := h4.fn 0
             have f1 := h4.fn 1
             clear h4 hb8 h3)
          | (have h2 := H2; go_at_call 12; refine (rfromInt_any _ (d : Int) (by omega) (by omega)).mono ?_; rintro _ W7 ⟨v7, rfl, hI7, hb7⟩
             have H3 := Lib.hid (And.intro (H2.out.1.after hb7) (And.intro (H2.out.2.below hb7) hI7))
             clear hb7 hI7 h2)
          | (have h1 := H1; go_at_call 57; refine (rtimes_any 10 _ _ _ V 10 H1.out.1.big H1.out.2 HV.out.2.2.1 (by decide) (by decide)).mono ?_; rintro _ W6 ⟨v6, rfl, hI6, hb6⟩
             have H2 := Lib.hid (And.intro (H1.out.1.after hb6) hI6)
             clear hb6 hI6 h1)
          | (go_at_call 12; refine (rfromInt_any _ 10 (by decide) (by decide)).mono ?_; rintro _ W5 ⟨v5, rfl, hI5, hb5⟩
             have H1 := Lib.hid (And.intro (H0d.out.after hb5) hI5)
             have p0 := H1.out.1.n0
             have p1 := H1.out.1.n1
             clear hb5 hI5))
        all_goals (have hend := DSt.putN H4.out R8)
        all_goals (obtain ⟨w9, hw9⟩ : ∃ w9, w9 = ((W8.setCell ⟨g, 0, none⟩ (.bool (decide (V2 < 0)))).setCell ⟨g, 1, none⟩ (.slice A8 (digs V2.natAbs).length c8)) := ⟨_, rfl⟩)
        all_goals (rw [← hw9] at hend ⊢; clear hw9; rw [HV.out.1] at hend; have HE := Lib.hid hend; clear hend)
        all_goals (have hz9 : k + 1 ≤ l.length := by have := HK.out.2.1; omega)
        all_goals (have hz8 : l.length - (k + 1) < l.length - k := by omega)
        all_goals (go_wp2_with fail)
        all_goals (exact ⟨⟨k + 1, A8, c8, hz9, by go_num, HE.out⟩, by simp [intOf]; omega⟩)
      · obtain rfl : k = l.length := by omega
        rw [List.take_length] at hD
        obtain ⟨V, hV⟩ : ∃ V : Nat, V = dval l := ⟨_, rfl⟩
        rw [← hV] at hD
        have HV := Lib.hid (And.intro hV hll)
        have HS := Lib.hid (DSt.bare hD)
        have hkz : ¬ (l.length : Int) < (f.size : Int) + (b.size : Int) := by omega
        have hkz2 : ¬ l.length < f.size + b.size := by omega
        clear hD H0 hV hll hlz hk hkl
        go_upto_region 11 with fail
        have hb1 : Below wr.heap.size wr (wr.iter b 0) := (Below.refl _ _).alloc (Nat.le_refl _) _
        have hD1 := HS.out.after hb1
        have hit : (wr.iter b 0).heap[wr.heap.size]? = some (.stringIter b 0) := World.iter_heap wr b 0
        have hgt := HS.out.hi
        generalize wr.heap.size = it at *
        obtain ⟨V1, hV1⟩ : ∃ V1, V1 = wr.iter b 0 := ⟨_, rfl⟩
        rw [← hV1] at hD1 hit ⊢
        clear hV1 hb1 HS hkz hkz2
        have HSS := Lib.hid (show DIt w V1 g gb it 0 b V ((10 ^ 0 : Nat) : Int) A c A2 c2 from ⟨hD1, hit, hgt⟩)
        clear hD1 hit hgt
        go_loopg [44] (b.size) (fun q _ wx => ∃ (j : Nat) (A : Option Addr) (c : Nat) (A' : Option Addr) (c' : Nat), j + q = b.size ∧ Hid (DIt w wx g gb it j b V ((10 ^ j : Nat) : Int) A c A' c'))
        case atStart => exact ⟨0, A, c, A2, c2, by omega, HSS⟩
        case round =>
          clear HSS
          obtain ⟨j, A, c, A', c', hjq, H0⟩ := hrel
          by_cases hj : j < b.size
          · have ha : (b[j]'hj).toNat < 128 := by
              have h1 := HLL.out.2
              rw [HLL.out.1, List.all_append, Bool.and_eq_true] at h1
              have h2 : dig (b[j]'hj) = true := List.all_eq_true.1 h1.2 _ (List.mem_of_getElem? (Lib.data_getElem? b j hj))
              unfold dig at h2
              simp only [Bool.and_eq_true, decide_eq_true_eq] at h2
              omega
            have hnx := fun ty => Lib.run_next_ascii_at (P := Tryd.prog) wr it b j ty H0.out.2.1 hj ha
            have h5 := H0.out.next (j + 1)
            obtain ⟨w5, hw5⟩ : ∃ w5, w5 = wr.iterAt it b (j + 1) := ⟨_, rfl⟩
            simp only [← hw5] at hnx
            rw [← hw5] at h5
            clear hw5 ha H0
            obtain ⟨y, hy⟩ : ∃ y : Int, y = (b[j]'hj).toNat := ⟨_, rfl⟩
            simp only [← hy] at hnx
            obtain ⟨E, hE⟩ : ∃ E : Int, E = ((10 ^ j : Nat) : Int) := ⟨_, rfl⟩
            have hl1 : (digs E.natAbs).length ≤ 10 := by rw [hE, Int.natAbs_natCast]; exact Nat.le_trans (pow_len (by omega)) (by decide)
            have hE2 : E * 10 = ((10 ^ (j + 1) : Nat) : Int) := by rw [hE, Nat.pow_succ, Int.natCast_mul]; rfl
            rw [← hE] at h5
            have H5 := Lib.hid h5
            have HE := Lib.hid (And.intro hE2 hl1)
            have HJ := Lib.hid (And.intro hjq hj)
            clear h5 hE hl1 hE2 hy hjq hj
            go_upto_region 12 with fail
            clear hnx
            have n0 := H5.out.1.d0
            have n1 := H5.out.1.d1
            have H5d := Lib.hid (H5.out.after (Below.refl _ _).drew)
            have n0d := H5d.out.1.d0
            have n1d := H5d.out.1.d1
            go_region_with (first
              | (have h1 := H1; go_at_call 57; refine (rtimes_any 10 _ _ _ E 10 H1.out.1.1.den H1.out.2 HE.out.2 (by decide) (by decide)).mono ?_; rintro _ W6 ⟨v6, rfl, ⟨A6, c6, rfl, R6⟩, hb6⟩
                 have h2 := H1.out.1.after hb6
                 have H2 := Lib.hid h2
                 have m0 := h2.1.d0
                 have m1 := h2.1.d1
                 have f0 := h2.1.fd 0
                 have f1 := h2.1.fd 1
                 clear h2 hb6 h1)
              | (go_at_call 12; refine (rfromInt_any _ 10 (by decide) (by decide)).mono ?_; rintro _ W5 ⟨v5, rfl, hI5, hb5⟩
                 have H1 := Lib.hid (And.intro (H5d.out.after hb5) hI5)
                 have p0 := H1.out.1.1.d0
                 have p1 := H1.out.1.1.d1
                 clear hb5 hI5))
            all_goals (have hend := DIt.putD H2.out R6)
            all_goals (obtain ⟨w9, hw9⟩ : ∃ w9, w9 = ((W6.setCell ⟨g + 1, 0, none⟩ (.bool (decide (E * 10 < 0)))).setCell ⟨g + 1, 1, none⟩ (.slice A6 (digs (E * 10).natAbs).length c6)) := ⟨_, rfl⟩)
            all_goals (rw [← hw9] at hend ⊢; clear hw9; rw [HE.out.1] at hend; have HF := Lib.hid hend; clear hend)
            all_goals (go_wp2_with fail)
            all_goals (go_roundg (gk - 1))
            all_goals first
              | exact ⟨j + 1, A, c, A6, c6, by have := HJ.out; omega, HF⟩
              | (have := HJ.out; omega)
          · have hnx := fun ty => Lib.run_next_end_at (P := Tryd.prog) wr it b j ty H0.out.2.1 hj
            obtain rfl : j = b.size := by omega
            clear hj hjq
            have n0 := H0.out.1.n0
            have n1 := H0.out.1.n1
            have f0 := H0.out.1.fn 0
            have f1 := H0.out.1.fn 1
            have hlv : (digs ((V : Nat) : Int).natAbs).length ≤ 1000000 := by
              have h1 := dval_small HLL.out.2 (by have := HV.out.2; omega)
              rw [← HV.out.1] at h1
              rw [Int.natAbs_natCast]
              exact Nat.le_trans (len_small (Nat.lt_of_lt_of_le h1 (by decide))) (by decide)
            have HLV := Lib.hid hlv
            clear hlv
            obtain ⟨E, hE⟩ : ∃ E : Int, E = ((10 ^ b.size : Nat) : Int) := ⟨_, rfl⟩
            rw [← hE] at H0
            have HE := Lib.hid hE
            clear hE
            go_upto_if 49 with fail
            go_cut [50] (fun _ wx => ∃ (A : Option Addr) (c : Nat), Hid (DSt w wx g gb [] (sgnd n V) E A c A' c'))
            case first =>
              cases n with
              | true =>
                go_wp2_with fail
                refine (rminus_any wr _ (V : Int) H0.out.1.big HLV.out).mono ?_
                rintro _ W5 ⟨v5, rfl, hI5, hb5⟩
                obtain ⟨X5, hX5⟩ : ∃ X5 : Int, X5 = -((V : Nat) : Int) := ⟨_, rfl⟩
                rw [← hX5] at hI5
                have HX5 := Lib.hid hX5
                clear hX5
                obtain ⟨A5, c5, rfl, R5⟩ := hI5
                have h5 := H0.out.1.after hb5
                have n0 := h5.n0
                have n1 := h5.n1
                have f0 := h5.fn 0
                have f1 := h5.fn 1
                have hend := DSt.putN h5 R5
                have HEND := Lib.hid hend
                clear h5 hend hb5 R5
                go_wp2_with fail
                go_meet
                exact ⟨A5, c5, by rw [← sgnd_neg', ← HX5.out]; exact HEND⟩
              | false =>
                go_wp2_with fail
                go_meet
                exact ⟨A, c, by rw [← sgnd_pos']; exact Lib.hid H0.out.1⟩
            case rest =>
            clear n0 n1 f0 f1 H0
            obtain ⟨A, c, H0⟩ := hcut
            have hlx : (digs (sgnd n V).natAbs).length ≤ 50000 := by
              have h1 := dval_small HLL.out.2 (by have := HV.out.2; omega)
              rw [← HV.out.1] at h1
              rw [sgnd_nabs]
              exact Nat.le_trans (len_small (Nat.lt_of_lt_of_le h1 (by decide))) (by decide)
            have hly : (digs E.natAbs).length ≤ 50000 := by rw [HE.out, Int.natAbs_natCast]; exact Nat.le_trans (pow_len (by omega)) (by decide)
            have hy0 : E ≠ 0 := by rw [HE.out]; have := Nat.pow_pos (n := b.size) (show 0 < 10 by decide); omega
            have HX := Lib.hid (And.intro hlx (And.intro hly hy0))
            clear hlx hly hy0
            obtain ⟨X, hX⟩ : ∃ X, X = sgnd n V := ⟨_, rfl⟩
            rw [← hX] at H0 HX
            have HXX := Lib.hid hX
            clear hX
            have n0 := H0.out.n0
            have n1 := H0.out.n1
            have d0 := H0.out.d0
            have d1 := H0.out.d1
            go_wp2_with fail
            refine (rlowest_any wc _ _ X E H0.out.big H0.out.den HX.out.1 HX.out.2.1 HX.out.2.2).mono ?_
            rintro _ W7 ⟨A7, c7, B7, k7, Z, D, rfl, R7, S7, hb7, HZD⟩
            have F7 := H0.out.F.after hb7
            have r0 := F7.r0
            have r1 := F7.r1
            have r2 := F7.r2
            have r3 := F7.r3
            have f0 := F7.fr 0
            have f1 := F7.fr 1
            have f2 := F7.fr 2
            have f3 := F7.fr 3
            obtain ⟨e, d0, d1, d2, d3⟩ := F7.filled R7 S7 _ rfl
            have HEE := Lib.hid (And.intro e (And.intro d0 (And.intro d1 (And.intro d2 d3))))
            clear e d0 d1 d2 d3 R7 S7 F7 hb7 n0 n1
            go_wp2
            (try simp only [Exit.inBlock, Exit.then])
            refine bodyPost_ret (results_dec rfl _ _ w.heap.size rfl HEE.out.2.1 HEE.out.2.2.1 HEE.out.2.2.2.1 HEE.out.2.2.2.2) rfl ?_
            have hz := HZD.out
            rw [HE.out, turned_pos, Int.natAbs_natCast, HXX.out, sgnd_nabs] at hz
            exact ⟨_, true, Z, D, rfl, HEE.out.1.1, HEE.out.1.2, Lib.hid (HY.out.2.2.2.2.2 Z D V _ (by rw [HV.out.1, HLL.out.1]) rfl hz.1 hz.2)⟩

end Go.Proofs.YtfnfnagdecpobaaDoor.pg
