/- law 01: FractionDecimals. -/
import Derived.Test.YtfnfnagdecpobaaDoorQb
import Derived.Test.YtfnfnagdecpobaaDoorHh
import Derived.Test.YtfnfnagdecpobaaDoorHf
import Derived.Laws.IdiomStrings
set_option linter.unusedSimpArgs false
namespace Go.Proofs.YtfnfnagdecpobaaDoor.qc
open Go.RowKit Go.Proofs.YtfnfnagdecpobaaDoor.fm Go.Proofs.YtfnfnagdecpobaaDoor.mem Go.Proofs.YtfnfnagdecpobaaDoor.fj Go.Proofs.YtfnfnagdecpobaaDoor.fu Go.Proofs.YtfnfnagdecpobaaDoor.fv Go.Proofs.YtfnfnagdecpobaaDoor.fw Go.Proofs.YtfnfnagdecpobaaDoor.fy Go.Proofs.YtfnfnagdecpobaaDoor.fz Go.Proofs.YtfnfnagdecpobaaDoor.gb Go.Proofs.YtfnfnagdecpobaaDoor.gc Go.Proofs.YtfnfnagdecpobaaDoor.ge Go.Proofs.YtfnfnagdecpobaaDoor.ha Go.Proofs.YtfnfnagdecpobaaDoor.hb Go.Proofs.YtfnfnagdecpobaaDoor.he Go.Proofs.YtfnfnagdecpobaaDoor.hf Go.Proofs.YtfnfnagdecpobaaDoor.hg Go.Proofs.YtfnfnagdecpobaaDoor.hh Go.Proofs.YtfnfnagdecpobaaDoor.mill Go.Proofs.YtfnfnagdecpobaaDoor.pd Go.Proofs.YtfnfnagdecpobaaDoor.pg Go.Proofs.YtfnfnagdecpobaaDoor.pc Go.Proofs.YtfnfnagdecpobaaDoor.qa Go.Proofs.YtfnfnagdecpobaaDoor.qb

theorem info_u8 : (Tryd.prog.info? 5).map (fun i => (i.zero, i.size, i.bytes)) = some (some (.int .u8 0), 1, 1) := by kernel_rfl

/-- the bytes of a text in memory -/
def bc (l : List UInt8) : List Value := l.map fun b => .int .u8 (b.toNat : Int)
theorem bc_get (l : List UInt8) (j : Nat) : (bc l)[j]? = l[j]?.map fun b => Value.int .u8 (b.toNat : Int) := by unfold bc; rw [List.getElem?_map]
theorem bc_length (l : List UInt8) : (bc l).length = l.length := by simp [bc]
theorem bc_one (l : List UInt8) : ∀ u ∈ bc l, u.oneCell' = true := by
  intro u hu
  simp only [bc, List.mem_map] at hu
  obtain ⟨n, _, rfl⟩ := hu
  rfl

theorem bc_set (l : List UInt8) (j : Nat) (x : UInt8) : (bc l).set j (.int .u8 (x.toNat : Int)) = bc (l.set j x) := by simp [bc, List.map_set]

/-- the block of a text's bytes -/
theorem bytes_cells (W : World) (s : ByteArray) (cap : Nat) (fr : Nat × Nat) (j : Nat) (x : UInt8) (hj : s.data.toList[j]? = some x) :
    (W.alloc (.cells (bytesRow s cap) 5 fr)).drew.cell? ⟨W.heap.size, j, none⟩ = some (.int .u8 (x.toNat : Int)) := by
  have hg := heap_alloc_new W (.cells (bytesRow s cap) 5 fr)
  show (W.alloc (.cells (bytesRow s cap) 5 fr)).cell? ⟨W.heap.size, j, none⟩ = _
  rw [cell_of_row _ _ j _ _ _ hg]
  have hjl : j < s.data.toList.length := (List.getElem?_eq_some_iff.1 hj).1
  have hjs : j < s.data.size := by rw [← Array.length_toList]; exact hjl
  rw [bytesRow_at _ _ j hjs]
  have hx2 : s.data[j] = x := by
    rw [List.getElem?_eq_getElem hjl] at hj
    rw [← Array.getElem_toList]
    exact Option.some.inj hj
  rw [hx2]

theorem own_base {base base' : Nat} {w : World} {e : TypeId} {v : Value} {n : Nat} {xs : List Value} (h : w.ownsRow base e 1 v n xs) (hb : base' ≤ base) : w.ownsRow base' e 1 v n xs := by
  obtain ⟨h1, h2⟩ := h
  refine ⟨h1, ?_⟩
  rcases h2 with h2 | ⟨b, cap, cur, hv, hbb, r⟩
  · exact Or.inl h2
  · exact Or.inr ⟨b, cap, cur, hv, Nat.le_trans hb hbb, r⟩

/-- Two texts' bytes in memory. -/
structure Two8 (w W : World) (tb gg cap : Nat) (tl lc : List UInt8) : Prop where
  bel : Below w.heap.size w W
  ne : tb ≠ gg
  gw : w.heap.size ≤ gg
  lt : tb < W.heap.size
  b : ∀ (j : Nat) (x : UInt8), tl[j]? = some x → W.cell? ⟨tb, j, none⟩ = some (.int .u8 (x.toNat : Int))
  own : W.ownsRow w.heap.size 5 1 (.slice (some ⟨gg, 0, none⟩) lc.length cap) lc.length (bc lc)

theorem Two8.cell {w W : World} {tb gg cap : Nat} {tl lc : List UInt8} (T : Two8 w W tb gg cap tl lc) {j : Nat} {x : UInt8} (h : lc[j]? = some x) : W.cell? ⟨gg, j, none⟩ = some (.int .u8 (x.toNat : Int)) := by
  have hj : j < lc.length := (List.getElem?_eq_some_iff.1 h).1
  rw [T.own.cellAt j (by omega), bc_get, h]; rfl

theorem Two8.set {w W : World} {tb gg cap : Nat} {tl lc : List UInt8} (T : Two8 w W tb gg cap tl lc) (m : Nat) (x : UInt8) : Two8 w (W.setCell ⟨gg, m, none⟩ (.int .u8 (x.toNat : Int))) tb gg cap tl (lc.set m x) := by
  refine ⟨T.bel.setCell (p := ⟨gg, m, none⟩) T.gw _, T.ne, T.gw, by simpa using T.lt, fun j y hj => ?_, ?_⟩
  · exact (World.cell?_setCell_other _ _ _ _ (by rintro h; cases h; exact T.ne rfl)).trans (T.b j y hj)
  · have h := (T.own.stored m (.int .u8 (x.toNat : Int))).1
    rw [bc_set] at h
    rwa [List.length_set]

theorem plain_add (g j : Nat) : (⟨g, 0, none⟩ : Addr).add j = ⟨g, j, none⟩ := by rw [Lib.add_plain]; simp

/-- .. and back -/
theorem Two8.back {w W : World} {tb gg cap cap0 : Nat} {tl lc : List UInt8} (T : Two8 w W tb gg cap tl lc) :
    (convert 22 9 (.slice (some ⟨tb, 0, none⟩) tl.length cap0)).run Tryd.prog W = .ok (.string ⟨tl.toArray⟩) W ∧ (convert 22 9 (.slice (some ⟨gg, 0, none⟩) lc.length cap)).run Tryd.prog W = .ok (.string ⟨lc.toArray⟩) W :=
  ⟨run_convert_bytes_back (P := Tryd.prog) W 22 9 5 ⟨tb, 0, none⟩ cap0 tl (by kernel_rfl) (by kernel_rfl) (by kernel_rfl) (fun j hj => by rw [plain_add]; exact T.b j _ (List.getElem?_eq_getElem hj)),
   run_convert_bytes_back (P := Tryd.prog) W 22 9 5 ⟨gg, 0, none⟩ cap lc (by kernel_rfl) (by kernel_rfl) (by kernel_rfl) (fun j hj => by rw [plain_add]; exact T.cell (List.getElem?_eq_getElem hj))⟩

/-- the ten texts -/
def tens (a b : Array UInt8) (c : ByteArray) : Array Value := #[.string ⟨a⟩, .string ⟨b⟩, .string c, .string ⟨#[49, 50, 51, 52, 53, 54, 55, 56, 57, 48, 49, 50, 51, 52, 53, 46, 49, 50, 51, 52, 53, 54, 55, 56, 57]⟩,
  .string ⟨#[49, 50, 51, 52, 53, 54, 55, 56, 57, 48, 49, 50, 51, 52, 53, 54]⟩, .string ⟨#[49, 46, 49, 50, 51, 52, 53, 54, 55, 56, 57, 48]⟩, .string ⟨#[49, 46]⟩, .string ⟨#[46, 53]⟩, .string ⟨#[43]⟩, .string ⟨#[]⟩]
def tenl (a b : Array UInt8) (c : ByteArray) : List ByteArray := [⟨a⟩, ⟨b⟩, c, ⟨#[49, 50, 51, 52, 53, 54, 55, 56, 57, 48, 49, 50, 51, 52, 53, 46, 49, 50, 51, 52, 53, 54, 55, 56, 57]⟩,
  ⟨#[49, 50, 51, 52, 53, 54, 55, 56, 57, 48, 49, 50, 51, 52, 53, 54]⟩, ⟨#[49, 46, 49, 50, 51, 52, 53, 54, 55, 56, 57, 48]⟩, ⟨#[49, 46]⟩, ⟨#[46, 53]⟩, ⟨#[43]⟩, ⟨#[]⟩]
theorem tens_ok (a b : Array UInt8) (c : ByteArray) (ha : a.size ≤ 40) (hb : b.size ≤ 40) (hc : c.size ≤ 40) (k : Nat) (hk : k < 10) : ∃ s : ByteArray, (tenl a b c)[k]? = some s ∧ s.size ≤ 40 := by
  rcases k with _ | _ | _ | _ | _ | _ | _ | _ | _ | _ | k
  all_goals first | exact ⟨_, rfl, ha⟩ | exact ⟨_, rfl, hb⟩ | exact ⟨_, rfl, hc⟩ | exact ⟨_, rfl, by decide⟩ | omega
theorem tens_cells (W : World) (a b : Array UInt8) (c : ByteArray) (k : Nat) (s : ByteArray) (h : (tenl a b c)[k]? = some s) : (W.alloc (.cells (tens a b c) 9)).cell? ⟨W.heap.size, k, none⟩ = some (.string s) := by
  rw [World.cell?_alloc_new]
  have e : (tens a b c) = ((tenl a b c).map Value.string).toArray := rfl
  rw [e, List.getElem?_toArray, List.getElem?_map, h]
  rfl

set_option maxRecDepth 100000 in
set_option maxHeartbeats 8000000 in
theorem decimals_any (w : World) (A : Option Addr) (c : Nat) (l : List Nat) (S : Seeds w w.heap.size A c l) (hl : l.length ≤ maxLen) (tx : ByteArray) (at_ : Int) (x : UInt8) (ha1 : -9223372036854775808 ≤ at_) (ha2 : at_ < 9223372036854775808) (hT : Tabs w) (hP : Pow w) :
    Calls Tryd.prog 4 #[.slice A l.length c, .string tx, .int .i64 at_, .int .u8 (x.toNat : Int)] w fun e w' => e = .returned (.bool true) ∧ Below w.heap.size w w' := by
  obtain ⟨i0, hi, hz0, hz1, hz2⟩ := info_parts info_u8
  have hcv := fun w s => run_bytes_of_string (P := Tryd.prog) w 9 22 5 s Tryd.underlying9 Tryd.underlying22 Tryd.underlying5
  have HCV := Lib.hid hcv
  clear hcv
  go_enter Tryd.func4, Tryd.ntmps4
  go_wp2_with fail
  refine (sane_any w hT hP).mono ?_
  rintro _ W1 ⟨rfl, hb1⟩
  have HB1 := Lib.hid hb1
  have S1 := (S.below hb1).more hb1.size
  clear hb1 S
  by_cases htx : 40 < tx.size
  · have hz : (40 : Int) < (tx.size : Int) := by omega
    go_wp2_with fail
    go_ret
    exact ⟨rfl, HB1.out⟩
  · have hz : ¬ (40 : Int) < (tx.size : Int) := by omega
    go_wp2_with fail
    refine (new_any W1 A c l S1 hl).mono ?_
    rintro _ W2 ⟨rfl, hD, hb2⟩
    obtain ⟨g, hg⟩ : ∃ g, g = W1.heap.size := ⟨_, rfl⟩
    have hgw : w.heap.size ≤ g := by rw [hg]; exact HB1.out.size
    have HB2 := Lib.hid (HB1.out.trans (hb2.mono HB1.out.size))
    rw [← hg] at hD ⊢
    clear hg hb2 S1
    go_wp2_with fail
    refine (number_any W2 g (l.take 300) 0 hD).mono ?_
    rintro _ W3 ⟨t, k3, rfl, ht1, ht2, hD3, hK3⟩
    have HB3 := Lib.hid (HB2.out.trans (hK3.bel.mono hgw))
    clear hD hD3 hK3 HB1 HB2
    have hcv := HCV.out
    go_upto_region 7 with fail
    obtain ⟨tl, htl⟩ : ∃ tl, tl = t.data.toList := ⟨_, rfl⟩
    have hlen : t.size = tl.length := by rw [htl]; exact (data_len t).symm
    rw [hlen] at ht1 ht2 ⊢
    generalize grownCap W3 tl.length 0 5 = cap0 at *
    have hc4 := fun j x h => bytes_cells W3 t cap0 ((bytesRow t cap0).size, (bytesRow t cap0).size + 1) j x h
    rw [← htl] at hc4
    have hb4 : Below W3.heap.size W3 (W3.alloc (.cells (bytesRow t cap0) 5 ((bytesRow t cap0).size, (bytesRow t cap0).size + 1))).drew := ((Below.refl _ _).alloc (Nat.le_refl _) _).drew
    have hlt4 : W3.heap.size < (W3.alloc (.cells (bytesRow t cap0) 5 ((bytesRow t cap0).size, (bytesRow t cap0).size + 1))).drew.heap.size := by simp
    obtain ⟨W4, hW4⟩ : ∃ W4, W4 = (W3.alloc (.cells (bytesRow t cap0) 5 ((bytesRow t cap0).size, (bytesRow t cap0).size + 1))).drew := ⟨_, rfl⟩
    rw [← hW4] at hc4 hb4 hlt4 ⊢
    clear hW4
    have HB4 := Lib.hid (HB3.out.trans (hb4.mono HB3.out.size))
    have htb : w.heap.size ≤ W3.heap.size := HB3.out.size
    generalize W3.heap.size = tb at *
    have hb5 : Below W4.heap.size W4 (W4.alloc (.cells #[] 5)) := (Below.refl _ _).alloc (Nat.le_refl _) _
    have hc5 : ∀ (j : Nat) (x : UInt8), tl[j]? = some x → (W4.alloc (.cells #[] 5)).cell? ⟨tb, j, none⟩ = some (.int .u8 (x.toNat : Int)) := fun j x h => (hb5.cell (p := ⟨tb, j, none⟩) hlt4).trans (hc4 j x h)
    have HC5 := Lib.hid (And.intro hc5 (And.intro hb5 (And.intro hc4 (And.intro hlen htl))))
    clear hc5 hb5 hc4 hlen htl hb4 hcv HCV
    go_wp2_with (first
      | (at_builtin; refine wpList_append_lies _ rfl _ _ 22 rfl W4.heap.size 5 i0 (.int .u8 0) 1 1 Tryd.underlying22 hi hz0 hz1 hz2 rfl (by decide) _ 0 [] rfl ⟨by simp, .inr ⟨W4.heap.size, 0, #[], rfl, Nat.le_refl _, heap_alloc_new W4 _, Nat.le_refl _, by simp [maxLen], by simp, by simp⟩⟩ ⟨tb, 0, none⟩ tl.length cap0 (bc tl) rfl (by rw [bc_length, Nat.mul_one]) ?hnews (bc_one tl) (by omega) (by unfold maxLen; omega) (by omega) (by simp) _ rfl ?_))
    case hnews =>
      intro j u hu
      rw [plain_add]
      rw [bc_get] at hu
      cases hx : tl[j]? with
      | none => rw [hx] at hu; cases hu
      | some x => rw [hx] at hu; rw [HC5.out.1 j x hx]; exact hu
    · intro gg cap W6 hown hgrow hat hlt6
      have hb6 : Below W4.heap.size W4 W6 := HC5.out.2.1.grown hgrow (by simp) (fun j hj => by simp [Value.ownBlock] at hj; omega)
      have hgg : W4.heap.size ≤ gg := (hown.lt gg rfl).1
      have hown2 : W6.ownsRow W4.heap.size 5 1 (.slice (some ⟨gg, 0, none⟩) tl.length cap) tl.length (bc tl) := by
        have h1 := hown
        simpa using h1
      have T6 : Two8 w W6 tb gg cap tl tl := ⟨HB4.out.trans (hb6.mono HB4.out.size), by omega, by omega, Nat.lt_of_lt_of_le hlt4 hb6.size, fun j y h => (hb6.cell (p := ⟨tb, j, none⟩) hlt4).trans (HC5.out.2.2.1 j y h), own_base hown2 HB4.out.size⟩
      have HT6 := Lib.hid T6
      clear T6 hown2 hgg hb6 hat hgrow hown HC5 hlt4 hlt6 HB3 HB4 htb hgw
      go_wp2_with fail
      refine (mod_any W6 at_ (tl.length : Int) ha1 ha2 (by omega) (by omega)).mono ?_
      rintro _ _ ⟨m, rfl, hm, rfl⟩
      have hm2 : m < tl.length := by omega
      have c1 := HT6.out.cell (List.getElem?_eq_getElem hm2)
      have f1 := HT6.out.own.frozenAt m
      have T7 := HT6.out.set m x
      have hbk := T7.back (cap0 := cap0)
      rw [List.length_set] at hbk
      have HT7 := Lib.hid T7
      have HBK := Lib.hid hbk
      clear T7 hbk HT6
      go_upto_region 9 with fail
      obtain ⟨W7, hW7⟩ : ∃ W7, W7 = W6.setCell ⟨gg, m, none⟩ (.int .u8 (x.toNat : Int)) := ⟨_, rfl⟩
      rw [← hW7] at HT7 HBK ⊢
      clear hW7 c1 f1
      have hbk1 := HBK.out.1
      have hbk2 := HBK.out.2
      have h40 : tx.size ≤ 40 := by omega
      have hlt := tens_ok (tl.toArray) (tl.set m x).toArray tx (by simpa using ht2) (by simpa using ht2) h40
      have HLT := Lib.hid hlt
      have HB7 := Lib.hid HT7.out.bel
      clear hlt htx hz h40 ht1 ht2 hm hm2
      go_upto_region 10 with fail
      clear hbk1 hbk2 HBK HT7
      have hcs := tens_cells W7 (tl.toArray) (tl.set m x).toArray tx
      have hb8 : Below W7.heap.size W7 (W7.alloc (.cells (tens (tl.toArray) (tl.set m x).toArray tx) 9)) := (Below.refl _ _).alloc (Nat.le_refl _) _
      have hz8 : W7.heap.size < (W7.alloc (.cells (tens (tl.toArray) (tl.set m x).toArray tx) 9)).heap.size := by simp
      obtain ⟨W8, hW8⟩ : ∃ W8, W8 = W7.alloc (.cells (tens (tl.toArray) (tl.set m x).toArray tx) 9) := ⟨_, rfl⟩
      rw [← hW8] at hcs hb8 hz8
      have hW8' := hW8
      unfold tens at hW8'
      rw [← hW8']
      clear hW8 hW8'
      have HB8 := Lib.hid (HB7.out.trans (hb8.mono HB7.out.size))
      generalize W7.heap.size = bt at *
      obtain ⟨ts, hts⟩ : ∃ ts, ts = tenl (tl.toArray) (tl.set m x).toArray tx := ⟨_, rfl⟩
      rw [← hts] at hcs HLT
      have HCS := Lib.hid (And.intro hcs hz8)
      clear hts hcs hz8 HB7 hb8
      go_loopw [45] (fun i wr => ∃ k : Nat, k ≤ 10 ∧ i = .int .i64 k ∧ Below w.heap.size w wr ∧ Below W8.heap.size W8 wr) (fun i _ => 10 - (intOf i).toNat)
      case atStart => exact ⟨0, by decide, rfl, HB8.out, Below.refl _ _⟩
      case round =>
        obtain ⟨k, hk, rfl, hbw, hb8⟩ := hrel
        by_cases hk10 : k < 10
        · obtain ⟨s, hs, hsl⟩ := HLT.out k hk10
          have ck := (hb8.cell (p := ⟨bt, k, none⟩) HCS.out.2).trans (HCS.out.1 k s hs)
          have hkz : (k : Int) < 10 := by omega
          have HBW := Lib.hid (And.intro hbw hb8)
          clear hbw hb8 hs
          go_wp2_with fail
          refine (decimal_any wr s (hT.below HBW.out.1)).mono ?_
          rintro _ W9 hF
          obtain ⟨A9, c9, B9, k9, Z9, D9, o9, rfl, R9, S9, hb9, HD9⟩ := dec_open hF
          clear hF ck
          go_upto_region 13 with fail
          have F1 := fat_new R9 S9
          have h1 := hb9.trans (((Below.refl W9.heap.size W9).alloc (Nat.le_refl _) (.cells #[.bool (decide (Z9 < 0)), .slice A9 (digs Z9.natAbs).length c9, .bool false, .slice B9 (digs D9).length k9] 50)).mono hb9.size)
          obtain ⟨U1, hU1⟩ : ∃ U1, U1 = W9.alloc (.cells #[.bool (decide (Z9 < 0)), .slice A9 (digs Z9.natAbs).length c9, .bool false, .slice B9 (digs D9).length k9] 50) := ⟨_, rfl⟩
          rw [← hU1] at F1 h1 ⊢
          generalize W9.heap.size = g9 at *
          have H1 := Lib.hid (And.intro h1 F1)
          clear hU1 F1 h1 R9 S9 hb9
          go_wp2_with fail
          refine (rdecimal_any U1 s (by omega)).mono ?_
          rintro _ Wa hF
          obtain ⟨Aa, ca, Ba, ka, Za, Da, oa, rfl, Ra, Sa, hba, HDa⟩ := dec_open hF
          clear hF
          obtain ⟨e1, e2, e3⟩ := dec_unique HDa.out HD9.out
          subst e1 e2 e3
          go_upto_region 14 with fail
          have F2 := fat_new Ra Sa
          have h2 := hba.trans (((Below.refl Wa.heap.size Wa).alloc (Nat.le_refl _) (.cells #[.bool (decide (Za < 0)), .slice Aa (digs Za.natAbs).length ca, .bool false, .slice Ba (digs Da).length ka] 50)).mono hba.size)
          obtain ⟨U2, hU2⟩ : ∃ U2, U2 = Wa.alloc (.cells #[.bool (decide (Za < 0)), .slice Aa (digs Za.natAbs).length ca, .bool false, .slice Ba (digs Da).length ka] 50) := ⟨_, rfl⟩
          rw [← hU2] at F2 h2 ⊢
          generalize Wa.heap.size = ga at *
          have F1' := H1.out.2.after h2
          have H2 := Lib.hid (And.intro (H1.out.1.trans (h2.mono H1.out.1.size)) (And.intro F1' F2))
          have p0 := F1'.c0
          have p1 := F1'.c1
          have p2 := F1'.c2
          have p3 := F1'.c3
          have q0 := F2.c0
          have q1 := F2.c1
          have q2 := F2.c2
          have q3 := F2.c3
          have hne : (oa != oa) = false := by cases oa <;> rfl
          clear hU2 F2 F1' h2 Ra Sa hba H1
          go_wp2_with fail
          clear p0 p1 p2 p3 q0 q1 q2 q3
          refine (rsameFraction_any U2 _ _ Za Da H2.out.2.1.frac H2.out.2.2.frac (Nat.le_trans (dec_little HDa.out).1 (by decide)) (Nat.le_trans (dec_little HDa.out).2 (by decide))).mono ?_
          rintro _ U3 ⟨rfl, hb3⟩
          have hb4 := H2.out.1.trans (hb3.mono H2.out.1.size)
          have HU := Lib.hid (And.intro (HBW.out.1.trans (hb4.mono HBW.out.1.size)) (HBW.out.2.trans (hb4.mono HBW.out.2.size)))
          clear hb3 hb4 H2 HBW
          go_wp2_with fail
          go_roundw
          case rel => exact ⟨k + 1, by omega, by go_num, HU.out.1, HU.out.2⟩
          case measure => simp [intOf]; omega
        · have hkz : ¬ (k : Int) < 10 := by omega
          have HBW := Lib.hid hbw
          clear hbw hb8
          go_wp2_with fail
          go_ret
          exact ⟨rfl, HBW.out⟩

end Go.Proofs.YtfnfnagdecpobaaDoor.qc
