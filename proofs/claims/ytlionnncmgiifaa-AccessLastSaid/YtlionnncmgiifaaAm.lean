/- law 42: AccessLast: the walk. -/
import Derived.Test.YtlionnncmgiifaaAl
import Derived.Deep.RegionLaw
import Derived.Deep.DeepCutAuto
import Derived.Deep.CutBlock
set_option linter.unusedVariables false
set_option linter.unusedSimpArgs false
namespace Go.Proofs.Ytlionnncmgiifaa.acc
open Go.RowKit Go.Proofs.Ytlionnncmgiifaa.dice Go.Proofs.Ytlionnncmgiifaa.full

/-- what lies in memory while the law asks -/
structure Gd (w0 : World) (X g cap : Nat) (m : Value) (T C : Int) (ps : List Perm) (W : World) : Prop where
  ref : W.heap[X]? = some (.cells #[.int .i64 T, .int .i64 C] 30)
  pl : Perms W.heap.size W (.slice (some ⟨g, 0, none⟩) ps.length cap) ps
  cs : ∀ j u, (cells ps)[j]? = some u → W.cell? ((⟨g, 0, none⟩ : Addr).add j) = some u
  gl : g < W.heap.size
  mi : Perms W.heap.size W m (mine ps U)
  bel : Below w0.heap.size w0 W

theorem Gd.after {w0 W W' : World} {X g cap : Nat} {m : Value} {T C : Int} {ps : List Perm} (h : Gd w0 X g cap m T C ps W) (hb : Below W.heap.size W W') : Gd w0 X g cap m T C ps W' :=
  ⟨(hb.block X (Array.getElem?_eq_some_iff.1 h.ref).1).trans h.ref, (h.pl.below hb).more hb.size,
   fun j u hj => (hb.cell (p := (⟨g, 0, none⟩ : Addr).add j) (by rw [show ((⟨g, 0, none⟩ : Addr).add j).block = g by unfold Addr.add; split <;> rfl]; exact h.gl)).trans (h.cs j u hj),
   Nat.lt_of_lt_of_le h.gl hb.size, (h.mi.below hb).more hb.size, h.bel.trans (hb.mono h.bel.size)⟩

theorem Gd.x0 {w0 W : World} {X g cap : Nat} {m : Value} {T C : Int} {ps : List Perm} (h : Gd w0 X g cap m T C ps W) : W.cell? ⟨X, 0, none⟩ = some (.int .i64 T) := heap_cell h.ref rfl
theorem Gd.x1 {w0 W : World} {X g cap : Nat} {m : Value} {T C : Int} {ps : List Perm} (h : Gd w0 X g cap m T C ps W) : W.cell? ⟨X, 1, none⟩ = some (.int .i64 C) := heap_cell h.ref rfl

/-- the cells that a region loads: the reference's and a rule's -/
def Six (X : Nat) (T C : Int) (B : Nat) (pu : ByteArray) (pa : Bool) (pt pc : Int) (W : World) : Prop :=
  W.cell? ⟨X, 0, none⟩ = some (.int .i64 T) ∧ W.cell? ⟨X, 1, none⟩ = some (.int .i64 C) ∧ W.cell? ⟨B, 0, none⟩ = some (.string pu) ∧ W.cell? ⟨B, 1, none⟩ = some (.bool pa) ∧ W.cell? ⟨B, 2, none⟩ = some (.int .i64 pt) ∧ W.cell? ⟨B, 3, none⟩ = some (.int .i64 pc)
theorem Six.alloc {X : Nat} {T C : Int} {B : Nat} {pu : ByteArray} {pa : Bool} {pt pc : Int} {W : World} (h : Six X T C B pu pa pt pc W) (o : Obj) : Six X T C B pu pa pt pc (W.alloc o) :=
  ⟨cell_alloc o h.1, cell_alloc o h.2.1, cell_alloc o h.2.2.1, cell_alloc o h.2.2.2.1, cell_alloc o h.2.2.2.2.1, cell_alloc o h.2.2.2.2.2⟩
theorem Six.below {X : Nat} {T C : Int} {B : Nat} {pu : ByteArray} {pa : Bool} {pt pc : Int} {W W' : World} (h : Six X T C B pu pa pt pc W) (hb : Below W.heap.size W W') : Six X T C B pu pa pt pc W' :=
  ⟨(hb.cell (lt_of_cell h.1)).trans h.1, (hb.cell (lt_of_cell h.2.1)).trans h.2.1, (hb.cell (lt_of_cell h.2.2.1)).trans h.2.2.1, (hb.cell (lt_of_cell h.2.2.2.1)).trans h.2.2.2.1, (hb.cell (lt_of_cell h.2.2.2.2.1)).trans h.2.2.2.2.1, (hb.cell (lt_of_cell h.2.2.2.2.2)).trans h.2.2.2.2.2⟩

theorem below_grown {W W' : World} (h : W.grownBy W' none) : Below W.heap.size W W' := ⟨h.os, h.tape, h.output, h.size, fun k hk => h.block k hk (by simp)⟩

/-- the four rules that decide, each at the end -/
def deciders (a : Bool) (T C : Int) : List Perm := [⟨U, a, 0, -1⟩, ⟨U, a, T, C⟩, ⟨U, a, T, -1⟩, ⟨U, a, 0, C⟩]
theorem deciders_ok (a : Bool) (T C : Int) (p : Perm) (h : p ∈ deciders a T C) : p.a = a ∧ hit U T C p = true := by
  simp only [deciders, List.mem_cons, List.not_mem_nil, or_false] at h
  rcases h with rfl | rfl | rfl | rfl
  · exact ⟨rfl, hit_all _ _ _⟩
  · exact ⟨rfl, hit_both _ _ _⟩
  · exact ⟨rfl, hit_table _ _ _⟩
  · exact ⟨rfl, hit_column _ _ _⟩

set_option maxRecDepth 100000 in
set_option maxHeartbeats 2000000 in
theorem last_any (A : Option Addr) (c : Nat) (l : List Int) (r : Int) (w : World) (S : Nums w w.heap.size A c l) (r0 : 0 ≤ r) (r1 : r < 256) :
    Calls Try.prog 3 #[.slice A l.length c, .int .u8 r] w fun e w' => e = .returned (.bool true) ∧ Below w.heap.size w w' := by
  go_enter Try.func3, Try.ntmps3
  have HS := Lib.hid S
  clear S
  go_wp2_with fail
  refine (light_any A l.length c w).mono ?_
  rintro _ w0 ⟨rfl, hw⟩
  obtain rfl : w = w0 := hw.symm
  clear hw
  by_cases hl : (l.length : Int) ≤ 500
  · have hd : decide ((l.length : Int) ≤ 500) = true := decide_eq_true hl
    rw [hd]
    go_wp2_with fail
    refine (roll_any A c l w HS.out (by omega)).mono ?_
    rintro _ w1 ⟨rfl, D1, b1, s1⟩
    go_wp2_with fail
    refine (rules_any w.heap.size l 0 w1 D1).mono ?_
    rintro _ w2 ⟨v, ps, rfl, hp0, hp5, ho2, hK2⟩
    have b2 : Below w.heap.size w w2 := b1.trans hK2.bel
    have hI2 := perms_of_row ho2 (by omega)
    obtain ⟨g, cap, rfl, hg, hgl⟩ := ho2.form hp0
    have hcap : ps.length ≤ cap := by
      obtain ⟨_, ⟨e, _⟩ | ⟨g', cap', cur, e, _, _, h, _⟩⟩ := ho2
      · cases e
      · cases e; exact h
    have hxs := ho2.cells (g := g) rfl
    have HC := Lib.hid hxs
    clear ho2 hK2 D1 hxs
    -- the reference
    obtain ⟨T, hT⟩ : ∃ T : Int, T = 1 + r % 4 := ⟨_, rfl⟩
    obtain ⟨C, hC⟩ : ∃ C : Int, C = r / 4 % 3 := ⟨_, rfl⟩
    have T0 : 1 ≤ T := by omega
    have T1 : T ≤ 4 := by omega
    have C0 : 0 ≤ C := by omega
    have C1 : C ≤ 2 := by omega
    go_wp2_with fail
    rw [← hT, ← hC]
    clear hT hC
    obtain ⟨w3, hw3⟩ : ∃ w3, w3 = w2.alloc (.cells #[.int .i64 T, .int .i64 C] 30) := ⟨_, rfl⟩
    have s3 : w3.heap.size = w2.heap.size + 1 := by rw [hw3]; simp
    have b23 : Below w2.heap.size w2 w3 := by rw [hw3]; exact (Below.refl _ _).alloc (Nat.le_refl _) _
    have h3 : w3.heap[w2.heap.size]? = some (.cells #[.int .i64 T, .int .i64 C] 30) := by rw [hw3]; exact World.alloc_heap_new w2 _
    rw [← hw3]
    have b3 : Below w.heap.size w w3 := b2.trans (b23.mono b2.size)
    have hI3 := (hI2.below b23).more b23.size
    have hxs3 : ∀ j u, (cells ps)[j]? = some u → w3.cell? ((⟨g, 0, none⟩ : Addr).add j) = some u := fun j u h => (b23.cell (p := (⟨g, 0, none⟩ : Addr).add j) (by rw [show ((⟨g, 0, none⟩ : Addr).add j).block = g by unfold Addr.add; split <;> rfl]; exact hgl)).trans (HC.out j u h)
    have hg3 : g < w3.heap.size := by omega
    clear hw3 HC HS b1 b2 b23 hI2 s1 hg hgl
    obtain ⟨X, hX⟩ : ∃ X, X = w2.heap.size := ⟨_, rfl⟩
    rw [← hX] at h3 s3 ⊢
    clear hX
    obtain ⟨i0, hi, hz0, hz1, hz2⟩ := info_parts info_perm
    have HP := Lib.hid (And.intro h3 (And.intro b3 (And.intro hI3 hxs3)))
    clear h3 b3 hI3 hxs3
    -- the rules of the user
    go_loopw [7, 33] (fun m i wr => ∃ k : Nat, k ≤ ps.length ∧ i = .int .i64 (k : Int) ∧ wr.ownsRow w3.heap.size 32 4 m (mine (ps.take k) U).length (cells (mine (ps.take k) U)) ∧ Below w3.heap.size w3 wr)
      (fun _ i _ => ps.length - (intOf i).toNat)
    case atStart => exact ⟨0, Nat.zero_le _, rfl, World.ownsRow_nil _ _ _ _, Below.refl _ _⟩
    case round =>
      obtain ⟨k, hk, rfl, hown, hbl⟩ := hrel
      by_cases hlt : k < ps.length
      · obtain ⟨p, hp⟩ : ∃ p, ps[k]? = some p := ⟨_, List.getElem?_eq_getElem hlt⟩
        have hx := (at4_of (w := w3) (b := g) (o := 0) HP.out.2.2.2 k p hp).block' (fun o => hbl.cell (p := ⟨g, o, none⟩) hg3)
        have hm := mine_snoc ps k p U hp
        obtain ⟨pu, pa, pt, pc⟩ := p
        obtain ⟨x0, x1, x2, x3⟩ := hx
        rw [show 0 + 4 * k = k * 4 by omega] at x0 x1 x2 x3
        dsimp only at x0 x1 x2 x3
        have e3 : IntKind.i64.wrap ((k : Int) + 1) = (k : Int) + 1 := IntWalk.i64_in _ (by omega)
        by_cases hu : pu = U
        · rw [if_pos hu] at hm
          rw [show (U : ByteArray) = ⟨#[117]⟩ from rfl] at hu
          subst hu
          obtain ⟨pn, hpn⟩ : ∃ pn : Perm, pn = ⟨⟨#[117]⟩, pa, pt, pc⟩ := ⟨_, rfl⟩
          have hml : (mine (ps.take k) U).length ≤ 5 := Nat.le_trans (mine_len _ _) (by simp; omega)
          have HO := Lib.hid (And.intro hm hbl)
          rw [← hpn] at hm
          obtain ⟨ms, hms⟩ : ∃ ms, ms = mine (ps.take k) U := ⟨_, rfl⟩
          rw [← hms] at hown hml hm
          have hbs := hbl.size
          have HB := Lib.hid hbl
          clear HO hbl hms
          have HO := Lib.hid hm
          clear hm
          go_wp2_with (at_builtin; refine wpList_append_lies _ (by rfl) _ _ 25 (by rfl) w3.heap.size 32 i0 _ 4 40 Try.underlying25 hi hz0 hz1 hz2 rfl (by omega) _ ms.length (cells ms) (by rfl) ((hown.alloc _).alloc _) ⟨wr.heap.size + 1, 0, none⟩ 1 1 pn.cs (by rfl) (by rfl) (by
            rw [hpn, show wr.heap.size + 1 = (wr.alloc (.cells #[.string ⟨#[117]⟩, .bool pa, .int .i64 pt, .int .i64 pc] 32)).heap.size by simp]
            exact World.news_of_block (cs := #[.string ⟨#[117]⟩, .bool pa, .int .i64 pt, .int .i64 pc]) (t := 32) (fr := (0, 0)) (World.alloc_heap_new _ _)) (by intro u hu; exact cells_one [pn] u (by simpa [cells] using hu)) (by omega) (by unfold maxLen; omega) (by omega) (by simp; omega) (wr.heap.size + 1 + 1) (by simp) ?_; intro g2 cap2 w7 hown7 hgrow hat hlt7)
          go_roundw
          case rel =>
            refine ⟨k + 1, by omega, by simp, ?_, ?_⟩
            · rw [HO.out, List.length_append, cells_append, show cells [pn] = pn.cs by simp [cells]]
              exact hown7
            · exact ((HB.out.alloc HB.out.size _).alloc (by simp; omega) _).grown hgrow (by simp; omega) (fun k e => (hown.lt k e).1)
          case measure => simp [intOf] <;> omega
        · rw [if_neg hu, List.append_nil] at hm
          have hu' : (pu.toList == (U : ByteArray).toList) = false := toList_ne hu
          rw [show (U : ByteArray).toList = [117] by simp [U, ByteArray.toList_eq]] at hu'
          rw [← hm] at hown
          have HO := Lib.hid (And.intro hown hbl)
          clear hown hm hu
          go_wp2_with fail
          go_roundw
          case rel => exact ⟨k + 1, by omega, by simp, HO.out.1.alloc _, HO.out.2.alloc HO.out.2.size _⟩
          case measure => simp [intOf] <;> omega
      · obtain rfl : k = ps.length := by omega
        rw [List.take_length] at hown
        go_wp2_with fail
        have G0 : Gd w X g cap u7 T C ps wr := by
          obtain ⟨h3, b3, hI3, hxs3⟩ := HP.out
          refine ⟨(hbl.block X (by omega)).trans h3, (hI3.below hbl).more hbl.size, fun j u h => ?_, Nat.lt_of_lt_of_le hg3 hbl.size, perms_of_row hown (Nat.le_trans (mine_len _ _) (by omega)), b3.trans (hbl.mono b3.size)⟩
          exact (hbl.cell (p := (⟨g, 0, none⟩ : Addr).add j) (by rw [show ((⟨g, 0, none⟩ : Addr).add j).block = g by unfold Addr.add; split <;> rfl]; exact hg3)).trans (hxs3 j u h)
        obtain ⟨w4, hw4⟩ : ∃ w4, w4 = wr.alloc (.cells #[.bool true, .bool false] 4) := ⟨_, rfl⟩
        have b4 : Below wr.heap.size wr w4 := by rw [hw4]; exact (Below.refl _ _).alloc (Nat.le_refl _) _
        have a4 : w4.heap[wr.heap.size]? = some (.cells #[.bool true, .bool false] 4) := by rw [hw4]; exact World.alloc_heap_new wr _
        have G4 := G0.after b4
        rw [← hw4]
        obtain ⟨Ab, hAb⟩ : ∃ Ab, Ab = wr.heap.size := ⟨_, rfl⟩
        rw [← hAb] at a4 ⊢
        have HG := Lib.hid (And.intro G4 a4)
        obtain ⟨m, hm⟩ : ∃ m, m = u7 := ⟨_, rfl⟩
        rw [← hm] at HG ⊢
        clear hw4 G0 G4 a4 b4 hown hbl HP hlt hk hAb hm hg3 s3
        -- true and false
        go_loopw [47] (fun i wq => ∃ k : Nat, k ≤ 2 ∧ i = .int .i64 (k : Int) ∧ Gd w X g cap m T C ps wq ∧ wq.heap[Ab]? = some (.cells #[.bool true, .bool false] 4))
          (fun i _ => 2 - (intOf i).toNat)
        case atStart => exact ⟨0, by omega, rfl, HG.out.1, HG.out.2⟩
        case round =>
          obtain ⟨k, hk, rfl, G, hab⟩ := hrel
          clear HG
          by_cases hlt : k < 2
          · obtain ⟨a, ha⟩ : ∃ a : Bool, wr.cell? ⟨Ab, k, none⟩ = some (.bool a) := by
              have : k = 0 ∨ k = 1 := by omega
              rcases this with rfl | rfl
              · exact ⟨true, heap_cell hab rfl⟩
              · exact ⟨false, heap_cell hab rfl⟩
            have x0 := G.x0
            have x1 := G.x1
            have HG := Lib.hid (And.intro G hab)
            clear G hab
            go_wp2_with fail
            obtain ⟨w4, hw4⟩ : ∃ w4, w4 = wr.alloc (.cells #[.string ⟨#[117]⟩, .bool a, .int .i64 0, .int .i64 (-1), .string ⟨#[117]⟩, .bool a, .int .i64 T, .int .i64 C, .string ⟨#[117]⟩, .bool a, .int .i64 T, .int .i64 (-1), .string ⟨#[117]⟩, .bool a, .int .i64 0, .int .i64 C] 32) := ⟨_, rfl⟩
            have b4 : Below wr.heap.size wr w4 := by rw [hw4]; exact (Below.refl _ _).alloc (Nat.le_refl _) _
            have q4 : w4.heap[wr.heap.size]? = some (.cells (cells (deciders a T C)).toArray 32) := by rw [hw4]; exact World.alloc_heap_new wr _
            have G4 := HG.out.1.after b4
            have ab4 := (b4.block _ (Array.getElem?_eq_some_iff.1 HG.out.2).1).trans HG.out.2
            rw [← hw4]
            obtain ⟨Q, hQ⟩ : ∃ Q, Q = wr.heap.size := ⟨_, rfl⟩
            rw [← hQ] at q4 ⊢
            have HG4 := Lib.hid (And.intro G4 (And.intro ab4 q4))
            clear hw4 b4 q4 G4 ab4 hQ x0 x1 HG ha
            rw [show decide ((k : Int) < 2) = true from decide_eq_true (by omega)]
            -- the four rules, each at the end
            go_loopw [69] (fun i wq => ∃ j : Nat, j ≤ 4 ∧ i = .int .i64 (j : Int) ∧ Gd w X g cap m T C ps wq ∧ wq.heap[Ab]? = some (.cells #[.bool true, .bool false] 4) ∧ wq.heap[Q]? = some (.cells (cells (deciders a T C)).toArray 32))
              (fun i _ => 4 - (intOf i).toNat)
            case atStart => exact ⟨0, by omega, rfl, HG4.out.1, HG4.out.2.1, HG4.out.2.2⟩
            case round =>
              obtain ⟨j, hj, rfl, G, hab, hq⟩ := hrel
              clear HG4
              by_cases hlt4 : j < 4
              · obtain ⟨p, hp⟩ : ∃ p, (deciders a T C)[j]? = some p := ⟨_, List.getElem?_eq_getElem (by simpa [deciders] using hlt4)⟩
                obtain ⟨pa', hhit⟩ := deciders_ok a T C p (List.mem_of_getElem? hp)
                have hx := at4_of (b := Q) (o := 0) (World.news_of_block (by exact hq)) j p (by simpa using hp)
                obtain ⟨pu, pa, pt, pc⟩ := p
                obtain ⟨y0, y1, y2, y3⟩ := hx
                rw [show 0 + 4 * j = j * 4 by omega] at y0 y1 y2 y3
                dsimp only at y0 y1 y2 y3 pa'
                subst pa'
                have x0 := G.x0
                have x1 := G.x1
                have HG := Lib.hid (And.intro G (And.intro hab hq))
                clear G hab hq hp
                go_wp2_with fail
                obtain ⟨wz, hwz⟩ : ∃ wz, wz = wr.alloc (.cells #[.string pu, .bool pa, .int .i64 pt, .int .i64 pc] 32) := ⟨_, rfl⟩
                have bz : Below wr.heap.size wr wz := by rw [hwz]; exact (Below.refl _ _).alloc (Nat.le_refl _) _
                have nz := at4_new wr 32 ⟨pu, pa, pt, pc⟩
                dsimp only at nz
                rw [← hwz] at nz ⊢
                clear hwz x0 x1 y0 y1 y2 y3
                obtain ⟨B, hB⟩ : ∃ B, B = wr.heap.size := ⟨_, rfl⟩
                rw [← hB] at nz ⊢
                have Gz := HG.out.1.after bz
                have K0 := Lib.hid (show Six X T C B pu pa pt pc wz from ⟨Gz.x0, Gz.x1, nz.c0, nz.c1, nz.c2, nz.c3⟩)
                have HZ := Lib.hid (And.intro Gz (And.intro bz hB))
                obtain ⟨pn, hpn⟩ : ∃ pn : Perm, pn = ⟨pu, pa, pt, pc⟩ := ⟨_, rfl⟩
                have HN := Lib.hid hpn
                have k0 := K0.out.1
                have k1 := K0.out.2.1
                have k2 := K0.out.2.2.1
                have k3 := K0.out.2.2.2.1
                have k4 := K0.out.2.2.2.2.1
                have k5 := K0.out.2.2.2.2.2
                have hlc : (ps.length : Int) ≤ (cap : Int) := by omega
                have hl0 : (0 : Int) ≤ (ps.length : Int) := by omega
                clear nz Gz bz hB hpn
                go_region_held3 (fun w' => w'.cell? ⟨X, 0, none⟩ = some (.int .i64 T) ∧ w'.cell? ⟨X, 1, none⟩ = some (.int .i64 C) ∧ w'.cell? ⟨B, 0, none⟩ = some (.string pu) ∧ w'.cell? ⟨B, 1, none⟩ = some (.bool pa) ∧ w'.cell? ⟨B, 2, none⟩ = some (.int .i64 pt) ∧ w'.cell? ⟨B, 3, none⟩ = some (.int .i64 pc)) (first | exact K10.out | exact K9.out | exact K0.out.alloc _ | exact K0.out)
                  (first
                    | (have h := K9; go_at_call 8; refine (may_any _ (ps ++ [pn]) ⟨#[117]⟩ T C _ H9.out.1).mono ?_; rintro _ W10 ⟨rfl, hb10⟩
                       rw [show may (ps ++ [pn]) ⟨#[117]⟩ T C = pa from (may_last ps pn U T C (by rw [HN.out]; exact hhit)).trans (by rw [HN.out])]
                       have K10 := Lib.hid (K9.out.below hb10)
                       have H10 := Lib.hid (H9.out.2.trans (hb10.mono H9.out.2.size))
                       clear h hb10)
                    | (refine step_append_full (by rfl) _ _ 25 (by rfl) 32 i0 _ 4 40 Try.underlying25 hi hz0 hz1 hz2 rfl (by omega) ⟨g, 0, none⟩ ps.length (cells ps) (by rfl) (cells_length ps) (fun j u h => cell_alloc _ (HZ.out.1.cs j u h)) ⟨wz.heap.size, 0, none⟩ 1 1 pn.cs (by rfl) (by rfl) (by rw [HN.out]; exact World.news_of_block (cs := #[.string pu, .bool pa, .int .i64 pt, .int .i64 pc]) (t := 32) (fr := (0, 0)) (World.alloc_heap_new wz.drew _)) (by omega) (by unfold maxLen; omega) (by omega) 0 (Nat.zero_le _) (wz.heap.size + 1) (by simp) ?_
                       intro cap9 W9 hown9 hgrow9 hlt9
                       have hb9 : Below wz.heap.size wz W9 := ((Below.refl wz.heap.size wz).drew.alloc (Nat.le_refl _) _).trans ((below_grown hgrow9).mono (by simp))
                       have K9 := Lib.hid (K0.out.below hb9)
                       have H9 := Lib.hid (And.intro (perms_of_row (ps := ps ++ [pn]) (by rw [List.length_append, cells_append, show cells [pn] = pn.cs by simp [cells]]; exact hown9) (by simp; omega)) hb9)
                       clear hown9 hgrow9 hb9))
                go_wp2_with fail
                go_roundw
                case rel =>
                  have hbw : Below wr.heap.size wr W10 := HZ.out.2.1.trans (H10.out.mono HZ.out.2.1.size)
                  obtain ⟨hG, hA, hQ'⟩ := HG.out
                  exact ⟨j + 1, by omega, by simp, hG.after hbw, (hbw.block _ (Array.getElem?_eq_some_iff.1 hA).1).trans hA, (hbw.block _ (Array.getElem?_eq_some_iff.1 hQ').1).trans hQ'⟩
                case measure => simp [intOf] <;> omega
              · obtain rfl : j = 4 := by omega
                have x0 := G.x0
                have x1 := G.x1
                have HG := Lib.hid (And.intro G hab)
                clear G hab hq
                have e1 : IntKind.i64.wrap (T + 1) = T + 1 := IntWalk.i64_in _ (by omega)
                have e2 : IntKind.i64.wrap (C + 1) = C + 1 := IntWalk.i64_in _ (by omega)
                have hlc : (ps.length : Int) ≤ (cap : Int) := by omega
                have hl0 : (0 : Int) ≤ (ps.length : Int) := by omega
                obtain ⟨qn, hqn⟩ : ∃ qn : List Perm, qn = [⟨⟨#[119]⟩, a, 0, -1⟩, ⟨⟨#[117]⟩, a, T + 1, -1⟩, ⟨⟨#[117]⟩, a, T, C + 1⟩] := ⟨_, rfl⟩
                have hmiss : ∀ q ∈ qn, hit U T C q = false := by
                  intro q hq
                  simp only [hqn, List.mem_cons, List.not_mem_nil, or_false] at hq
                  rcases hq with rfl | rfl | rfl
                  · exact miss_user _ _ _
                  · exact miss_table _ _ _ (by omega)
                  · exact miss_column _ _ _ C0
                have HQ := Lib.hid (And.intro hmiss hqn)
                clear hmiss hqn
                go_wp2_with fail
                go_region_held3 (fun w' => w'.cell? ⟨X, 0, none⟩ = some (.int .i64 T) ∧ w'.cell? ⟨X, 1, none⟩ = some (.int .i64 C)) (first | exact K9.out | exact ⟨cell_alloc _ x0, cell_alloc _ x1⟩ | exact ⟨x0, x1⟩)
                  (first
                    | (refine step_append_full (by rfl) _ _ 25 (by rfl) 32 i0 _ 4 40 Try.underlying25 hi hz0 hz1 hz2 rfl (by omega) ⟨g, 0, none⟩ ps.length (cells ps) (by rfl) (cells_length ps) (fun j u h => cell_alloc _ (HG.out.1.cs j u h)) ⟨wr.heap.size, 0, none⟩ 3 3 (cells qn) (by rfl) (by rw [HQ.out.2]; rfl) (by rw [HQ.out.2]; exact World.news_of_block (cs := #[.string ⟨#[119]⟩, .bool a, .int .i64 0, .int .i64 (-1), .string ⟨#[117]⟩, .bool a, .int .i64 (T + 1), .int .i64 (-1), .string ⟨#[117]⟩, .bool a, .int .i64 T, .int .i64 (C + 1)]) (t := 32) (fr := (0, 0)) (World.alloc_heap_new wr.drew _)) (by omega) (by unfold maxLen; omega) (by omega) 0 (Nat.zero_le _) (wr.heap.size + 1) (by simp) ?_
                       intro cap9 W9 hown9 hgrow9 hlt9
                       have hb9 : Below wr.heap.size wr W9 := ((Below.refl wr.heap.size wr).drew.alloc (Nat.le_refl _) _).trans ((below_grown hgrow9).mono (by simp))
                       have K9 := Lib.hid (And.intro (HG.out.1.after hb9).x0 (HG.out.1.after hb9).x1)
                       have H9 := Lib.hid (And.intro (perms_of_row (ps := ps ++ qn) (by rw [List.length_append, cells_append, show qn.length = 3 by rw [HQ.out.2]; rfl]; exact hown9) (by rw [List.length_append, show qn.length = 3 by rw [HQ.out.2]; rfl]; omega)) hb9)
                       clear hown9 hgrow9 hb9))
                go_wp2_with fail
                have HGd := Lib.hid (H9.out)
                go_region_held3 (fun w' => w'.cell? ⟨X, 0, none⟩ = some (.int .i64 T) ∧ w'.cell? ⟨X, 1, none⟩ = some (.int .i64 C)) (first | exact ⟨H11.out.x0, H11.out.x1⟩ | exact ⟨H10.out.x0, H10.out.x1⟩ | exact K9.out)
                  (first
                    | (have h := H10; go_at_call 8; refine (may_any _ ps ⟨#[117]⟩ T C _ H10.out.pl).mono ?_; rintro _ W11 ⟨rfl, hb11⟩
                       have H11 := Lib.hid (H10.out.after hb11)
                       have B11 := Lib.hid (B10.out.trans (hb11.mono B10.out.size))
                       clear h hb11)
                    | (go_at_call 8; refine (may_any _ (ps ++ qn) ⟨#[117]⟩ T C _ (by exact H9.out.1.below (Below.refl _ _).drew)).mono ?_; rintro _ W10 ⟨rfl, hb10⟩
                       rw [show may (ps ++ qn) ⟨#[117]⟩ T C = may ps ⟨#[117]⟩ T C from may_none ps qn U T C HQ.out.1]
                       have B10 := Lib.hid (H9.out.2.trans ((Below.refl _ _).drew.trans (hb10.mono H9.out.2.size)))
                       have H10 := Lib.hid (HG.out.1.after B10.out)
                       clear hb10))
                go_wp2_with fail
                refine ⟨⟨k + 1, by omega, by simp, H11.out, (B11.out.block _ (Array.getElem?_eq_some_iff.1 HG.out.2).1).trans HG.out.2⟩, ?_⟩
                simp [intOf]
                omega
          · obtain rfl : k = 2 := by omega
            have x0 := G.x0
            have x1 := G.x1
            have HG := Lib.hid (And.intro G hab)
            clear G hab
            go_wp2_with fail
            have HGd := Lib.hid (HG.out.1.after (Below.refl _ _).drew)
            go_region_held3 (fun w' => w'.cell? ⟨X, 0, none⟩ = some (.int .i64 T) ∧ w'.cell? ⟨X, 1, none⟩ = some (.int .i64 C)) (first | exact ⟨H4.x0, H4.x1⟩ | exact ⟨H3.out.x0, H3.out.x1⟩ | exact ⟨H2.out.x0, H2.out.x1⟩ | exact ⟨H1.out.x0, H1.out.x1⟩ | exact ⟨x0, x1⟩)
              (first
                | (have h := H3; go_at_call 5; refine (awake_any _).mono ?_; rintro _ W4 ⟨rfl, hb4⟩
                   have H4 := H3.out.after hb4
                   clear h hb4)
                | (have h := H2; go_at_call 8; refine (may_any _ (mine ps U) ⟨#[118]⟩ T C _ H2.out.mi).mono ?_; rintro _ W3 ⟨rfl, hb3⟩
                   rw [show may (mine ps U) ⟨#[118]⟩ T C = false from may_other ps U ⟨#[118]⟩ T C (by decide)]
                   have H3 := Lib.hid (H2.out.after hb3)
                   clear h hb3)
                | (have h := H1; go_at_call 8; refine (may_any _ ps ⟨#[117]⟩ T C _ H1.out.pl).mono ?_; rintro _ W2 ⟨rfl, hb2⟩
                   have H2 := Lib.hid (H1.out.after hb2)
                   clear h hb2)
                | (go_at_call 8; refine (may_any _ (mine ps U) ⟨#[117]⟩ T C _ HGd.out.mi).mono ?_; rintro _ W1 ⟨rfl, hb1⟩
                   rw [show may (mine ps U) ⟨#[117]⟩ T C = may ps ⟨#[117]⟩ T C from may_mine ps U T C]
                   have H1 := Lib.hid (HGd.out.after hb1)
                   clear hb1))
            go_wp2_with fail
            go_ret
            exact ⟨rfl, H4.bel⟩
  · have hd : decide ((l.length : Int) ≤ 500) = false := decide_eq_false hl
    rw [hd]
    go_wp2_with fail
    refine (awake_any w).mono ?_
    rintro _ w1 ⟨rfl, hb⟩
    go_wp2_with fail
    go_ret
    exact ⟨rfl, hb⟩
end Go.Proofs.Ytlionnncmgiifaa.acc
