/- The mill's Number (its text bears no end of a line). -/
import Derived.Test.YthfkkpkfkobnpaaDoorBy
import Derived.Test.YthfkkpkfkobnpaaDoorShelf4
import Derived.Lib.ItoaNum
import Derived.Lib.ItoaLen
import Derived.Shelf.Strconv.Itoa1
import Derived.Deep.Cut
import Derived.Deep.DeepCutAuto
import Derived.Deep.RegionWith
import Derived.Outline
set_option linter.unusedVariables false
set_option linter.unusedSimpArgs false
namespace Go.Proofs.YthfkkpkfkobnpaaDoor.bn
open Go.RowKit Go.Proofs.YthfkkpkfkobnpaaDoor.mill

/-- no byte of an end of a line -/
def Pl (t : ByteArray) : Prop := ∀ b ∈ t.data.toList, b ≠ 10 ∧ b ≠ 13
theorem pl_append {a b : ByteArray} (ha : Pl a) (hb : Pl b) : Pl (a ++ b) := by
  intro x hx
  rw [ByteArray.data_append, Array.toList_append] at hx
  exact (List.mem_append.1 hx).elim (ha x) (hb x)
theorem pl_extract {a : ByteArray} (ha : Pl a) (i j : Nat) : Pl (a.extract i j) := by
  intro x hx
  rw [ByteArray.data_extract, Array.toList_extract] at hx
  exact ha x (List.mem_of_mem_drop (List.mem_of_mem_take hx))

set_option maxRecDepth 100000 in
theorem itoa_small (w : World) (n : Nat) (hn : n < 100) :
    Calls Tryd.prog 51 #[.int .i64 (n : Int)] w fun e w' => e = .returned (.string ⟨(Lib.decDigits n).toArray⟩) ∧ w = w' := by
  have hz : (n : Int) < 100 := by omega
  have hz0 : (0 : Int) ≤ (n : Int) := by omega
  have h1 : Calls Tryd.prog 92 #[.int .i64 (n : Int), .int .i64 10] w fun e w' => e = .returned (.string ⟨(Lib.decDigits n).toArray⟩) ∧ w = w' := by
    go_enter Tryd.func92, Tryd.ntmps92
    go_wp2_with (go_at_call 103; refine (Any.internal_strconv_small Tryd.lays283 n hn _).mono ?_; rintro e w' ⟨rfl, rfl⟩)
    go_ret
    exact ⟨rfl, rfl⟩
  have h2 : Calls Tryd.prog 69 #[.int .i64 (n : Int)] w fun e w' => e = .returned (.string ⟨(Lib.decDigits n).toArray⟩) ∧ w = w' := by
    go_enter Tryd.func69, Tryd.ntmps69
    go_wp2_with (go_at_call 92; refine h1.mono ?_; rintro e w' ⟨rfl, rfl⟩)
    go_ret
    exact ⟨rfl, rfl⟩
  go_enter Tryd.func51, Tryd.ntmps51
  go_wp2_with (go_at_call 69; refine h2.mono ?_; rintro e w' ⟨rfl, rfl⟩)
  go_ret
  exact ⟨rfl, rfl⟩

def signs : Array Value := #[.string ⟨#[]⟩, .string ⟨#[]⟩, .string ⟨#[]⟩, .string ⟨#[45]⟩, .string ⟨#[43]⟩]
theorem sign_at (v : Nat) (h : v < 5) : ∃ s : ByteArray, signs[v]? = some (.string s) ∧ s.size ≤ 1 ∧ Pl s := by
  rcases v with _ | _ | _ | _ | _ | v
  all_goals first | exact ⟨_, rfl, by decide, by unfold Pl; decide⟩ | omega

theorem digits_pl (n : Nat) (hn : n < 100) : ∀ b ∈ Lib.decDigits n, b ≠ 10 ∧ b ≠ 13 := by
  have h : ∀ n : Fin 100, ∀ b ∈ Lib.decDigits n.val, b ≠ 10 ∧ b ≠ 13 := by decide +kernel
  exact h ⟨n, hn⟩

theorem itoa_some (w : World) (n : Nat) (hn : n < 100) :
    Calls Tryd.prog 51 #[.int .i64 (n : Int)] w fun e w' => ∃ t : ByteArray, e = .returned (.string t) ∧ 1 ≤ t.size ∧ t.size ≤ 2 ∧ Pl t ∧ w = w' := by
  refine (itoa_small w n hn).mono ?_
  rintro _ _ ⟨rfl, rfl⟩
  refine ⟨_, rfl, ?_, ?_, digits_pl n hn, rfl⟩
  · show 1 ≤ (Lib.decDigits n).toArray.size
    rw [List.size_toArray]
    by_cases h : n < 10
    · rw [Lib.decDigits_one h]; simp
    · rw [Lib.decDigits_two (by omega) hn]; simp
  · show (Lib.decDigits n).toArray.size ≤ 2
    rw [List.size_toArray]
    by_cases h : n < 10
    · rw [Lib.decDigits_one h]; simp
    · rw [Lib.decDigits_two (by omega) hn]; simp

theorem DiceAt.drew {w : World} {g : Nat} {l : List Nat} {k : Nat} (D : DiceAt w g l k) : DiceAt w.drew g l k := D.after (Below.refl _ _).drew

theorem sign_get {v : Nat} {s : ByteArray} (h : v < 5) (hs : signs[v]? = some (.string s)) : ([.string ⟨#[]⟩, .string ⟨#[]⟩, .string ⟨#[]⟩, .string ⟨#[45]⟩, .string ⟨#[43]⟩] : List Value)[v]'(by simpa using h) = .string s := by
  have h2 : ([.string ⟨#[]⟩, .string ⟨#[]⟩, .string ⟨#[]⟩, .string ⟨#[45]⟩, .string ⟨#[43]⟩] : List Value)[v]? = some (.string s) := by rw [← hs]; unfold signs; simp
  rw [List.getElem?_eq_getElem (by simpa using h)] at h2
  exact Option.some.inj h2
def sg : Obj := .cells signs 9
theorem sign_new (w : World) {v : Nat} {s : ByteArray} (h : signs[v]? = some (.string s)) : (w.alloc (.cells signs 9)).cell? ⟨w.heap.size, v, none⟩ = some (.string s) := by
  rw [World.cell?_alloc_new]
  exact h
theorem sign_kept {w W : World} {g : Nat} {l : List Nat} {k v : Nat} {s : ByteArray} (D : DiceAt w g l k) (h : signs[v]? = some (.string s)) (K : Kept g (w.alloc (.cells signs 9)) W) : W.cell? ⟨w.heap.size, v, none⟩ = some (.string s) := by
  have hlt := D.lt
  exact (K.cell (p := ⟨w.heap.size, v, none⟩) (by simp) (by show w.heap.size ≠ g; omega)).trans (sign_new w h)
theorem Kept.undrew {g : Nat} {w W : World} (K : Kept g w.drew W) : Kept g w W := ⟨(Below.refl _ _).drew.trans K.bel, K.other, K.words⟩
theorem sign_cell {w W : World} {g : Nat} {l : List Nat} {k v : Nat} {s : ByteArray} (D : DiceAt w g l k) (h : signs[v]? = some (.string s)) (K : Kept g (w.alloc (.cells signs 9)).drew W) : W.cell? ⟨w.heap.size, v, none⟩ = some (.string s) :=
  sign_kept D h (Kept.undrew K)
theorem Kept.sg {g : Nat} {l : List Nat} {k : Nat} {w : World} (D : DiceAt w g l k) : Kept g w (w.alloc (.cells signs 9)) := Kept.of_below ((Below.refl _ _).alloc (Nat.le_refl _) _) (Nat.le_of_lt D.lt)
theorem DiceAt.sg {g : Nat} {l : List Nat} {k : Nat} {w : World} (D : DiceAt w g l k) : DiceAt (w.alloc (.cells signs 9)) g l k := D.after ((Below.refl _ _).alloc (Nat.le_refl _) _)

def parts : Array Value := #[.string ⟨#[53]⟩, .string ⟨#[53, 48]⟩, .string ⟨#[48]⟩, .string ⟨#[49, 50, 53]⟩, .string ⟨#[48, 48, 55]⟩, .string ⟨#[48, 48, 48, 48, 48, 48, 48, 48, 49]⟩]
theorem part_at (v : Nat) (h : v < 6) : ∃ s : ByteArray, parts[v]? = some (.string s) ∧ s.size ≤ 9 ∧ Pl s := by
  rcases v with _ | _ | _ | _ | _ | _ | v
  all_goals first | exact ⟨_, rfl, by decide, by unfold Pl; decide⟩ | omega
theorem DiceAt.parts {g : Nat} {l : List Nat} {k : Nat} {w : World} (D : DiceAt w g l k) : DiceAt (w.alloc (.cells parts 9)) g l k := D.after ((Below.refl _ _).alloc (Nat.le_refl _) _)
theorem part_kept {w W : World} {g : Nat} {l : List Nat} {k v : Nat} {s : ByteArray} (D : DiceAt w g l k) (h : parts[v]? = some (.string s)) (K : Kept g (w.alloc (.cells parts 9)) W) : W.cell? ⟨w.heap.size, v, none⟩ = some (.string s) := by
  have hlt := D.lt
  refine (K.cell (p := ⟨w.heap.size, v, none⟩) (by simp) (by show w.heap.size ≠ g; omega)).trans ?_
  rw [World.cell?_alloc_new]
  exact h

/-- What Number answers. -/
def Numeral (g : Nat) (l : List Nat) (w : World) (e : Ending) (w' : World) : Prop :=
  ∃ (t : ByteArray) (k' : Nat), e = .returned (.string t) ∧ 1 ≤ t.size ∧ t.size ≤ 40 ∧ Pl t ∧ DiceAt w' g l k' ∧ Kept g w w'

set_option maxRecDepth 100000 in
set_option maxHeartbeats 4000000 in
theorem number_any (w : World) (g : Nat) (l : List Nat) (k : Nat) (D : DiceAt w g l k) :
    Calls Tryd.prog 34 #[.pointer (some ⟨g, 0, none⟩)] w (Numeral g l w) := by
  go_enter Tryd.func34, Tryd.ntmps34
  go_upto_region 1 with fail
  go_cut [3] (fun s3 wx => ∃ (t : ByteArray) (k' : Nat), s3 = .string t ∧ 1 ≤ t.size ∧ t.size ≤ 3 ∧ Pl t ∧ DiceAt wx g l k' ∧ Kept g w wx)
  case first =>
    go_region_with (first
      | (go_at_call 51; refine (itoa_some _ v2 (by omega)).mono ?_; rintro _ _ ⟨t2, rfl, ht2, ht3, hpl2, rfl⟩)
      | (go_at_call 9; refine (pick_some _ g 40 l k1 (by first | exact hD1 | exact DiceAt.sg hD1) (by decide) (by decide)).mono ?_; rintro _ W2 ⟨v2, k2, rfl, hv2, hD2, hK2⟩
         first
           | have c2 := sign_cell D hs1 (hK1.trans hK2)
           | have c2 := sign_kept hD1 hs1 hK2
           | have c2 := sign_new W2 hs1)
      | (go_at_call 9; refine (pick_some _ g 5 l k (by first | exact DiceAt.drew D | exact DiceAt.drew (DiceAt.sg D)) (by decide) (by decide)).mono ?_; rintro _ W1 ⟨v1, k1, rfl, hv1, hD1, hK1⟩
         have hz1 : (v1 : Int) < 5 := by omega
         obtain ⟨s1, hs1, hl1, hpl1⟩ := sign_at v1 hv1
         have g1 := sign_get hv1 hs1
         first | have c1 := sign_cell D hs1 hK1 | have c1 := sign_new W1 hs1))
    all_goals (go_wp2_with fail)
    all_goals go_meet
    all_goals exact ⟨s1 ++ t2, k2, rfl, by rw [ByteArray.size_append]; omega, by rw [ByteArray.size_append]; omega, pl_append hpl1 hpl2, (by first | exact hD2 | exact DiceAt.sg hD2),
      (by first | exact ((Kept.sg D).trans (Kept.undrew hK1)).trans hK2 | exact ((Kept.undrew hK1).trans (Kept.sg hD1)).trans hK2 | exact ((Kept.undrew hK1).trans hK2).trans (Kept.sg hD2))⟩
  case rest =>
  obtain ⟨t, k1, rfl, ht1, ht2, hpt, hD1, hK1⟩ := hcut
  have HPT := Lib.hid hpt
  clear hpt
  have HK1 := Lib.hid hK1
  clear D hK1
  go_wp2_with fail
  refine (pick_some wc g 3 l k1 hD1 (by decide) (by decide)).mono ?_
  rintro _ W2 ⟨v2, k2, rfl, hv2, hD2, hK2⟩
  have HK2 := Lib.hid (HK1.out.trans hK2)
  clear HK1 hK2 hD1
  go_upto_if 15 with fail
  go_cut [3] (fun s3 wx => ∃ (t : ByteArray), s3 = .string t ∧ 1 ≤ t.size ∧ t.size ≤ 4 ∧ Pl t ∧ W2 = wx)
  case first =>
    by_cases hv0 : v2 = 0
    · subst hv0
      go_upto_region 4 with fail
      obtain ⟨u, hu⟩ : ∃ u : ByteArray, u = ⟨#[48]⟩ ++ t := ⟨_, rfl⟩
      have hus : u.size = t.size + 1 := by rw [hu, ByteArray.size_append]; show 1 + t.size = _; omega
      have hu1 : 2 ≤ u.size := by omega
      have hu2 : u.size ≤ 4 := by omega
      have HU := Lib.hid (show Pl u by rw [hu]; exact pl_append (by unfold Pl; decide) HPT.out)
      rw [← hu]
      clear hu hus ht1 ht2 hv2
      have hin : 1 < u.size := by omega
      have hz0 : (1 : Int) < (u.size : Int) := by omega
      have hz1 : (1 : Int) ≤ (u.size : Int) := by omega
      have he : (u.extract 1 u.size).size = u.size - 1 := by rw [ByteArray.size_extract]; omega
      have HE := Lib.hid he
      clear he
      obtain ⟨x, hx⟩ : ∃ x : UInt8, u[1] = x := ⟨_, rfl⟩
      go_wp2_with fail
      all_goals go_meet
      all_goals first
        | exact ⟨u, rfl, by omega, hu2, HU.out, rfl⟩
        | exact ⟨u.extract 1 u.size, rfl, by rw [HE.out]; omega, by rw [HE.out]; omega, pl_extract HU.out _ _, rfl⟩
    · have hz0 : ((v2 : Int) == 0) = false := beq_eq_false_iff_ne.2 (by omega)
      go_wp2_with fail
      go_meet
      exact ⟨t, rfl, ht1, by omega, HPT.out, rfl⟩
  case rest =>
  obtain ⟨t, rfl, ht1, ht2, hpt, rfl⟩ := hcut
  clear HPT
  have HPT := Lib.hid hpt
  clear hpt
  go_wp2_with fail
  refine (pick_some W2 g 3 l k2 hD2 (by decide) (by decide)).mono ?_
  rintro _ W3 ⟨v3, k3, rfl, hv3, hD3, hK3⟩
  have HK3 := Lib.hid (HK2.out.trans hK3)
  clear HK2 hK3 hD2
  by_cases hv0 : v3 = 0
  · subst hv0
    go_upto_region 7 with fail
    go_wp2_with fail
    refine (pick_some _ g 6 l k3 (DiceAt.parts hD3) (by decide) (by decide)).mono ?_
    rintro _ W4 ⟨v4, k4, rfl, hv4, hD4, hK4⟩
    obtain ⟨s4, hs4, hl4, hp4⟩ := part_at v4 hv4
    have HP4 := Lib.hid hp4
    clear hp4
    have c4 := part_kept hD3 hs4 hK4
    have HK4 := Lib.hid (HK3.out.trans ((Kept.of_below ((Below.refl _ _).alloc (Nat.le_refl _) _) (Nat.le_of_lt hD3.lt)).trans hK4))
    have hz4 : (v4 : Int) < 6 := by omega
    clear HK3 hK4 hD3 hs4
    go_wp2_with fail
    go_ret
    exact ⟨_, k4, rfl, by simp only [ByteArray.size_append]; omega, by simp only [ByteArray.size_append]; have : (⟨#[46]⟩ : ByteArray).size = 1 := rfl; omega, pl_append HPT.out (pl_append (by unfold Pl; decide) HP4.out), hD4, HK4.out⟩
  · have hz0 : ((v3 : Int) == 0) = false := beq_eq_false_iff_ne.2 (by omega)
    go_wp2_with fail
    go_ret
    exact ⟨t, k3, rfl, ht1, by omega, HPT.out, hD3, HK3.out⟩

end Go.Proofs.YthfkkpkfkobnpaaDoor.bn
