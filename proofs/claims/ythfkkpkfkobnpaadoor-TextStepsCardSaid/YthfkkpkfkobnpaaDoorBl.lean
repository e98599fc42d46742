/- text.Lines at the example "a\r\nb". -/
import Derived.Test.YthfkkpkfkobnpaaDoorBs
import Derived.Test.YthfkkpkfkobnpaaDoorShelf3
import Derived.Shelf.Strings.Search1
import Derived.Shelf.Strings.Prefix
import Derived.Deep.AppendLies
set_option linter.unusedVariables false
set_option linter.unusedSimpArgs false
namespace Go.Proofs.YthfkkpkfkobnpaaDoor.tx
open Go.RowKit Go.Proofs.YthfkkpkfkobnpaaDoor.txt

set_option maxRecDepth 100000 in
set_option maxHeartbeats 1000000 in
theorem index1 (w : World) : Calls Tryd.prog 79 #[.string ⟨#[97, 13, 10, 98]⟩, .string ⟨#[10]⟩] w fun e w' => e = .returned (.int .i64 2) ∧ w' = w := by
  have x1 : (({ data := #[10] } : ByteArray)[0]'(by decide)).toNat = 10 := rfl
  have hi := Any.stringslite_IndexByte { Tryd.lays145 with } ⟨#[97, 13, 10, 98]⟩ 10 w
  rw [show Lib.indexByte (⟨#[97, 13, 10, 98]⟩ : ByteArray).data.toList (10 : Int).toNat.toUInt8 = 2 by decide] at hi
  go_enter Tryd.func79, Tryd.ntmps79
  go_wp2_with fail
  refine hi.mono ?_
  rintro _ w1 ⟨rfl, hw⟩
  obtain rfl : w = w1 := hw.symm
  go_wp2
  go_ret
  exact ⟨rfl, rfl⟩
set_option maxRecDepth 100000 in
set_option maxHeartbeats 1000000 in
theorem index2 (w : World) : Calls Tryd.prog 79 #[.string ⟨#[98]⟩, .string ⟨#[10]⟩] w fun e w' => e = .returned (.int .i64 (-1)) ∧ w' = w := by
  have x1 : (({ data := #[10] } : ByteArray)[0]'(by decide)).toNat = 10 := rfl
  have hi := Any.stringslite_IndexByte { Tryd.lays145 with } ⟨#[98]⟩ 10 w
  rw [show Lib.indexByte (⟨#[98]⟩ : ByteArray).data.toList (10 : Int).toNat.toUInt8 = -1 by decide] at hi
  go_enter Tryd.func79, Tryd.ntmps79
  go_wp2_with fail
  refine hi.mono ?_
  rintro _ w1 ⟨rfl, hw⟩
  obtain rfl : w = w1 := hw.symm
  go_wp2
  go_ret
  exact ⟨rfl, rfl⟩

set_option maxRecDepth 100000 in
set_option maxHeartbeats 1000000 in
theorem cut1 (w : World) : Calls Tryd.prog 45 #[.string ⟨#[97, 13, 10, 98]⟩, .string ⟨#[10]⟩] w fun e w' => e = .returned (.tuple #[.string ⟨#[97, 13]⟩, .string ⟨#[98]⟩, .bool true]) ∧ Drew w w' := by
  have x1 : ({ data := #[97, 13, 10, 98] } : ByteArray).extract 0 2 = ⟨#[97, 13]⟩ := by kernel_rfl
  have x2 : ({ data := #[97, 13, 10, 98] } : ByteArray).extract 3 4 = ⟨#[98]⟩ := by kernel_rfl
  have inner : Calls Tryd.prog 65 #[.string ⟨#[97, 13, 10, 98]⟩, .string ⟨#[10]⟩] w fun e w' => e = .returned (.tuple #[.string ⟨#[97, 13]⟩, .string ⟨#[98]⟩, .bool true]) ∧ Drew w w' := by
    go_enter Tryd.func65, Tryd.ntmps65
    go_wp2_with fail
    refine (index1 w).mono ?_
    rintro _ w1 ⟨rfl, hw⟩
    obtain rfl : w = w1 := hw.symm
    go_wp2
    go_quiet (fail)
    go_wp2
    go_ret3
    exact ⟨rfl, by first | exact Drew.more _ _ | exact ⟨_, rfl⟩ | exact Drew.refl _⟩
  go_enter Tryd.func45, Tryd.ntmps45
  go_wp2_with fail
  refine inner.mono ?_
  rintro _ w1 ⟨rfl, m, rfl⟩
  go_wp2
  go_ret3
  exact ⟨rfl, by first | exact Drew.more _ _ | exact ⟨_, rfl⟩ | exact Drew.refl _⟩
set_option maxRecDepth 100000 in
set_option maxHeartbeats 1000000 in
theorem cut2 (w : World) : Calls Tryd.prog 45 #[.string ⟨#[98]⟩, .string ⟨#[10]⟩] w fun e w' => e = .returned (.tuple #[.string ⟨#[98]⟩, .string ⟨#[]⟩, .bool false]) ∧ w' = w := by
  have inner : Calls Tryd.prog 65 #[.string ⟨#[98]⟩, .string ⟨#[10]⟩] w fun e w' => e = .returned (.tuple #[.string ⟨#[98]⟩, .string ⟨#[]⟩, .bool false]) ∧ w' = w := by
    go_enter Tryd.func65, Tryd.ntmps65
    go_wp2_with fail
    refine (index2 w).mono ?_
    rintro _ w1 ⟨rfl, hw⟩
    obtain rfl : w = w1 := hw.symm
    go_wp2
    go_ret3
    exact ⟨rfl, rfl⟩
  go_enter Tryd.func45, Tryd.ntmps45
  go_wp2_with fail
  refine inner.mono ?_
  rintro _ w1 ⟨rfl, rfl⟩
  go_wp2
  go_ret3
  exact ⟨rfl, rfl⟩
theorem trim1 (w : World) : Calls Tryd.prog 46 #[.string ⟨#[97, 13]⟩, .string ⟨#[13]⟩] w fun e w' => e = .returned (.string ⟨#[97]⟩) ∧ w' = w := by
  refine (Any.strings_TrimSuffix Tryd.lays102 ⟨#[97, 13]⟩ ⟨#[13]⟩ w (by decide)).mono ?_
  rintro e w' ⟨rfl, rfl⟩
  exact ⟨rfl, rfl⟩

set_option maxRecDepth 100000 in
set_option maxHeartbeats 1000000 in
theorem lines_x (w : World) : Calls Tryd.prog 25 #[.string ⟨#[97, 13, 10, 98]⟩] w fun e w' => (∃ a cap, e = .returned (.slice a 2 cap)) ∧ Below w.heap.size w w' := by
  obtain ⟨i0, hi, hz0, hz1, hz2⟩ := info_parts tok.info_str
  go_enter Tryd.func25, Tryd.ntmps25
  go_wp2
  refine wp_loop_rounds 3 ?_
  rw [rounds_succ]
  go_wp2_with fail
  refine (cut1 _).mono ?_
  rintro _ w1 ⟨rfl, m, rfl⟩
  go_wp2_with fail
  refine (trim1 _).mono ?_
  rintro _ w2 ⟨rfl, rfl⟩
  have hbU : Below w.heap.size w (w.drewN m) := sane.below_q (Below.refl _ _) m
  obtain ⟨U, hU⟩ : ∃ U, U = w.drewN m := ⟨_, rfl⟩
  rw [← hU] at hbU ⊢
  have hUs := hbU.size
  have hn0 : U.ownsRow w.heap.size 9 1 (.slice none 0 0) 0 ([] : List Value) := World.ownsRow_nil _ _ _ _
  clear hU
  go_wp2_with (at_builtin; refine wpList_append_lies _ (by rfl) _ _ 28 (by rfl) w.heap.size 9 i0 _ 1 16 Tryd.underlying28 hi hz0 hz1 hz2 rfl (by omega) _ 0 ([] : List Value) (by rfl) (World.ownsRow.alloc hn0 _) ⟨U.heap.size, 0, none⟩ 1 1 [encStr [97]] (by rfl) (by rfl) (World.news_of_block (cs := #[encStr [97]]) (t := 9) (fr := (0, 0)) (heap_alloc_new U _)) (by simp [Value.oneCell', encStr]) (by omega) (by unfold maxLen; omega) (by omega) (by simp; omega) (U.heap.size + 1) (by simp) ?_; intro g7 cap7 w7 hown7 hgrow7 hat7 hlt7)
  have hb7 : Below w.heap.size w w7 := (hbU.alloc hUs _).grown hgrow7 (by simp; omega) (fun j e => by simp [Value.ownBlock] at e)
  have h7s := hb7.size
  rw [rounds_succ]
  go_wp2_with fail
  refine (cut2 _).mono ?_
  rintro _ w8 ⟨rfl, rfl⟩
  go_wp2_with (at_builtin; refine wpList_append_lies _ (by rfl) _ _ 28 (by rfl) w.heap.size 9 i0 _ 1 16 Tryd.underlying28 hi hz0 hz1 hz2 rfl (by omega) _ 1 ([] ++ [encStr [97]]) (by rfl) (World.ownsRow.alloc hown7 _) ⟨w8.heap.size, 0, none⟩ 1 1 [encStr [98]] (by rfl) (by rfl) (World.news_of_block (cs := #[encStr [98]]) (t := 9) (fr := (0, 0)) (heap_alloc_new w8 _)) (by simp [Value.oneCell', encStr]) (by omega) (by unfold maxLen; omega) (by omega) (by simp; omega) (w8.heap.size + 1) (by simp) ?_; intro g9 cap9 w9 hown9 hgrow9 hat9 hlt9)
  have hb9 : Below w.heap.size w w9 := (hb7.alloc h7s _).grown hgrow9 (by simp; omega) (fun j e => (hown7.lt j e).1)
  rw [rounds_succ]
  go_wp2
  go_ret
  exact ⟨⟨_, _, rfl⟩, hb9⟩
end Go.Proofs.YthfkkpkfkobnpaaDoor.tx
