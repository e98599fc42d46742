/- strings.Builder as text.Pattern uses it: WriteByte, WriteRune of an ASCII code point, String. (The shelf's writers do not fit a seat in which copyCheck's panic is refused: the same, walked over this seat.) -/
import Derived.Test.YtgmnjiiommbjaaaProg
import Derived.Test.YtgmnjiiommbjaaaBk
import Derived.Lib.FrozenHead2
import Derived.Lib.OthersKept
import Derived.Lib.Builder
import Derived.Lib.UnsafeStr
import Derived.Laws.Externs
import Derived.Laws.IdiomCopy
import Derived.Laws.BitsLemmas
set_option linter.unusedVariables false
set_option linter.unusedSimpArgs false
namespace Go.Proofs.Ytgmnjiiommbjaaa.bld
open Go.RowKit

abbrev E : TypeId := 5

theorem info_byte : (Try.prog.info? 5).map (fun i => (i.zero, i.size, i.bytes)) = some (some (.int .u8 0), 1, 1) := by kernel_rfl
end Go.Proofs.Ytgmnjiiommbjaaa.bld
