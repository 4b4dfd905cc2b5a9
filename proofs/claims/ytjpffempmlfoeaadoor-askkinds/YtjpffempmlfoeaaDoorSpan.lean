/- What each function of package span answers, for every argument: the contracts of chapter 4's code. A span comes as a value and is laid into memory by the code: nothing that was there before is changed. -/
import Derived.Test.YtjpffempmlfoeaaDoorFix1
import Derived.Test.YtjpffempmlfoeaaDoorMathS
import Derived.Test.YtjpffempmlfoeaaDoorJunk
import Derived.Deep.RegionWith
namespace Go.Proofs.YtjpffempmlfoeaaDoor
open Go.RowKit M

abbrev spanV (x y : Int) : Value := .agg #[.int .i64 x, .int .i64 y]

theorem wrap_i64_in {n : Int} (h1 : -9223372036854775808 ≤ n) (h2 : n ≤ 9223372036854775807) : IntKind.i64.wrap n = n := by
  rw [IntKind.wrap_i64]; omega













end Go.Proofs.YtjpffempmlfoeaaDoor
