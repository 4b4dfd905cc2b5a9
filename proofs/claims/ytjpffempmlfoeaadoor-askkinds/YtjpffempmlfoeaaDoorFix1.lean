/- What Add and Sub of package fix answer, for every argument (package fix's contracts, for a program that holds these two alone). -/
import Derived.Test.YtjpffempmlfoeaaDoorBase
import Derived.Test.YtjpffempmlfoeaaDoorMathF
namespace Go.Proofs.YtjpffempmlfoeaaDoor
open Go.RowKit M



end Go.Proofs.YtjpffempmlfoeaaDoor
