/- What Add and Sub of package fix answer, for every argument (package fix's contracts, for a program that holds these two alone). -/
import Derived.Test.YtmfmiflifebflaaBase
import Derived.Test.YtmfmiflifebflaaMathF
namespace Go.Proofs.Ytmfmiflifebflaa
open Go.RowKit M



end Go.Proofs.Ytmfmiflifebflaa
