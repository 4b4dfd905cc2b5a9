/- What Add and Sub of package fix answer, for every argument (package fix's contracts, for a program that holds these two alone). -/
import Derived.Test.YtndnijdpafcmoaaBase
import Derived.Test.YtndnijdpafcmoaaMathF
namespace Go.Proofs.Ytndnijdpafcmoaa
open Go.RowKit M



end Go.Proofs.Ytndnijdpafcmoaa
