/- What Add and Sub of package fix answer, for every argument (package fix's contracts, for a program that holds these two alone). -/
import Derived.Test.YtkkbeobocbgmeaaBase
import Derived.Test.YtkkbeobocbgmeaaMathF
namespace Go.Proofs.Ytkkbeobocbgmeaa
open Go.RowKit M



end Go.Proofs.Ytkkbeobocbgmeaa
