/- What the document's own Walk and Value (copseref6, chapter 7) answer: the same words as the contracts of the code. -/
import Derived.Test.YtfabodbcdnmpmaaGreatDoorTreeA
import Derived.Test.YtfabodbcdnmpmaaGreatDoorRefNode3
namespace Go.Proofs.YtfabodbcdnmpmaaGreatDoor
open Go.RowKit M

end Go.Proofs.YtfabodbcdnmpmaaGreatDoor
