/- What the document's own Unpack (copseref6, chapter 6) answers, for every word: the same words as the contract of the code. -/
import Derived.Test.YtndnijdpafcmoaaRefNode
namespace Go.Proofs.Ytndnijdpafcmoaa
open Go.RowKit M







theorem and_low (x : Int) (p k : Nat) (q : Int) (hf : fieldB (p : Int) (k : Int) = true) (hq : lowI (k : Int) = q) (hx : 0 ≤ x) (hx2 : x ≤ 18446744073709551615) : bits .and .u64 (x / 2 ^ p) q = x / 2 ^ p % 2 ^ k := by
  subst hq
  have := get_val (a := (p : Int)) hx hx2 hf
  rw [M.get_at x p k hf hx] at this
  simpa using this

end Go.Proofs.Ytndnijdpafcmoaa
