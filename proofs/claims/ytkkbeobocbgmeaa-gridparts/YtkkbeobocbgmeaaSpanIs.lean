/- The contracts of package span once more, the answer a letter: for regions that draw their order. -/
import Derived.Test.YtkkbeobocbgmeaaSpan
namespace Go.Proofs.Ytkkbeobocbgmeaa
open Go.RowKit M

theorem empty_is {x y : Int} {b : Bool} (h : emB x y = b) (w : World) : Calls Try.prog 35 #[spanV x y] w fun e w' => e = .returned (.bool b) ∧ Jk w w' := h ▸ empty_any x y w

theorem has_is {x y n : Int} {b : Bool} (h : hasB x y n = b) (w : World) : Calls Try.prog 36 #[spanV x y, .int .i64 n] w fun e w' => e = .returned (.bool b) ∧ Jk w w' := h ▸ has_any x y n w

theorem meet_is {a b c d u v : Int} (h : mLo a b c d = u ∧ mHi a b c d = v) (w : World) : Calls Try.prog 56 #[spanV a b, spanV c d] w fun e w' => e = .returned (spanV u v) ∧ Jk w w' := by
  obtain ⟨rfl, rfl⟩ := h
  exact meet_any a b c d w

theorem inn_is {a b c d : Int} {o : Bool} (h : inB a b c d = o) (w : World) : Calls Try.prog 34 #[spanV a b, spanV c d] w fun e w' => e = .returned (.bool o) ∧ Jk w w' := h ▸ within_span a b c d w

end Go.Proofs.Ytkkbeobocbgmeaa
