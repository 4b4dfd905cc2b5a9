/- The contracts of package box once more, each a word of its own with the answer a letter. -/
import Derived.Test.YtkkbeobocbgmeaaBoxA
import Derived.Test.YtkkbeobocbgmeaaJunk
namespace Go.Proofs.Ytkkbeobocbgmeaa
open Go.RowKit M

abbrev ptO (p : Pt) : Obj := .cells #[.int .i64 p.a, .int .i64 p.b, .int .i64 p.c, .int .i64 p.d] 52
theorem a_has {x : Bx} {p : Pt} {tw : Int} {b : Bool} (h : x.has p tw = b) : Ans 20 #[boxV x, ptV p, .int .i64 tw] (.bool b) := fun w => h ▸ bhas_any x p tw w
theorem a_inn {x y : Bx} {b : Bool} (h : x.inn y = b) : Ans 18 #[boxV x, boxV y] (.bool b) := fun w => h ▸ bwithin_any x y w
theorem a_em {x : Bx} {b : Bool} (h : x.em = b) : Ans 19 #[boxV x] (.bool b) := fun w => h ▸ bempty_any x w
theorem a_low {x : Bx} {p : Pt} (h : x.lowest = p) : Ans 28 #[boxV x] (ptV p) := fun w => h ▸ blow_any x w

end Go.Proofs.Ytkkbeobocbgmeaa
