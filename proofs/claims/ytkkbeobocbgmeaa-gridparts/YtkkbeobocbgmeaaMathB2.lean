/- Plain mathematics of chapter 5, second part: when two boxes are the same. No program is spoken of here. -/
import Derived.Test.YtkkbeobocbgmeaaMathB
namespace Go.Proofs.Ytkkbeobocbgmeaa.M

def Bx.eqB (x y : Bx) : Bool := x.a.eqB y.a && x.b.eqB y.b && x.c.eqB y.c && x.d.eqB y.d && x.e.eqB y.e
theorem Sp.eqB_iff {s t : Sp} : s.eqB t = true ↔ s = t := by
  cases s; cases t; simp [Sp.eqB]
theorem Bx.eqB_iff {x y : Bx} : x.eqB y = true ↔ x = y := by
  cases x; cases y; simp [Bx.eqB, Sp.eqB_iff, and_assoc]
theorem Bx.eqB_self (x : Bx) : x.eqB x = true := Bx.eqB_iff.2 rfl
theorem Bx.eqB_no {x y : Bx} (h : ¬ x = y) : x.eqB y = false := by
  cases e : x.eqB y
  · rfl
  · exact absurd (Bx.eqB_iff.1 e) h

end Go.Proofs.Ytkkbeobocbgmeaa.M
