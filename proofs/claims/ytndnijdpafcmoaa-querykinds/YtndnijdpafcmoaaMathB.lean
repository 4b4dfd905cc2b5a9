/- Plain mathematics of chapter 5 (boxes: a span for each of five places): no program is spoken of here, so this text has no conditions on one. -/
import Derived.Test.YtndnijdpafcmoaaMathS
namespace Go.Proofs.Ytndnijdpafcmoaa.M

/-- a span: two ends -/
structure Sp where
  lo : Int
  hi : Int
/-- a box: four features' spans, and the second's -/
structure Bx where
  a : Sp
  b : Sp
  c : Sp
  d : Sp
  e : Sp
/-- a point: four numbers -/
structure Pt where
  a : Int
  b : Int
  c : Int
  d : Int

/-- an int of Go -/
def I64 (x : Int) : Prop := -9223372036854775808 ≤ x ∧ x ≤ 9223372036854775807
def Sp.ok (s : Sp) : Prop := I64 s.lo ∧ I64 s.hi
def Bx.ok (x : Bx) : Prop := x.a.ok ∧ x.b.ok ∧ x.c.ok ∧ x.d.ok ∧ x.e.ok
def Pt.ok (p : Pt) : Prop := I64 p.a ∧ I64 p.b ∧ I64 p.c ∧ I64 p.d

def Sp.em (s : Sp) : Bool := emB s.lo s.hi
def Sp.has (s : Sp) (n : Int) : Bool := hasB s.lo s.hi n
def Sp.inn (s t : Sp) : Bool := inB s.lo s.hi t.lo t.hi
def Sp.meet (s t : Sp) : Sp := ⟨mLo s.lo s.hi t.lo t.hi, mHi s.lo s.hi t.lo t.hi⟩
def Sp.low (s : Sp) (t : Int) : Sp := ⟨lLo s.lo s.hi t, lHi s.lo s.hi t⟩
def Sp.upp (s : Sp) (t : Int) : Sp := ⟨uLo s.lo s.hi t, uHi s.lo s.hi t⟩
def Sp.eqB (s t : Sp) : Bool := (s.lo == t.lo) && (s.hi == t.hi)

def Bx.em (x : Bx) : Bool := x.a.em || x.b.em || x.c.em || x.d.em || x.e.em
def Bx.has (x : Bx) (p : Pt) (t : Int) : Bool := x.a.has p.a && x.b.has p.b && x.c.has p.c && x.d.has p.d && x.e.has t
def Bx.meet (x y : Bx) : Bx := ⟨x.a.meet y.a, x.b.meet y.b, x.c.meet y.c, x.d.meet y.d, x.e.meet y.e⟩
def Bx.inn (x y : Bx) : Bool := x.em || (x.a.inn y.a && x.b.inn y.b && x.c.inn y.c && x.d.inn y.d && x.e.inn y.e)
def Bx.lowest (x : Bx) : Pt := ⟨x.a.lo, x.b.lo, x.c.lo, x.d.lo⟩
/-- the span at a place (0 to 4) -/
def Bx.at (x : Bx) (k : Int) : Sp := if k = 0 then x.a else if k = 1 then x.b else if k = 2 then x.c else if k = 3 then x.d else x.e
/-- another span at a place -/
def Bx.put (x : Bx) (k : Int) (s : Sp) : Bx :=
  if k = 0 then { x with a := s } else if k = 1 then { x with b := s } else if k = 2 then { x with c := s } else if k = 3 then { x with d := s } else if k = 4 then { x with e := s } else x
/-- the parts of a cut; of no place the box itself -/
def Bx.low (x : Bx) (k t : Int) : Bx := x.put k ((x.at k).low t)
def Bx.upp (x : Bx) (k t : Int) : Bx := x.put k ((x.at k).upp t)
def Sp.nil : Sp := ⟨0, 0⟩
def Bx.nil : Bx := ⟨Sp.nil, Sp.nil, Sp.nil, Sp.nil, Sp.nil⟩
def Bx.whole (k : Int) (s : Sp) : Bx := ⟨if 1 ≤ k then s else Sp.nil, if 2 ≤ k then s else Sp.nil, if 3 ≤ k then s else Sp.nil, if 4 ≤ k then s else Sp.nil, Sp.nil⟩

end Go.Proofs.Ytndnijdpafcmoaa.M
