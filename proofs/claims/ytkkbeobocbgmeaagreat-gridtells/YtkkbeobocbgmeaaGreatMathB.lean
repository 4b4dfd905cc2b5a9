/- Plain mathematics of chapter 4 (spans: all whole numbers from one to another): no program is spoken of here, so this text has no conditions on one.
   Plain mathematics of chapter 5 (boxes: a span for each of five places): no program is spoken of here, so this text has no conditions on one.
   Plain mathematics of chapter 5, second part: when two boxes are the same. No program is spoken of here. -/
import Derived.Test.YtkkbeobocbgmeaaGreatMathF
namespace Go.Proofs.YtkkbeobocbgmeaaGreat.M

/-! a span is two numbers, its ends -/
def emB (x y : Int) : Bool := decide (y < x)
def hasB (x y n : Int) : Bool := decide (x ≤ n ∧ n ≤ y)
def inB (a b c d : Int) : Bool := decide (b < a ∨ (c ≤ a ∧ b ≤ d))
/-- the ends of where two meet -/
def mLo (a b c d : Int) : Int := if min b d < max a c then 1 else max a c
def mHi (a b c d : Int) : Int := if min b d < max a c then 0 else min b d
/-- a span, or the one empty span in its place -/
def oLo (x y : Int) : Int := if y < x then 1 else x
def oHi (x y : Int) : Int := if y < x then 0 else y
theorem o_m (a b c d x y : Int) (hx : x = max a c) (hy : y = min b d) : oLo x y = mLo a b c d ∧ oHi x y = mHi a b c d := by
  subst hx hy; exact ⟨rfl, rfl⟩
/-- how many numbers it has -/
def szI (a b : Int) : Int := if b < a then 0 else b - a + 1

theorem em_yes {x y : Int} (h : y < x) : emB x y = true := by simp [emB, h]
theorem em_no {x y : Int} (h : ¬ y < x) : emB x y = false := by simp [emB]; omega
theorem m_bd {a b c d : Int} (a1 : -9223372036854775808 ≤ a) (a2 : a ≤ 9223372036854775807) (b1 : -9223372036854775808 ≤ b) (b2 : b ≤ 9223372036854775807)
    (c1 : -9223372036854775808 ≤ c) (c2 : c ≤ 9223372036854775807) (d1 : -9223372036854775808 ≤ d) (d2 : d ≤ 9223372036854775807) :
    -9223372036854775808 ≤ mLo a b c d ∧ mLo a b c d ≤ 9223372036854775807 ∧ -9223372036854775808 ≤ mHi a b c d ∧ mHi a b c d ≤ 9223372036854775807 := by
  unfold mLo mHi
  split <;> omega

/-! the two parts of a cut -/
def lLo (a b t : Int) : Int := if min b t < a then 1 else a
def lHi (a b t : Int) : Int := if min b t < a then 0 else min b t
def uLo (a b t : Int) : Int := if b < max a (t + 1) then 1 else max a (t + 1)
def uHi (a b t : Int) : Int := if b < max a (t + 1) then 0 else b
theorem cut_told (a b t : Int) (a1 : -9223372036854775808 ≤ a) (b2 : b ≤ 9223372036854775807) : lLo a b t = mLo a b (-9223372036854775808) t ∧ lHi a b t = mHi a b (-9223372036854775808) t ∧
    uLo a b t = mLo a b (t + 1) 9223372036854775807 ∧ uHi a b t = mHi a b (t + 1) 9223372036854775807 := by
  unfold lLo lHi uLo uHi mLo mHi
  rw [Int.max_eq_left a1, Int.min_eq_left b2]
  exact ⟨rfl, rfl, rfl, rfl⟩
theorem cut_told_far (a b : Int) (b2 : b ≤ 9223372036854775807) : uLo a b 9223372036854775807 = 1 ∧ uHi a b 9223372036854775807 = 0 := by
  unfold uLo uHi
  rw [if_pos (by omega), if_pos (by omega)]
  exact ⟨rfl, rfl⟩
theorem cut_bd {a b t : Int} (a1 : -9223372036854775808 ≤ a) (a2 : a ≤ 9223372036854775807) (b1 : -9223372036854775808 ≤ b) (b2 : b ≤ 9223372036854775807)
    (t1 : -9223372036854775808 ≤ t) (t2 : t ≤ 9223372036854775807) :
    (-9223372036854775808 ≤ lLo a b t ∧ lLo a b t ≤ 9223372036854775807 ∧ -9223372036854775808 ≤ lHi a b t ∧ lHi a b t ≤ 9223372036854775807) ∧
    (-9223372036854775808 ≤ uLo a b t ∧ uLo a b t ≤ 9223372036854775807 ∧ -9223372036854775808 ≤ uHi a b t ∧ uHi a b t ≤ 9223372036854775807) := by
  unfold lLo lHi uLo uHi
  constructor <;> split <;> omega

/-! what chapter 4 promises of a cut -/
theorem l_has (a b t n : Int) : hasB (lLo a b t) (lHi a b t) n = (hasB a b n && decide (n ≤ t)) := by
  unfold lLo lHi hasB
  rw [Bool.eq_iff_iff]
  simp only [Bool.and_eq_true, decide_eq_true_eq]
  split <;> omega
theorem u_has (a b t n : Int) : hasB (uLo a b t) (uHi a b t) n = (hasB a b n && decide (t < n)) := by
  unfold uLo uHi hasB
  rw [Bool.eq_iff_iff]
  simp only [Bool.and_eq_true, decide_eq_true_eq]
  split <;> omega
theorem l_one (a b t : Int) (h : emB (lLo a b t) (lHi a b t) = true) : lLo a b t = 1 ∧ lHi a b t = 0 := by
  revert h
  unfold lLo lHi emB
  split <;> simp <;> omega
theorem u_one (a b t : Int) (h : emB (uLo a b t) (uHi a b t) = true) : uLo a b t = 1 ∧ uHi a b t = 0 := by
  revert h
  unfold uLo uHi emB
  split <;> simp <;> omega
theorem l_in (a b t : Int) : inB (lLo a b t) (lHi a b t) a b = true := by
  unfold lLo lHi inB
  split <;> simp <;> omega
theorem u_in (a b t : Int) : inB (uLo a b t) (uHi a b t) a b = true := by
  unfold uLo uHi inB
  split <;> simp <;> omega
theorem lu_none (a b t : Int) : emB (mLo (lLo a b t) (lHi a b t) (uLo a b t) (uHi a b t)) (mHi (lLo a b t) (lHi a b t) (uLo a b t) (uHi a b t)) = true := by
  have h1 : lLo a b t = 1 ∧ lHi a b t = 0 ∨ lLo a b t = a ∧ lHi a b t ≤ t := by
    unfold lLo lHi; split
    · exact .inl ⟨rfl, rfl⟩
    · exact .inr ⟨rfl, by omega⟩
  have h2 : uLo a b t = 1 ∧ uHi a b t = 0 ∨ t < uLo a b t := by
    unfold uLo uHi; split
    · exact .inl ⟨rfl, rfl⟩
    · exact .inr (by omega)
  have h3 : min (lHi a b t) (uHi a b t) < max (lLo a b t) (uLo a b t) := by omega
  unfold mLo mHi
  rw [if_pos h3, if_pos h3]
  rfl

/-! what chapter 4 promises of where two meet -/
theorem m_has (a b c d n : Int) : hasB (mLo a b c d) (mHi a b c d) n = (hasB a b n && hasB c d n) := by
  unfold mLo mHi hasB
  rw [Bool.eq_iff_iff]
  simp only [Bool.and_eq_true, decide_eq_true_eq]
  split <;> omega
theorem m_swap (a b c d : Int) : mLo c d a b = mLo a b c d ∧ mHi c d a b = mHi a b c d := by
  unfold mLo mHi
  rw [Int.max_comm a c, Int.min_comm b d]
  exact ⟨rfl, rfl⟩
theorem m_one (a b c d : Int) (h : emB (mLo a b c d) (mHi a b c d) = true) : mLo a b c d = 1 ∧ mHi a b c d = 0 := by
  revert h
  unfold mLo mHi emB
  split <;> simp <;> omega
/-- a span that is empty, or has its ends -/
theorem m_told (a b c d : Int) : (min b d < max a c ∧ mLo a b c d = 1 ∧ mHi a b c d = 0) ∨ (¬ min b d < max a c ∧ mLo a b c d = max a c ∧ mHi a b c d = min b d) := by
  unfold mLo mHi
  by_cases h : min b d < max a c
  · left; simp [h]
  · right; simp [h]
theorem m_in (a b c d : Int) : inB (mLo a b c d) (mHi a b c d) a b = true ∧ inB (mLo a b c d) (mHi a b c d) c d = true ∧ inB a b a b = true := by
  unfold mLo mHi inB
  refine ⟨?_, ?_, ?_⟩
  · split <;> simp <;> omega
  · split <;> simp <;> omega
  · simp
theorem m_same (a b c d : Int) : inB a b c d = (((mLo a b c d == a) && (mHi a b c d == b)) || emB a b) := by
  have h := m_told a b c d
  unfold inB emB
  rw [Bool.eq_iff_iff]
  simp only [Bool.or_eq_true, Bool.and_eq_true, decide_eq_true_eq, beq_iff_eq]
  omega
end Go.Proofs.YtkkbeobocbgmeaaGreat.M

namespace Go.Proofs.YtkkbeobocbgmeaaGreat.M

/-- a span: two ends -/
structure Sp where
  lo : Int
  hi : Int
/-- a box: four features' spans, and the second's -/
structure Bx where
  a : Sp
  b : Sp
  c : Sp
  d : Sp
  e : Sp
/-- a point: four numbers -/
structure Pt where
  a : Int
  b : Int
  c : Int
  d : Int

/-- an int of Go -/
def I64 (x : Int) : Prop := -9223372036854775808 ≤ x ∧ x ≤ 9223372036854775807
def Sp.ok (s : Sp) : Prop := I64 s.lo ∧ I64 s.hi
def Bx.ok (x : Bx) : Prop := x.a.ok ∧ x.b.ok ∧ x.c.ok ∧ x.d.ok ∧ x.e.ok
def Pt.ok (p : Pt) : Prop := I64 p.a ∧ I64 p.b ∧ I64 p.c ∧ I64 p.d

def Sp.em (s : Sp) : Bool := emB s.lo s.hi
def Sp.has (s : Sp) (n : Int) : Bool := hasB s.lo s.hi n
def Sp.inn (s t : Sp) : Bool := inB s.lo s.hi t.lo t.hi
def Sp.meet (s t : Sp) : Sp := ⟨mLo s.lo s.hi t.lo t.hi, mHi s.lo s.hi t.lo t.hi⟩
def Sp.low (s : Sp) (t : Int) : Sp := ⟨lLo s.lo s.hi t, lHi s.lo s.hi t⟩
def Sp.upp (s : Sp) (t : Int) : Sp := ⟨uLo s.lo s.hi t, uHi s.lo s.hi t⟩
def Sp.eqB (s t : Sp) : Bool := (s.lo == t.lo) && (s.hi == t.hi)

def Bx.em (x : Bx) : Bool := x.a.em || x.b.em || x.c.em || x.d.em || x.e.em
def Bx.has (x : Bx) (p : Pt) (t : Int) : Bool := x.a.has p.a && x.b.has p.b && x.c.has p.c && x.d.has p.d && x.e.has t
def Bx.meet (x y : Bx) : Bx := ⟨x.a.meet y.a, x.b.meet y.b, x.c.meet y.c, x.d.meet y.d, x.e.meet y.e⟩
def Bx.inn (x y : Bx) : Bool := x.em || (x.a.inn y.a && x.b.inn y.b && x.c.inn y.c && x.d.inn y.d && x.e.inn y.e)
def Bx.lowest (x : Bx) : Pt := ⟨x.a.lo, x.b.lo, x.c.lo, x.d.lo⟩
/-- the span at a place (0 to 4) -/
def Bx.at (x : Bx) (k : Int) : Sp := if k = 0 then x.a else if k = 1 then x.b else if k = 2 then x.c else if k = 3 then x.d else x.e
/-- another span at a place -/
def Bx.put (x : Bx) (k : Int) (s : Sp) : Bx :=
  if k = 0 then { x with a := s } else if k = 1 then { x with b := s } else if k = 2 then { x with c := s } else if k = 3 then { x with d := s } else if k = 4 then { x with e := s } else x
/-- the parts of a cut; of no place the box itself -/
def Bx.low (x : Bx) (k t : Int) : Bx := x.put k ((x.at k).low t)
def Bx.upp (x : Bx) (k t : Int) : Bx := x.put k ((x.at k).upp t)
def Sp.nil : Sp := ⟨0, 0⟩
def Bx.nil : Bx := ⟨Sp.nil, Sp.nil, Sp.nil, Sp.nil, Sp.nil⟩
def Bx.whole (k : Int) (s : Sp) : Bx := ⟨if 1 ≤ k then s else Sp.nil, if 2 ≤ k then s else Sp.nil, if 3 ≤ k then s else Sp.nil, if 4 ≤ k then s else Sp.nil, Sp.nil⟩

end Go.Proofs.YtkkbeobocbgmeaaGreat.M

namespace Go.Proofs.YtkkbeobocbgmeaaGreat.M

def Bx.eqB (x y : Bx) : Bool := x.a.eqB y.a && x.b.eqB y.b && x.c.eqB y.c && x.d.eqB y.d && x.e.eqB y.e
theorem Sp.eqB_iff {s t : Sp} : s.eqB t = true ↔ s = t := by
  cases s; cases t; simp [Sp.eqB]
theorem Bx.eqB_iff {x y : Bx} : x.eqB y = true ↔ x = y := by
  cases x; cases y; simp [Bx.eqB, Sp.eqB_iff, and_assoc]
theorem Bx.eqB_self (x : Bx) : x.eqB x = true := Bx.eqB_iff.2 rfl
theorem Bx.eqB_no {x y : Bx} (h : ¬ x = y) : x.eqB y = false := by
  cases e : x.eqB y
  · rfl
  · exact absurd (Bx.eqB_iff.1 e) h

end Go.Proofs.YtkkbeobocbgmeaaGreat.M
