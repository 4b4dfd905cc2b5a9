/- Plain mathematics of chapter 4 (spans: all whole numbers from one to another): no program is spoken of here, so this text has no conditions on one. -/
import Derived.Test.YtndnijdpafcmoaaMathF
namespace Go.Proofs.Ytndnijdpafcmoaa.M

/-! a span is two numbers, its ends -/
def emB (x y : Int) : Bool := decide (y < x)
def hasB (x y n : Int) : Bool := decide (x ≤ n ∧ n ≤ y)
def inB (a b c d : Int) : Bool := decide (b < a ∨ (c ≤ a ∧ b ≤ d))
/-- the ends of where two meet -/
def mLo (a b c d : Int) : Int := if min b d < max a c then 1 else max a c
def mHi (a b c d : Int) : Int := if min b d < max a c then 0 else min b d
/-- a span, or the one empty span in its place -/
def oLo (x y : Int) : Int := if y < x then 1 else x
def oHi (x y : Int) : Int := if y < x then 0 else y
theorem o_m (a b c d x y : Int) (hx : x = max a c) (hy : y = min b d) : oLo x y = mLo a b c d ∧ oHi x y = mHi a b c d := by
  subst hx hy; exact ⟨rfl, rfl⟩
/-- how many numbers it has -/
def szI (a b : Int) : Int := if b < a then 0 else b - a + 1

theorem em_yes {x y : Int} (h : y < x) : emB x y = true := by simp [emB, h]
theorem em_no {x y : Int} (h : ¬ y < x) : emB x y = false := by simp [emB]; omega
theorem m_bd {a b c d : Int} (a1 : -9223372036854775808 ≤ a) (a2 : a ≤ 9223372036854775807) (b1 : -9223372036854775808 ≤ b) (b2 : b ≤ 9223372036854775807)
    (c1 : -9223372036854775808 ≤ c) (c2 : c ≤ 9223372036854775807) (d1 : -9223372036854775808 ≤ d) (d2 : d ≤ 9223372036854775807) :
    -9223372036854775808 ≤ mLo a b c d ∧ mLo a b c d ≤ 9223372036854775807 ∧ -9223372036854775808 ≤ mHi a b c d ∧ mHi a b c d ≤ 9223372036854775807 := by
  unfold mLo mHi
  split <;> omega

/-! the two parts of a cut -/
def lLo (a b t : Int) : Int := if min b t < a then 1 else a
def lHi (a b t : Int) : Int := if min b t < a then 0 else min b t
def uLo (a b t : Int) : Int := if b < max a (t + 1) then 1 else max a (t + 1)
def uHi (a b t : Int) : Int := if b < max a (t + 1) then 0 else b
theorem cut_told (a b t : Int) (a1 : -9223372036854775808 ≤ a) (b2 : b ≤ 9223372036854775807) : lLo a b t = mLo a b (-9223372036854775808) t ∧ lHi a b t = mHi a b (-9223372036854775808) t ∧
    uLo a b t = mLo a b (t + 1) 9223372036854775807 ∧ uHi a b t = mHi a b (t + 1) 9223372036854775807 := by
  unfold lLo lHi uLo uHi mLo mHi
  rw [Int.max_eq_left a1, Int.min_eq_left b2]
  exact ⟨rfl, rfl, rfl, rfl⟩
theorem cut_told_far (a b : Int) (b2 : b ≤ 9223372036854775807) : uLo a b 9223372036854775807 = 1 ∧ uHi a b 9223372036854775807 = 0 := by
  unfold uLo uHi
  rw [if_pos (by omega), if_pos (by omega)]
  exact ⟨rfl, rfl⟩
theorem cut_bd {a b t : Int} (a1 : -9223372036854775808 ≤ a) (a2 : a ≤ 9223372036854775807) (b1 : -9223372036854775808 ≤ b) (b2 : b ≤ 9223372036854775807)
    (t1 : -9223372036854775808 ≤ t) (t2 : t ≤ 9223372036854775807) :
    (-9223372036854775808 ≤ lLo a b t ∧ lLo a b t ≤ 9223372036854775807 ∧ -9223372036854775808 ≤ lHi a b t ∧ lHi a b t ≤ 9223372036854775807) ∧
    (-9223372036854775808 ≤ uLo a b t ∧ uLo a b t ≤ 9223372036854775807 ∧ -9223372036854775808 ≤ uHi a b t ∧ uHi a b t ≤ 9223372036854775807) := by
  unfold lLo lHi uLo uHi
  constructor <;> split <;> omega

/-! what chapter 4 promises of a cut -/
theorem l_has (a b t n : Int) : hasB (lLo a b t) (lHi a b t) n = (hasB a b n && decide (n ≤ t)) := by
  unfold lLo lHi hasB
  rw [Bool.eq_iff_iff]
  simp only [Bool.and_eq_true, decide_eq_true_eq]
  split <;> omega
theorem u_has (a b t n : Int) : hasB (uLo a b t) (uHi a b t) n = (hasB a b n && decide (t < n)) := by
  unfold uLo uHi hasB
  rw [Bool.eq_iff_iff]
  simp only [Bool.and_eq_true, decide_eq_true_eq]
  split <;> omega
theorem l_one (a b t : Int) (h : emB (lLo a b t) (lHi a b t) = true) : lLo a b t = 1 ∧ lHi a b t = 0 := by
  revert h
  unfold lLo lHi emB
  split <;> simp <;> omega
theorem u_one (a b t : Int) (h : emB (uLo a b t) (uHi a b t) = true) : uLo a b t = 1 ∧ uHi a b t = 0 := by
  revert h
  unfold uLo uHi emB
  split <;> simp <;> omega
theorem l_in (a b t : Int) : inB (lLo a b t) (lHi a b t) a b = true := by
  unfold lLo lHi inB
  split <;> simp <;> omega
theorem u_in (a b t : Int) : inB (uLo a b t) (uHi a b t) a b = true := by
  unfold uLo uHi inB
  split <;> simp <;> omega
theorem lu_none (a b t : Int) : emB (mLo (lLo a b t) (lHi a b t) (uLo a b t) (uHi a b t)) (mHi (lLo a b t) (lHi a b t) (uLo a b t) (uHi a b t)) = true := by
  have h1 : lLo a b t = 1 ∧ lHi a b t = 0 ∨ lLo a b t = a ∧ lHi a b t ≤ t := by
    unfold lLo lHi; split
    · exact .inl ⟨rfl, rfl⟩
    · exact .inr ⟨rfl, by omega⟩
  have h2 : uLo a b t = 1 ∧ uHi a b t = 0 ∨ t < uLo a b t := by
    unfold uLo uHi; split
    · exact .inl ⟨rfl, rfl⟩
    · exact .inr (by omega)
  have h3 : min (lHi a b t) (uHi a b t) < max (lLo a b t) (uLo a b t) := by omega
  unfold mLo mHi
  rw [if_pos h3, if_pos h3]
  rfl

/-! what chapter 4 promises of where two meet -/
theorem m_has (a b c d n : Int) : hasB (mLo a b c d) (mHi a b c d) n = (hasB a b n && hasB c d n) := by
  unfold mLo mHi hasB
  rw [Bool.eq_iff_iff]
  simp only [Bool.and_eq_true, decide_eq_true_eq]
  split <;> omega
theorem m_swap (a b c d : Int) : mLo c d a b = mLo a b c d ∧ mHi c d a b = mHi a b c d := by
  unfold mLo mHi
  rw [Int.max_comm a c, Int.min_comm b d]
  exact ⟨rfl, rfl⟩
theorem m_one (a b c d : Int) (h : emB (mLo a b c d) (mHi a b c d) = true) : mLo a b c d = 1 ∧ mHi a b c d = 0 := by
  revert h
  unfold mLo mHi emB
  split <;> simp <;> omega
/-- a span that is empty, or has its ends -/
theorem m_told (a b c d : Int) : (min b d < max a c ∧ mLo a b c d = 1 ∧ mHi a b c d = 0) ∨ (¬ min b d < max a c ∧ mLo a b c d = max a c ∧ mHi a b c d = min b d) := by
  unfold mLo mHi
  by_cases h : min b d < max a c
  · left; simp [h]
  · right; simp [h]
theorem m_in (a b c d : Int) : inB (mLo a b c d) (mHi a b c d) a b = true ∧ inB (mLo a b c d) (mHi a b c d) c d = true ∧ inB a b a b = true := by
  unfold mLo mHi inB
  refine ⟨?_, ?_, ?_⟩
  · split <;> simp <;> omega
  · split <;> simp <;> omega
  · simp
theorem m_same (a b c d : Int) : inB a b c d = (((mLo a b c d == a) && (mHi a b c d == b)) || emB a b) := by
  have h := m_told a b c d
  unfold inB emB
  rw [Bool.eq_iff_iff]
  simp only [Bool.or_eq_true, Bool.and_eq_true, decide_eq_true_eq, beq_iff_eq]
  omega
end Go.Proofs.Ytndnijdpafcmoaa.M
