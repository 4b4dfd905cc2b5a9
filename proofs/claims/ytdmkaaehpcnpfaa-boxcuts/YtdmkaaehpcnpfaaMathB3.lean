/- Plain mathematics of chapter 5, third part: the parts of a cut, where boxes meet. No program is spoken of here. -/
import Derived.Test.YtdmkaaehpcnpfaaMathB2
import Derived.Test.YtdmkaaehpcnpfaaMathS2
namespace Go.Proofs.Ytdmkaaehpcnpfaa.M

theorem Sp.low_has (s : Sp) (t n : Int) : (s.low t).has n = (s.has n && decide (n ≤ t)) := l_has s.lo s.hi t n
theorem Sp.upp_has (s : Sp) (t n : Int) : (s.upp t).has n = (s.has n && decide (t < n)) := u_has s.lo s.hi t n
theorem Sp.low_inn (s : Sp) (t : Int) : (s.low t).inn s = true := l_in s.lo s.hi t
theorem Sp.upp_inn (s : Sp) (t : Int) : (s.upp t).inn s = true := u_in s.lo s.hi t
theorem Sp.inn_self (s : Sp) : s.inn s = true := by simp [Sp.inn, inB]
theorem Sp.low_ok {s : Sp} {t : Int} (h : s.ok) (ht : I64 t) : (s.low t).ok := by
  obtain ⟨⟨a1, a2⟩, b1, b2⟩ := h
  obtain ⟨⟨h1, h2, h3, h4⟩, _⟩ := cut_bd a1 a2 b1 b2 ht.1 ht.2
  exact ⟨⟨h1, h2⟩, h3, h4⟩
theorem Sp.upp_ok {s : Sp} {t : Int} (h : s.ok) (ht : I64 t) : (s.upp t).ok := by
  obtain ⟨⟨a1, a2⟩, b1, b2⟩ := h
  obtain ⟨_, ⟨h1, h2, h3, h4⟩⟩ := cut_bd a1 a2 b1 b2 ht.1 ht.2
  exact ⟨⟨h1, h2⟩, h3, h4⟩
theorem Bx.inn_of {x y : Bx} (h : (x.a.inn y.a && x.b.inn y.b && x.c.inn y.c && x.d.inn y.d && x.e.inn y.e) = true) : x.inn y = true := by
  unfold Bx.inn; rw [h, Bool.or_true]

theorem part_has_0 (x : Bx) (p : Pt) (tw t : Int) : ({ x with a := x.a.low t } : Bx).has p tw = (x.has p tw && decide (p.a ≤ t)) ∧ ({ x with a := x.a.upp t } : Bx).has p tw = (x.has p tw && decide (t < p.a)) := by
  simp only [Bx.has, Sp.low_has, Sp.upp_has]
  cases x.a.has p.a <;> cases x.b.has p.b <;> cases x.c.has p.c <;> cases x.d.has p.d <;> cases x.e.has tw <;> simp
theorem part_in_0 (x : Bx) (t : Int) : ({ x with a := x.a.low t } : Bx).inn x = true ∧ ({ x with a := x.a.upp t } : Bx).inn x = true :=
  ⟨Bx.inn_of (by simp [Sp.low_inn, Sp.inn_self]), Bx.inn_of (by simp [Sp.upp_inn, Sp.inn_self])⟩
theorem part_has_1 (x : Bx) (p : Pt) (tw t : Int) : ({ x with b := x.b.low t } : Bx).has p tw = (x.has p tw && decide (p.b ≤ t)) ∧ ({ x with b := x.b.upp t } : Bx).has p tw = (x.has p tw && decide (t < p.b)) := by
  simp only [Bx.has, Sp.low_has, Sp.upp_has]
  cases x.a.has p.a <;> cases x.b.has p.b <;> cases x.c.has p.c <;> cases x.d.has p.d <;> cases x.e.has tw <;> simp
theorem part_in_1 (x : Bx) (t : Int) : ({ x with b := x.b.low t } : Bx).inn x = true ∧ ({ x with b := x.b.upp t } : Bx).inn x = true :=
  ⟨Bx.inn_of (by simp [Sp.low_inn, Sp.inn_self]), Bx.inn_of (by simp [Sp.upp_inn, Sp.inn_self])⟩
theorem part_has_2 (x : Bx) (p : Pt) (tw t : Int) : ({ x with c := x.c.low t } : Bx).has p tw = (x.has p tw && decide (p.c ≤ t)) ∧ ({ x with c := x.c.upp t } : Bx).has p tw = (x.has p tw && decide (t < p.c)) := by
  simp only [Bx.has, Sp.low_has, Sp.upp_has]
  cases x.a.has p.a <;> cases x.b.has p.b <;> cases x.c.has p.c <;> cases x.d.has p.d <;> cases x.e.has tw <;> simp
theorem part_in_2 (x : Bx) (t : Int) : ({ x with c := x.c.low t } : Bx).inn x = true ∧ ({ x with c := x.c.upp t } : Bx).inn x = true :=
  ⟨Bx.inn_of (by simp [Sp.low_inn, Sp.inn_self]), Bx.inn_of (by simp [Sp.upp_inn, Sp.inn_self])⟩
theorem part_has_3 (x : Bx) (p : Pt) (tw t : Int) : ({ x with d := x.d.low t } : Bx).has p tw = (x.has p tw && decide (p.d ≤ t)) ∧ ({ x with d := x.d.upp t } : Bx).has p tw = (x.has p tw && decide (t < p.d)) := by
  simp only [Bx.has, Sp.low_has, Sp.upp_has]
  cases x.a.has p.a <;> cases x.b.has p.b <;> cases x.c.has p.c <;> cases x.d.has p.d <;> cases x.e.has tw <;> simp
theorem part_in_3 (x : Bx) (t : Int) : ({ x with d := x.d.low t } : Bx).inn x = true ∧ ({ x with d := x.d.upp t } : Bx).inn x = true :=
  ⟨Bx.inn_of (by simp [Sp.low_inn, Sp.inn_self]), Bx.inn_of (by simp [Sp.upp_inn, Sp.inn_self])⟩
theorem part_has_4 (x : Bx) (p : Pt) (tw t : Int) : ({ x with e := x.e.low t } : Bx).has p tw = (x.has p tw && decide (tw ≤ t)) ∧ ({ x with e := x.e.upp t } : Bx).has p tw = (x.has p tw && decide (t < tw)) := by
  simp only [Bx.has, Sp.low_has, Sp.upp_has]
  cases x.a.has p.a <;> cases x.b.has p.b <;> cases x.c.has p.c <;> cases x.d.has p.d <;> cases x.e.has tw <;> simp
theorem part_in_4 (x : Bx) (t : Int) : ({ x with e := x.e.low t } : Bx).inn x = true ∧ ({ x with e := x.e.upp t } : Bx).inn x = true :=
  ⟨Bx.inn_of (by simp [Sp.low_inn, Sp.inn_self]), Bx.inn_of (by simp [Sp.upp_inn, Sp.inn_self])⟩

/-! where boxes meet -/
theorem Sp.meet_has (s t : Sp) (n : Int) : (s.meet t).has n = (s.has n && t.has n) := m_has s.lo s.hi t.lo t.hi n
theorem Bx.meet_has (x y : Bx) (p : Pt) (tw : Int) : (x.meet y).has p tw = (x.has p tw && y.has p tw) := by
  simp only [Bx.has, Bx.meet, Sp.meet_has]
  simp only [Bool.and_assoc, Bool.and_left_comm]
theorem Sp.meet_thrice (s t u : Sp) : (s.meet t).meet u = s.meet (t.meet u) := by
  obtain ⟨h1, h2⟩ := m_thrice s.lo s.hi t.lo t.hi u.lo u.hi
  simp only [Sp.meet]
  rw [h1, h2]
theorem Bx.meet_thrice (x y z : Bx) : (x.meet y).meet z = x.meet (y.meet z) := by simp only [Bx.meet, Sp.meet_thrice]
theorem Sp.meet_inn (s t : Sp) : (s.meet t).inn s = true ∧ (s.meet t).inn t = true := by
  obtain ⟨h1, h2, _⟩ := m_in s.lo s.hi t.lo t.hi
  exact ⟨h1, h2⟩
theorem Bx.meet_inn (x y : Bx) : (x.meet y).inn x = true ∧ (x.meet y).inn y = true :=
  ⟨Bx.inn_of (by simp [Bx.meet, Sp.meet_inn]), Bx.inn_of (by simp [Bx.meet, Sp.meet_inn])⟩
theorem Bx.em_inn {x : Bx} (h : x.em = true) (y : Bx) : x.inn y = true := by simp [Bx.inn, h]
theorem Sp.inn_same (s t : Sp) (h : s.em = false) : s.inn t = (s.meet t).eqB s := by
  have e := m_same s.lo s.hi t.lo t.hi
  have h2 : emB s.lo s.hi = false := h
  rw [h2, Bool.or_false] at e
  exact e
theorem Bx.inn_same (x y : Bx) (h : x.em = false) : x.inn y = (x.meet y).eqB x := by
  have h' := h
  simp only [Bx.em, Bool.or_eq_false_iff] at h'
  obtain ⟨⟨⟨⟨h1, h2⟩, h3⟩, h4⟩, h5⟩ := h'
  unfold Bx.inn Bx.eqB
  rw [h, Bool.false_or, Sp.inn_same _ _ h1, Sp.inn_same _ _ h2, Sp.inn_same _ _ h3, Sp.inn_same _ _ h4, Sp.inn_same _ _ h5]
  rfl
theorem Sp.low_has_it (s : Sp) : s.has s.lo = !s.em := by
  unfold Sp.has Sp.em hasB emB
  rw [Bool.eq_iff_iff]
  simp
theorem Bx.lowest_has (x : Bx) : x.has x.lowest x.e.lo = !x.em := by
  simp only [Bx.has, Bx.lowest, Sp.low_has_it, Bx.em, Bool.not_or]

end Go.Proofs.Ytdmkaaehpcnpfaa.M
