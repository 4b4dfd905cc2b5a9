/- Plain mathematics of chapter 5, fourth part: boxes cut at two places. No program is spoken of here. -/
import Derived.Test.YtdmkaaehpcnpfaaMathB3
namespace Go.Proofs.Ytdmkaaehpcnpfaa.M

/-- a point's number at a place, or the twin -/
def numP (p : Pt) (tw k : Int) : Int := if k = 0 then p.a else if k = 1 then p.b else if k = 2 then p.c else if k = 3 then p.d else tw
theorem five {k : Int} (k0 : 0 ≤ k) (k4 : k ≤ 4) : k = 0 ∨ k = 1 ∨ k = 2 ∨ k = 3 ∨ k = 4 := by omega
theorem Bx.low_has (x : Bx) (p : Pt) (tw k t : Int) (k0 : 0 ≤ k) (k4 : k ≤ 4) : (x.low k t).has p tw = (x.has p tw && decide (numP p tw k ≤ t)) := by
  rcases five k0 k4 with rfl | rfl | rfl | rfl | rfl
  · exact (part_has_0 x p tw t).1
  · exact (part_has_1 x p tw t).1
  · exact (part_has_2 x p tw t).1
  · exact (part_has_3 x p tw t).1
  · exact (part_has_4 x p tw t).1
theorem Bx.upp_has (x : Bx) (p : Pt) (tw k t : Int) (k0 : 0 ≤ k) (k4 : k ≤ 4) : (x.upp k t).has p tw = (x.has p tw && decide (t < numP p tw k)) := by
  rcases five k0 k4 with rfl | rfl | rfl | rfl | rfl
  · exact (part_has_0 x p tw t).2
  · exact (part_has_1 x p tw t).2
  · exact (part_has_2 x p tw t).2
  · exact (part_has_3 x p tw t).2
  · exact (part_has_4 x p tw t).2
theorem Bx.put_ok {x : Bx} {k : Int} {s : Sp} (h : x.ok) (hs : s.ok) : (x.put k s).ok := by
  obtain ⟨h1, h2, h3, h4, h5⟩ := h
  unfold Bx.put
  repeat' split
  all_goals exact ⟨by assumption, by assumption, by assumption, by assumption, by assumption⟩
theorem Bx.at_ok {x : Bx} (h : x.ok) (k : Int) : (x.at k).ok := by
  obtain ⟨h1, h2, h3, h4, h5⟩ := h
  unfold Bx.at
  repeat' split
  all_goals assumption
theorem Bx.low_ok {x : Bx} {k t : Int} (h : x.ok) (ht : I64 t) : (x.low k t).ok := Bx.put_ok h (Sp.low_ok (Bx.at_ok h k) ht)
theorem Bx.upp_ok {x : Bx} {k t : Int} (h : x.ok) (ht : I64 t) : (x.upp k t).ok := Bx.put_ok h (Sp.upp_ok (Bx.at_ok h k) ht)
theorem Bx.at_put {x : Bx} {a c : Int} {s : Sp} (a0 : 0 ≤ a) (a4 : a ≤ 4) (c0 : 0 ≤ c) (c4 : c ≤ 4) (h : a ≠ c) : (x.put a s).at c = x.at c := by
  rcases five a0 a4 with rfl | rfl | rfl | rfl | rfl <;> rcases five c0 c4 with rfl | rfl | rfl | rfl | rfl <;> first | rfl | exact absurd rfl h
theorem Bx.put_put {x : Bx} {a c : Int} {s t : Sp} (a0 : 0 ≤ a) (a4 : a ≤ 4) (c0 : 0 ≤ c) (c4 : c ≤ 4) (h : a ≠ c) : (x.put a s).put c t = (x.put c t).put a s := by
  rcases five a0 a4 with rfl | rfl | rfl | rfl | rfl <;> rcases five c0 c4 with rfl | rfl | rfl | rfl | rfl <;> first | rfl | exact absurd rfl h
/-- cuts at two places come to the same in whatever order -/
theorem Bx.cut_cut (x : Bx) (a c s t : Int) (a0 : 0 ≤ a) (a4 : a ≤ 4) (c0 : 0 ≤ c) (c4 : c ≤ 4) (h : a ≠ c) :
    (x.low c t).low a s = (x.low a s).low c t ∧ (x.upp c t).low a s = (x.low a s).upp c t ∧ (x.low c t).upp a s = (x.upp a s).low c t ∧ (x.upp c t).upp a s = (x.upp a s).upp c t := by
  have h' : c ≠ a := fun e => h e.symm
  unfold Bx.low Bx.upp
  simp only [Bx.at_put a0 a4 c0 c4 h, Bx.at_put c0 c4 a0 a4 h']
  exact ⟨Bx.put_put c0 c4 a0 a4 h', Bx.put_put c0 c4 a0 a4 h', Bx.put_put c0 c4 a0 a4 h', Bx.put_put c0 c4 a0 a4 h'⟩
/-- of four parts each point of the box is in one, others in none -/
theorem Bx.four (x : Bx) (p : Pt) (tw a c s t : Int) (a0 : 0 ≤ a) (a4 : a ≤ 4) (c0 : 0 ≤ c) (c4 : c ≤ 4) (h1 h2 h3 h4 I : Bool)
    (e1 : ((x.low a s).low c t).has p tw = h1) (e2 : ((x.low a s).upp c t).has p tw = h2) (e3 : ((x.upp a s).low c t).has p tw = h3) (e4 : ((x.upp a s).upp c t).has p tw = h4) (e : x.has p tw = I) :
    (I = false ∧ h1 = false ∧ h2 = false ∧ h3 = false ∧ h4 = false) ∨ (I = true ∧ h1 = true ∧ h2 = false ∧ h3 = false ∧ h4 = false) ∨ (I = true ∧ h1 = false ∧ h2 = true ∧ h3 = false ∧ h4 = false) ∨
    (I = true ∧ h1 = false ∧ h2 = false ∧ h3 = true ∧ h4 = false) ∨ (I = true ∧ h1 = false ∧ h2 = false ∧ h3 = false ∧ h4 = true) := by
  simp only [Bx.low_has _ _ _ _ _ a0 a4, Bx.low_has _ _ _ _ _ c0 c4, Bx.upp_has _ _ _ _ _ a0 a4, Bx.upp_has _ _ _ _ _ c0 c4, e] at e1 e2 e3 e4
  by_cases g1 : numP p tw a ≤ s
  · have g1' : ¬ s < numP p tw a := by omega
    by_cases g2 : numP p tw c ≤ t
    · have g2' : ¬ t < numP p tw c := by omega
      simp [g1, g1', g2, g2'] at e1 e2 e3 e4
      cases I <;> simp_all
    · have g2' : t < numP p tw c := by omega
      simp [g1, g1', g2, g2'] at e1 e2 e3 e4
      cases I <;> simp_all
  · have g1' : s < numP p tw a := by omega
    by_cases g2 : numP p tw c ≤ t
    · have g2' : ¬ t < numP p tw c := by omega
      simp [g1, g1', g2, g2'] at e1 e2 e3 e4
      cases I <;> simp_all
    · have g2' : t < numP p tw c := by omega
      simp [g1, g1', g2, g2'] at e1 e2 e3 e4
      cases I <;> simp_all

end Go.Proofs.Ytdmkaaehpcnpfaa.M
