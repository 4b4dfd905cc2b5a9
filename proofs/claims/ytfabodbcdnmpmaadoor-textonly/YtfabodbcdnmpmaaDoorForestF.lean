/- Two calls of copsekeep's Forest.Model at the same numbers answer the same model. -/
import Derived.Test.YtfabodbcdnmpmaaDoorForestA
import Derived.Test.YtfabodbcdnmpmaaDoorSameM
namespace Go.Proofs.YtfabodbcdnmpmaaDoor
open Go.RowKit M

theorem ModelOf.func {f : Fo} {m m' : Md} (h : ModelOf f m) (h' : ModelOf f m') : m.pm = m'.pm := by
  have e1 : m.d = m'.d := h.d.trans h'.d.symm
  have e2 : m.k = m'.k := h.k.trans h'.k.symm
  obtain ⟨K, k1, p0, p1, p2⟩ := h.b
  obtain ⟨K', k1', q0, q1, q2⟩ := h'.b
  have eK : K = K' := by omega
  subst eK
  have e3 : m.ts.map Tr.pt = m'.ts.map Tr.pt := by
    have hl : m.ts.length = m'.ts.length := h.n.trans h'.n.symm
    refine List.ext_getElem (by simpa using hl) fun i h1 h2 => ?_
    have i1 : i < m.ts.length := by simpa using h1
    have i2 : i < m'.ts.length := by simpa using h2
    obtain ⟨c1, n1⟩ := h.t i i1
    obtain ⟨c2, n2⟩ := h'.t i i2
    have a1 : tA m.ts i = m.ts[i] := by simp [tA, i1]
    have a2 : tA m'.ts i = m'.ts[i] := by simp [tA, i2]
    rw [a1] at c1 n1
    rw [a2] at c2 n2
    rw [e2] at c1
    rw [e1] at n1
    simp only [List.getElem_map, Tr.pt]
    rw [c1.trans c2.symm, n1.func n2]
  simp only [Md.pm, e1, e2, e3, p0.trans q0.symm, p1.trans q1.symm, p2.trans q2.symm]

/-- a text that reads as a model is a right model's own text just if it reads as that one -/
theorem ParseP.only {m0 P : Pm} {t : Txt} (h0 : RightP m0) (h : ParseP t P true) : t = textM m0 ↔ P = m0 := by
  constructor
  · rintro rfl
    exact (h.same (ParseP.yes h0)).1
  · rintro rfl
    exact (h.1 rfl).2.symm
/-- a text that reads as none is no right model's -/
theorem ParseP.other {m0 P : Pm} {t : Txt} (h0 : RightP m0) (h : ParseP t P false) : t ≠ textM m0 := fun e => (h.2 rfl).2 m0 h0 e.symm

end Go.Proofs.YtfabodbcdnmpmaaDoor
