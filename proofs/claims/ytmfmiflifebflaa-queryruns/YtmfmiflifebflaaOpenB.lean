/- A box, a point that came in as an argument: ten ints, four ints. -/
import Derived.Test.YtmfmiflifebflaaOpenS
import Derived.Test.YtmfmiflifebflaaBoxV
namespace Go.Proofs.Ytmfmiflifebflaa
open Go.ChangeShapes Go.WideShapes Go.ChangeAt Go.RowKit M

theorem cellsBox : Try.prog.cellsOf 30 = 10 := by kernel_rfl
theorem cellsPoint : Try.prog.cellsOf 36 = 4 := by kernel_rfl
theorem i64_of {a : Int} (h : (Lit.int .i64 a).wf = true) : I64 a := bdi h

section
variable {H : Type} {enc : TypeId × Value → H} {W : World} {base : Nat} {spare : Nat → Bool} {held : Bool}

theorem span_of {fuel : Nat} {c0 c1 : Value} {y : DataW H × List MemPlace} (h : DataW.trod enc Try.prog W base spare held fuel 28 [c0, c1] = some y) :
    ∃ s : Sp, s.ok ∧ c0 = .int .i64 s.lo ∧ c1 = .int .i64 s.hi := by
  obtain ⟨y0, y1, m, hx, _, hy0, hy1⟩ := trod_struct2 Try.underlying28 h
  obtain ⟨a, e0, rfl, wa⟩ := DataW.trod_int Try.underlying3 hy0
  obtain ⟨b, e1, rfl, wb⟩ := DataW.trod_int Try.underlying3 hy1
  simp [cellsInt] at e0 e1
  exact ⟨⟨a, b⟩, ⟨i64_of wa, i64_of wb⟩, e0, e1⟩

theorem box_of {fuel : Nat} {c0 c1 c2 c3 c4 c5 c6 c7 c8 c9 : Value} {y : DataW H × List MemPlace} (h : DataW.trod enc Try.prog W base spare held fuel 30 [c0, c1, c2, c3, c4, c5, c6, c7, c8, c9] = some y) :
    ∃ x : Bx, Value.agg #[c0, c1, c2, c3, c4, c5, c6, c7, c8, c9] = boxV x ∧ x.ok := by
  obtain ⟨xs, m, _, _, _, hl, hi⟩ := DataW.trod_array Try.underlying30 h
  match xs, hl with
  | [z0, z1, z2, z3, z4], _ =>
  have h0 := hi 0 (by decide)
  have h1 := hi 1 (by decide)
  have h2 := hi 2 (by decide)
  have h3 := hi 3 (by decide)
  have h4 := hi 4 (by decide)
  rw [cellsSpan] at h0 h1 h2 h3 h4
  obtain ⟨s0, k0, rfl, rfl⟩ := span_of h0
  obtain ⟨s1, k1, rfl, rfl⟩ := span_of h1
  obtain ⟨s2, k2, rfl, rfl⟩ := span_of h2
  obtain ⟨s3, k3, rfl, rfl⟩ := span_of h3
  obtain ⟨s4, k4, rfl, rfl⟩ := span_of h4
  exact ⟨⟨s0, s1, s2, s3, s4⟩, rfl, k0, k1, k2, k3, k4⟩

theorem open_box {r : Reach} {b0 : Nat} {v : Value} {d : DataW H} {ps : List MemPlace}
    (hval : Value.okWide Try.prog W r b0 30 v) (h : DataW.Trod enc Try.prog W base spare held 30 v d ps) : ∃ x : Bx, v = boxV x ∧ x.ok := by
  simp only [Value.okWide, Try.underlying30] at hval
  obtain ⟨cs, rfl, hsz, _⟩ := hval
  rw [cellsBox] at hsz
  obtain ⟨l⟩ := cs
  match l, hsz with
  | [c0, c1, c2, c3, c4, c5, c6, c7, c8, c9], _ =>
  obtain ⟨fuel, hf⟩ := h
  exact box_of hf

set_option maxRecDepth 100000 in
theorem open_point {r : Reach} {b0 : Nat} {v : Value} {d : DataW H} {ps : List MemPlace}
    (hval : Value.okWide Try.prog W r b0 36 v) (h : DataW.Trod enc Try.prog W base spare held 36 v d ps) : ∃ p : Pt, v = ptV p ∧ p.ok := by
  simp only [Value.okWide, Try.underlying36] at hval
  obtain ⟨cs, rfl, hsz, _⟩ := hval
  rw [cellsPoint] at hsz
  obtain ⟨l⟩ := cs
  match l, hsz with
  | [c0, c1, c2, c3], _ =>
  obtain ⟨fuel, hf⟩ := h
  obtain ⟨xs, m, _, _, _, hl, hi⟩ := DataW.trod_array Try.underlying36 hf
  match xs, hl with
  | [z0, z1, z2, z3], _ =>
  have h0 := hi 0 (by decide)
  have h1 := hi 1 (by decide)
  have h2 := hi 2 (by decide)
  have h3 := hi 3 (by decide)
  rw [cellsInt] at h0 h1 h2 h3
  obtain ⟨a, e0, _, wa⟩ := DataW.trod_int Try.underlying3 h0
  obtain ⟨b, e1, _, wb⟩ := DataW.trod_int Try.underlying3 h1
  obtain ⟨c, e2, _, wc⟩ := DataW.trod_int Try.underlying3 h2
  obtain ⟨e, e3, _, wd⟩ := DataW.trod_int Try.underlying3 h3
  simp [Value.cells] at e0 e1 e2 e3
  subst e0 e1 e2 e3
  exact ⟨⟨a, b, c, e⟩, rfl, i64_of wa, i64_of wb, i64_of wc, i64_of wd⟩
end

end Go.Proofs.Ytmfmiflifebflaa
