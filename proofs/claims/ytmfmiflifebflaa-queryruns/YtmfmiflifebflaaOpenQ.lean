/- A query, the numbers of one, that came in as an argument. -/
import Derived.Test.YtmfmiflifebflaaOpenM
import Derived.Test.YtmfmiflifebflaaOpenB
import Derived.Test.YtmfmiflifebflaaQueryB
namespace Go.Proofs.Ytmfmiflifebflaa
open Go.ChangeShapes Go.WideShapes Go.ChangeAt Go.RowKit M

theorem cellsBx : Try.prog.cellsOf 30 = 10 := by kernel_rfl
section
variable {H : Type} {enc : TypeId × Value → H} {W : World} {base : Nat} {spare : Nat → Bool} {held : Bool}

set_option maxRecDepth 100000 in
theorem open_query {r : Reach} {b0 : Nat} {v : Value} {d : DataW H} {ps : List MemPlace}
    (hval : Value.okWide Try.prog W r b0 32 v) (h : DataW.Trod enc Try.prog W base spare held 32 v d ps) : ∃ q : Qy, v = queryV q ∧ q.ok := by
  have cellsF : Try.prog.cellsOf 32 = 17 := by kernel_rfl
  obtain ⟨cs, rfl, hsz⟩ := okWide_struct Try.underlying32 hval
  rw [cellsF] at hsz
  obtain ⟨l⟩ := cs
  match l, hsz with
  | [c0, c1, c2, c3, c4, c5, c6, c7, c8, c9, c10, c11, c12, c13, c14, c15, c16], _ =>
  obtain ⟨fuel, hf⟩ := h
  obtain ⟨xs, m, _, _, _, hl, hi⟩ := DataW.trod_struct Try.underlying32 hf
  match xs, hl with
  | [z0, z1, z2, z3, z4, z5, z6, z7], _ =>
  have h0 := hi 0 _ rfl
  have h1 := hi 1 _ rfl
  have h2 := hi 2 _ rfl
  have h3 := hi 3 _ rfl
  have h4 := hi 4 _ rfl
  have h5 := hi 5 _ rfl
  have h6 := hi 6 _ rfl
  have h7 := hi 7 _ rfl
  obtain ⟨i0, e0, _, w0⟩ := DataW.trod_int Try.underlying3 h0
  obtain ⟨i1, e1, _, w1⟩ := DataW.trod_int Try.underlying3 h1
  obtain ⟨i3, e3, _, w3⟩ := DataW.trod_int Try.underlying3 h3
  obtain ⟨i4, e4, _, w4⟩ := DataW.trod_int Try.underlying3 h4
  obtain ⟨i5, e5, _, w5⟩ := DataW.trod_int Try.underlying3 h5
  obtain ⟨i7, e7, _, w7⟩ := DataW.trod_int Try.underlying3 h7
  obtain ⟨b6, e6, _⟩ := DataW.trod_bool Try.underlying4 h6
  simp [Value.cells, cellsInt, cellsBool] at e0 e1 e3 e4 e5 e6 e7
  simp [Value.cells, cellsBx] at h2
  obtain ⟨x, ex, kx⟩ := box_of h2
  obtain ⟨⟨xa, xb⟩, ⟨xc, xd⟩, ⟨xe, xf⟩, ⟨xg, xh⟩, ⟨xi, xj⟩⟩ := x
  simp only [boxV, Value.agg.injEq, Array.mk.injEq, List.cons.injEq, and_true] at ex
  obtain ⟨r0, r1, r2, r3, r4, r5, r6, r7, r8, r9⟩ := ex
  subst e0 e1 e3 e4 e5 e6 e7 r0 r1 r2 r3 r4 r5 r6 r7 r8 r9
  exact ⟨⟨i0, i1, ⟨⟨xa, xb⟩, ⟨xc, xd⟩, ⟨xe, xf⟩, ⟨xg, xh⟩, ⟨xi, xj⟩⟩, i3, i4, i5, b6, i7⟩, rfl, ⟨bdi w0, bdi w1, kx, bdi w3, bdi w4, bdi w5, bdi w7⟩⟩

set_option maxRecDepth 100000 in
theorem open_ask {r : Reach} {b0 : Nat} {v : Value} {d : DataW H} {ps : List MemPlace}
    (hval : Value.okWide Try.prog W r b0 44 v) (h : DataW.Trod enc Try.prog W base spare held 44 v d ps) : ∃ a : Ak, v = askV a ∧ a.ok W := by
  have cellsF : Try.prog.cellsOf 44 = 8 := by kernel_rfl
  obtain ⟨cs, rfl, hsz⟩ := okWide_struct Try.underlying44 hval
  rw [cellsF] at hsz
  obtain ⟨l⟩ := cs
  match l, hsz with
  | [c0, c1, c2, c3, c4, c5, c6, c7], _ =>
  obtain ⟨fuel, hf⟩ := h
  obtain ⟨xs, m, _, _, _, hl, hi⟩ := DataW.trod_struct Try.underlying44 hf
  match xs, hl with
  | [z0, z1, z2, z3, z4, z5, z6, z7], _ =>
  have h0 := hi 0 _ rfl
  have h1 := hi 1 _ rfl
  have h2 := hi 2 _ rfl
  have h3 := hi 3 _ rfl
  have h4 := hi 4 _ rfl
  have h5 := hi 5 _ rfl
  have h6 := hi 6 _ rfl
  have h7 := hi 7 _ rfl
  obtain ⟨i0, e0, _, w0⟩ := DataW.trod_int Try.underlying3 h0
  obtain ⟨i1, e1, _, w1⟩ := DataW.trod_int Try.underlying3 h1
  obtain ⟨i2, e2, _, w2⟩ := DataW.trod_int Try.underlying3 h2
  obtain ⟨i3, e3, _, w3⟩ := DataW.trod_int Try.underlying3 h3
  obtain ⟨i4, e4, _, w4⟩ := DataW.trod_int Try.underlying3 h4
  obtain ⟨i5, e5, _, w5⟩ := DataW.trod_int Try.underlying3 h5
  obtain ⟨b6, e6, _⟩ := DataW.trod_bool Try.underlying4 h6
  simp [Value.cells, cellsInt, cellsBool] at e0 e1 e2 e3 e4 e5 e6
  simp [Value.cells, cellsInts] at h7
  obtain ⟨a7, n7, k7, y7, rfl, q7⟩ := nums_of h7
  subst e0 e1 e2 e3 e4 e5 e6
  exact ⟨⟨i0, i1, i2, i3, i4, i5, b6, a7, n7, k7, y7⟩, rfl, ⟨bdi w0, bdi w1, bdi w2, bdi w3, bdi w4, bdi w5, q7⟩⟩

end
end Go.Proofs.Ytmfmiflifebflaa
