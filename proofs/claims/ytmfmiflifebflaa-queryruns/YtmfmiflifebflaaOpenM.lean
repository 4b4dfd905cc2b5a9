/- Numbers of a model, models that came in as arguments: what a walk is told of them. -/
import Derived.Test.YtmfmiflifebflaaOpenT
import Derived.Test.YtmfmiflifebflaaRowsF
namespace Go.Proofs.Ytmfmiflifebflaa
open Go.ChangeShapes Go.WideShapes Go.ChangeAt Go.RowKit Go.Deep M

section
variable {H : Type} {enc : TypeId × Value → H} {W : World} {base : Nat} {spare : Nat → Bool} {held : Bool}

theorem cellsSeed : Try.prog.cellsOf 70 = 5 := by kernel_rfl
theorem cellsInts : Try.prog.cellsOf 39 = 1 := by kernel_rfl
theorem cellsWords : Try.prog.cellsOf 59 = 1 := by kernel_rfl
theorem cellsTr : Try.prog.cellsOf 61 = 2 := by kernel_rfl
theorem cellsSeeds : Try.prog.cellsOf 40 = 1 := by kernel_rfl
theorem cellsTrs : Try.prog.cellsOf 23 = 1 := by kernel_rfl
theorem cells3 : Try.prog.cellsOf 22 = 3 := by kernel_rfl

set_option maxRecDepth 100000 in
theorem seed_of {fuel : Nat} {c0 c1 c2 c3 c4 : Value} {x : DataW H × List MemPlace} (hf : DataW.trod enc Try.prog W base spare held fuel 70 [c0, c1, c2, c3, c4] = some x) :
    ∃ s : Seed, s.ok W ∧ c0 = .int .i64 s.cl ∧ c1 = .slice s.a1 s.n1 s.c1 ∧ c2 = .slice s.a2 s.n2 s.c2 ∧ c3 = .slice s.a3 s.n3 s.c3 ∧ c4 = .slice s.a4 s.n4 s.c4 := by
  obtain ⟨xs, m, _, _, _, hl, hi⟩ := DataW.trod_struct Try.underlying70 hf
  match xs, hl with
  | [z0, z1, z2, z3, z4], _ =>
  have h0 := hi 0 _ rfl
  have h1 := hi 1 _ rfl
  have h2 := hi 2 _ rfl
  have h3 := hi 3 _ rfl
  have h4 := hi 4 _ rfl
  obtain ⟨i0, e0, _, w0⟩ := DataW.trod_int Try.underlying3 h0
  simp [cellsInt] at e0
  simp [cellsInts] at h1 h2 h3 h4
  obtain ⟨a1, n1, k1, y1, rfl, q1⟩ := nums_of h1
  obtain ⟨a2, n2, k2, y2, rfl, q2⟩ := nums_of h2
  obtain ⟨a3, n3, k3, y3, rfl, q3⟩ := nums_of h3
  obtain ⟨a4, n4, k4, y4, rfl, q4⟩ := nums_of h4
  subst e0
  exact ⟨⟨i0, a1, n1, k1, y1, a2, n2, k2, y2, a3, n3, k3, y3, a4, n4, k4, y4⟩, ⟨bdi w0, q1, q2, q3, q4⟩, rfl, rfl, rfl, rfl, rfl⟩
set_option maxRecDepth 100000 in
theorem tr_of {fuel : Nat} {c0 c1 : Value} {x : DataW H × List MemPlace} (hf : DataW.trod enc Try.prog W base spare held fuel 61 [c0, c1] = some x) :
    ∃ t : Tr, t.ok W ∧ c0 = .int .i64 t.cl ∧ c1 = .slice t.a t.n t.c := by
  obtain ⟨xs, m, _, _, _, hl, hi⟩ := DataW.trod_struct Try.underlying61 hf
  match xs, hl with
  | [z0, z1], _ =>
  have h0 := hi 0 _ rfl
  have h1 := hi 1 _ rfl
  obtain ⟨i0, e0, _, w0⟩ := DataW.trod_int Try.underlying3 h0
  simp [cellsInt] at e0
  simp [cellsWords] at h1
  obtain ⟨a1, n1, k1, y1, rfl, q1⟩ := words_of h1
  subst e0
  exact ⟨⟨i0, a1, n1, k1, y1⟩, ⟨bdi w0, q1⟩, rfl, rfl⟩
instance : Inhabited Seed := ⟨⟨0, none, 0, 0, [], none, 0, 0, [], none, 0, 0, [], none, 0, 0, []⟩⟩
instance : Inhabited Tr := ⟨Tr.nil⟩

set_option maxRecDepth 100000 in
theorem seeds_of {fuel : Nat} {v : Value} {x : DataW H × List MemPlace} (hf : DataW.trod enc Try.prog W base spare held fuel 40 [v] = some x) : ∃ a len cap f, v = .slice a len cap ∧ IsSd W a len cap f := by
  rcases open_slice Try.underlying40 hf with ⟨hcs, _⟩ | ⟨x, l, c, m, n, D, Pl, hcs, hb, hl, hm, hmm, _, hel⟩
  · simp at hcs
    exact ⟨none, 0, 0, fun _ => default, hcs, Nat.le_refl _, by unfold maxLen; omega, fun i hi => by omega, by omega⟩
  · simp at hcs
    have hle : l ≤ m := by rw [hmm]; split <;> omega
    have hone : ∀ i, i < l → ∃ s : Seed, s.ok W ∧ ∀ j u, [Value.int .i64 s.cl, .slice s.a1 s.n1 s.c1, .slice s.a2 s.n2 s.c2, .slice s.a3 s.n3 s.c3, .slice s.a4 s.n4 s.c4][j]? = some u → W.cell? ((x.add (i * 5)).add j) = some u := by
      intro i hi
      obtain ⟨cs', h1, h2⟩ := hel i (by omega)
      rw [cellsSeed] at h1
      obtain ⟨hlen, hget⟩ := cells_at h1
      match cs', hlen, hget with
      | [c0, c1, c2, c3, c4], _, hget =>
      obtain ⟨s, hs, rfl, rfl, rfl, rfl, rfl⟩ := seed_of h2
      exact ⟨s, hs, hget⟩
    obtain ⟨f, hf2⟩ := choose_at hone
    refine ⟨some x, l, c, f, hcs, hl, hm, fun i hi => (hf2 i hi).1, fun h0 => ?_⟩
    have h00 := (hf2 0 h0).2 0 _ rfl
    obtain ⟨g, o, rfl, hg⟩ := spot_at (by rwa [show (x.add (0 * 5)).add 0 = x from rfl] at h00)
    refine ⟨g, o, rfl, hg, fun i hi => ?_⟩
    have q := (hf2 i hi).2
    simp only [add_at] at q
    exact ⟨q 0 _ rfl, q 1 _ rfl, q 2 _ rfl, q 3 _ rfl, q 4 _ rfl⟩
set_option maxRecDepth 100000 in
theorem trs_of {fuel : Nat} {v : Value} {x : DataW H × List MemPlace} (hf : DataW.trod enc Try.prog W base spare held fuel 23 [v] = some x) : ∃ a len cap f, v = .slice a len cap ∧ IsT W a len cap f := by
  rcases open_slice Try.underlying23 hf with ⟨hcs, _⟩ | ⟨x, l, c, m, n, D, Pl, hcs, hb, hl, hm, hmm, _, hel⟩
  · simp at hcs
    exact ⟨none, 0, 0, [], hcs, rfl, Nat.le_refl _, by unfold maxLen; omega, fun i hi => by omega, by omega⟩
  · simp at hcs
    have hle : l ≤ m := by rw [hmm]; split <;> omega
    have hone : ∀ i, i < l → ∃ t : Tr, t.ok W ∧ ∀ j u, [Value.int .i64 t.cl, .slice t.a t.n t.c][j]? = some u → W.cell? ((x.add (i * 2)).add j) = some u := by
      intro i hi
      obtain ⟨cs', h1, h2⟩ := hel i (by omega)
      rw [cellsTr] at h1
      obtain ⟨hlen, hget⟩ := cells_at h1
      match cs', hlen, hget with
      | [c0, c1], _, hget =>
      obtain ⟨t, ht, rfl, rfl⟩ := tr_of h2
      exact ⟨t, ht, hget⟩
    obtain ⟨f, hf2⟩ := choose_at hone
    have hat : ∀ i, i < l → tA ((List.range l).map f) i = f i := fun i hi => by simp [tA, hi]
    refine ⟨some x, l, c, (List.range l).map f, hcs, by simp, hl, hm, fun i hi => by rw [hat i hi]; exact (hf2 i hi).1, fun h0 => ?_⟩
    have h00 := (hf2 0 h0).2 0 _ rfl
    obtain ⟨g, o, rfl, hg⟩ := spot_at (by rwa [show (x.add (0 * 2)).add 0 = x from rfl] at h00)
    refine ⟨g, o, rfl, hg, fun i hi => ?_⟩
    simp at hi
    have q := (hf2 i hi).2
    simp only [add_at] at q
    rw [hat i hi]
    exact ⟨q 0 _ rfl, q 1 _ rfl⟩
set_option maxRecDepth 100000 in
theorem open_forest {r : Reach} {b0 : Nat} {v : Value} {d : DataW H} {ps : List MemPlace}
    (hval : Value.okWide Try.prog W r b0 42 v) (h : DataW.Trod enc Try.prog W base spare held 42 v d ps) : ∃ f : Fo, v = forestV f ∧ f.ok W := by
  have cellsF : Try.prog.cellsOf 42 = 4 := by kernel_rfl
  obtain ⟨cs, rfl, hsz⟩ := okWide_struct Try.underlying42 hval
  rw [cellsF] at hsz
  obtain ⟨l⟩ := cs
  match l, hsz with
  | [c0, c1, c2, c3], _ =>
  obtain ⟨fuel, hf⟩ := h
  obtain ⟨xs, m, _, _, _, hl, hi⟩ := DataW.trod_struct Try.underlying42 hf
  match xs, hl with
  | [z0, z1, z2, z3], _ =>
  have h0 := hi 0 _ rfl
  have h1 := hi 1 _ rfl
  have h2 := hi 2 _ rfl
  have h3 := hi 3 _ rfl
  obtain ⟨i0, e0, _, w0⟩ := DataW.trod_int Try.underlying3 h0
  obtain ⟨i1, e1, _, w1⟩ := DataW.trod_int Try.underlying3 h1
  simp [Value.cells, cellsInt] at e0 e1
  simp [Value.cells, cellsInts] at h2
  simp [Value.cells, cellsSeeds] at h3
  obtain ⟨a2, n2, k2, y2, rfl, q2⟩ := nums_of h2
  obtain ⟨a3, n3, k3, f3, rfl, q3⟩ := seeds_of h3
  subst e0 e1
  exact ⟨⟨i0, i1, a2, n2, k2, y2, a3, n3, k3, f3⟩, rfl, bdi w0, bdi w1, q2, q3⟩
set_option maxRecDepth 100000 in
theorem open_model {r : Reach} {b0 : Nat} {v : Value} {d : DataW H} {ps : List MemPlace}
    (hval : Value.okWide Try.prog W r b0 25 v) (h : DataW.Trod enc Try.prog W base spare held 25 v d ps) : ∃ m : Md, v = modelV m ∧ m.ok W := by
  have cellsM : Try.prog.cellsOf 25 = 6 := by kernel_rfl
  obtain ⟨cs, rfl, hsz⟩ := okWide_struct Try.underlying25 hval
  rw [cellsM] at hsz
  obtain ⟨l⟩ := cs
  match l, hsz with
  | [c0, c1, c2, c3, c4, c5], _ =>
  obtain ⟨fuel, hf⟩ := h
  obtain ⟨xs, m, _, _, _, hl, hi⟩ := DataW.trod_struct Try.underlying25 hf
  match xs, hl with
  | [z0, z1, z2, z3], _ =>
  have h0 := hi 0 _ rfl
  have h1 := hi 1 _ rfl
  have h2 := hi 2 _ rfl
  have h3 := hi 3 _ rfl
  obtain ⟨i0, e0, _, w0⟩ := DataW.trod_int Try.underlying3 h0
  obtain ⟨i1, e1, _, w1⟩ := DataW.trod_int Try.underlying3 h1
  simp [Value.cells, cellsInt] at e0 e1
  simp [Value.cells, cells3] at h2
  simp [Value.cells, cellsTrs] at h3
  obtain ⟨xs2, m2, _, _, _, hl2, hi2⟩ := DataW.trod_array Try.underlying22 h2
  match xs2, hl2 with
  | [y0, y1, y2], _ =>
  have g0 := hi2 0 (by decide)
  have g1 := hi2 1 (by decide)
  have g2 := hi2 2 (by decide)
  rw [cellsInt] at g0 g1 g2
  obtain ⟨j0, f0, _, v0⟩ := DataW.trod_int Try.underlying3 g0
  obtain ⟨j1, f1, _, v1⟩ := DataW.trod_int Try.underlying3 g1
  obtain ⟨j2, f2, _, v2⟩ := DataW.trod_int Try.underlying3 g2
  simp at f0 f1 f2
  obtain ⟨a3, n3, k3, t3, rfl, q3⟩ := trs_of h3
  subst e0 e1 f0 f1 f2
  exact ⟨⟨i0, i1, j0, j1, j2, a3, n3, k3, t3⟩, rfl, bdi w0, bdi w1, bdi v0, bdi v1, bdi v2, q3⟩
end

end Go.Proofs.Ytmfmiflifebflaa
