/- A node that came in as an argument: a bool and five ints.
   Words, points, the numbers of a tree that came in as arguments: what a walk is told of them.
   Numbers of a model, models that came in as arguments: what a walk is told of them.
   A span that came in as an argument: two ints.
   A box, a point that came in as an argument: ten ints, four ints.
   A query, the numbers of one, that came in as an argument.
   Rows of rows of ints that came in as arguments: what a walk is told of them. -/
import Derived.Test.YtkkbeobocbgmeaaGreatNodeD
import Derived.OpenShut
import Derived.Test.YtkkbeobocbgmeaaGreatRowsM
import Derived.Deep.Slices
import Derived.Test.YtkkbeobocbgmeaaGreatRowsF
import Derived.Test.YtkkbeobocbgmeaaGreatSpanIs
import Derived.Test.YtkkbeobocbgmeaaGreatBoxV
import Derived.Test.YtkkbeobocbgmeaaGreatQueryB
import Derived.Test.YtkkbeobocbgmeaaGreatRowsL
namespace Go.Proofs.YtkkbeobocbgmeaaGreat
open Go.ChangeShapes Go.WideShapes Go.ChangeAt Go.RowKit M

theorem cellsInt : Tryz.prog.cellsOf 3 = 1 := by kernel_rfl
theorem cellsBool : Tryz.prog.cellsOf 4 = 1 := by kernel_rfl
theorem cellsNode : Tryz.prog.cellsOf 77 = 6 := by kernel_rfl
theorem laid_out : laidOutB Tryz.prog = true := by kernel_rfl

set_option maxRecDepth 100000 in
theorem open_node {H : Type} {enc : TypeId × Value → H} {W : World} {r : Reach} {b0 : Nat} {base : Nat} {spare : Nat → Bool} {held : Bool} {v : Value} {d : DataW H} {ps : List MemPlace}
    (hval : Value.okWide Tryz.prog W r b0 77 v) (h : DataW.Trod enc Tryz.prog W base spare held 77 v d ps) :
    ∃ n : Nd, v = nodeV n := by
  obtain ⟨cs, rfl, hsz⟩ := okWide_struct Tryz.underlying77 hval
  rw [cellsNode] at hsz
  obtain ⟨l⟩ := cs
  match l, hsz with
  | [c0, c1, c2, c3, c4, c5], _ =>
  obtain ⟨fuel, hf⟩ := h
  obtain ⟨xs, m, _, _, _, hl, hi⟩ := DataW.trod_struct Tryz.underlying77 hf
  match xs, hl with
  | [z0, z1, z2, z3, z4, z5], _ =>
  have h0 := hi 0 _ rfl
  have h1 := hi 1 _ rfl
  have h2 := hi 2 _ rfl
  have h3 := hi 3 _ rfl
  have h4 := hi 4 _ rfl
  have h5 := hi 5 _ rfl
  obtain ⟨b, e0, _⟩ := DataW.trod_bool Tryz.underlying4 h0
  obtain ⟨i1, e1, _, _⟩ := DataW.trod_int Tryz.underlying3 h1
  obtain ⟨i2, e2, _, _⟩ := DataW.trod_int Tryz.underlying3 h2
  obtain ⟨i3, e3, _, _⟩ := DataW.trod_int Tryz.underlying3 h3
  obtain ⟨i4, e4, _, _⟩ := DataW.trod_int Tryz.underlying3 h4
  obtain ⟨i5, e5, _, _⟩ := DataW.trod_int Tryz.underlying3 h5
  simp [Value.cells, cellsInt, cellsBool] at e0 e1 e2 e3 e4 e5
  subst e0 e1 e2 e3 e4 e5
  exact ⟨⟨b, i1, i2, i3, i4, i5⟩, rfl⟩

end Go.Proofs.YtkkbeobocbgmeaaGreat
namespace Go.Proofs.YtkkbeobocbgmeaaGreat
open Go.ChangeShapes Go.WideShapes Go.ChangeAt Go.RowKit Go.Deep M

theorem cellsPt : Tryz.prog.cellsOf 70 = 4 := by kernel_rfl
theorem spot_at {w : World} {x : Addr} {v : Value} (h : w.cell? x = some v) : ∃ g o, x = ⟨g, o, none⟩ ∧ g < w.heap.size := by
  obtain ⟨g, o, s⟩ := x
  unfold World.cell? at h
  split at h
  · rename_i hb
    cases s with
    | none => exact ⟨g, o, rfl, (Array.getElem?_eq_some_iff.1 hb).1⟩
    | some _ => simp at h
  · cases h
theorem mapM_at {α β : Type} {f : α → Option β} : ∀ {l : List α} {r : List β}, l.mapM f = some r → r.length = l.length ∧ ∀ (j : Nat) x u, l[j]? = some x → r[j]? = some u → f x = some u
  | [], r, h => by
    simp at h
    subst h
    exact ⟨rfl, fun j x u h => by simp at h⟩
  | a :: l, r, h => by
    rw [List.mapM_cons] at h
    cases ha : f a with
    | none => rw [ha] at h; cases h
    | some b =>
      rw [ha] at h
      cases hl : l.mapM f with
      | none => rw [hl] at h; cases h
      | some r' =>
        rw [hl] at h
        cases h
        obtain ⟨h1, h2⟩ := mapM_at hl
        refine ⟨by simp [h1], fun j x u hx hu => ?_⟩
        cases j with
        | zero =>
          simp at hx hu
          rw [← hx, ha, hu]
        | succ j =>
          simp at hx hu
          exact h2 j x u hx hu
theorem cells_at {w : World} {base : Nat} {a : Addr} {n : Nat} {cs : List Value} (h : w.cells? base a n = some cs) : cs.length = n ∧ ∀ j u, cs[j]? = some u → w.cell? (a.add j) = some u := by
  unfold World.cells? at h
  split at h
  · obtain ⟨h1, h2⟩ := mapM_at h
    simp at h1
    refine ⟨h1, fun j u hu => h2 j j u ?_ hu⟩
    have := (List.getElem?_eq_some_iff.1 hu).1
    rw [List.getElem?_range (by omega)]
  · cases h
theorem choose_at {α : Type} [Inhabited α] {n : Nat} {P : Nat → α → Prop} (h : ∀ i, i < n → ∃ x, P i x) : ∃ f : Nat → α, ∀ i, i < n → P i (f i) :=
  ⟨fun i => if hi : i < n then Classical.choose (h i hi) else default, fun i hi => by simp only [hi, dif_pos]; exact Classical.choose_spec (h i hi)⟩

section
variable {H : Type} {enc : TypeId × Value → H} {W : World} {base : Nat} {spare : Nat → Bool} {held : Bool}

theorem words_of {fuel : Nat} {v : Value} {x : DataW H × List MemPlace} (h : DataW.trod enc Tryz.prog W base spare held fuel 57 [v] = some x) : ∃ a len cap z, v = .slice a len cap ∧ IsW W a len cap z := by
  rcases open_ints Tryz.underlying57 Tryz.underlying75 (by kernel_rfl) h with ⟨hcs, _⟩ | ⟨x, l, c, zs, hcs, _, hl, hm, hz, _, hcell, hwz⟩
  · simp at hcs
    exact ⟨none, 0, 0, [], hcs, rfl, Nat.le_refl _, by unfold maxLen; omega, fun i hi => by omega, by omega⟩
  · simp at hcs
    have hlz : l ≤ zs.length := by rw [hz]; split <;> omega
    refine ⟨some x, l, c, zs.take l, hcs, by simp; omega, hl, hm, fun i hi => ?_, fun h0 => ?_⟩
    · rw [wd_take _ _ _ hi]
      have : wd zs i ∈ zs := by
        simp only [wd, List.getD_eq_getElem?_getD, List.getElem?_eq_getElem (show i < zs.length by omega), Option.getD_some]
        exact List.getElem_mem _
      exact bdu (hwz _ this)
    · obtain ⟨g, o, rfl, hg⟩ := spot_at (by have := hcell 0 (by omega); rwa [show x.add 0 = x from rfl] at this)
      refine ⟨g, o, rfl, hg, fun i hi => ?_⟩
      simp at hi
      have := hcell i (by omega)
      rw [add_at] at this
      rw [this, wd_take _ _ _ (by omega)]
      rfl
theorem nums_of {fuel : Nat} {v : Value} {x : DataW H × List MemPlace} (h : DataW.trod enc Tryz.prog W base spare held fuel 22 [v] = some x) : ∃ a len cap z, v = .slice a len cap ∧ IsI W a len cap z := by
  rcases open_ints Tryz.underlying22 Tryz.underlying3 (by kernel_rfl) h with ⟨hcs, _⟩ | ⟨x, l, c, zs, hcs, _, hl, hm, hz, _, hcell, hwz⟩
  · simp at hcs
    exact ⟨none, 0, 0, [], hcs, rfl, Nat.le_refl _, by unfold maxLen; omega, fun i hi => by omega, by omega⟩
  · simp at hcs
    have hlz : l ≤ zs.length := by rw [hz]; split <;> omega
    refine ⟨some x, l, c, zs.take l, hcs, by simp; omega, hl, hm, fun i hi => ?_, fun h0 => ?_⟩
    · rw [wd_take _ _ _ hi]
      have : wd zs i ∈ zs := by
        simp only [wd, List.getD_eq_getElem?_getD, List.getElem?_eq_getElem (show i < zs.length by omega), Option.getD_some]
        exact List.getElem_mem _
      exact bdi (hwz _ this)
    · obtain ⟨g, o, rfl, hg⟩ := spot_at (by have := hcell 0 (by omega); rwa [show x.add 0 = x from rfl] at this)
      refine ⟨g, o, rfl, hg, fun i hi => ?_⟩
      simp at hi
      have := hcell i (by omega)
      rw [add_at] at this
      rw [this, wd_take _ _ _ (by omega)]
      rfl

set_option maxRecDepth 100000 in
theorem open_words {r : Reach} {b0 : Nat} {v : Value} {d : DataW H} {ps : List MemPlace}
    (hval : Value.okWide Tryz.prog W r b0 57 v) (h : DataW.Trod enc Tryz.prog W base spare held 57 v d ps) : ∃ a len cap z, v = .slice a len cap ∧ IsW W a len cap z := by
  obtain ⟨a, len, cap, rfl⟩ := okWide_slice Tryz.underlying57 hval
  obtain ⟨fuel, hf⟩ := h
  exact words_of hf

set_option maxRecDepth 100000 in
theorem open_intsI {r : Reach} {b0 : Nat} {v : Value} {d : DataW H} {ps : List MemPlace}
    (hval : Value.okWide Tryz.prog W r b0 22 v) (h : DataW.Trod enc Tryz.prog W base spare held 22 v d ps) : ∃ a len cap z, v = .slice a len cap ∧ IsI W a len cap z := by
  obtain ⟨a, len, cap, rfl⟩ := okWide_slice Tryz.underlying22 hval
  obtain ⟨fuel, hf⟩ := h
  exact nums_of hf

set_option maxRecDepth 100000 in
theorem open_seed {r : Reach} {b0 : Nat} {v : Value} {d : DataW H} {ps : List MemPlace}
    (hval : Value.okWide Tryz.prog W r b0 56 v) (h : DataW.Trod enc Tryz.prog W base spare held 56 v d ps) : ∃ s : Seed, v = seedV s ∧ s.ok W := by
  have cellsTree : Tryz.prog.cellsOf 56 = 5 := by kernel_rfl
  have cellsSl : Tryz.prog.cellsOf 22 = 1 := by kernel_rfl
  obtain ⟨cs, rfl, hsz⟩ := okWide_struct Tryz.underlying56 hval
  rw [cellsTree] at hsz
  obtain ⟨l⟩ := cs
  match l, hsz with
  | [c0, c1, c2, c3, c4], _ =>
  obtain ⟨fuel, hf⟩ := h
  obtain ⟨xs, m, _, _, _, hl, hi⟩ := DataW.trod_struct Tryz.underlying56 hf
  match xs, hl with
  | [z0, z1, z2, z3, z4], _ =>
  have h0 := hi 0 _ rfl
  have h1 := hi 1 _ rfl
  have h2 := hi 2 _ rfl
  have h3 := hi 3 _ rfl
  have h4 := hi 4 _ rfl
  obtain ⟨i0, e0, _, w0⟩ := DataW.trod_int Tryz.underlying3 h0
  simp [Value.cells, cellsInt] at e0
  simp [Value.cells, cellsSl] at h1 h2 h3 h4
  obtain ⟨a1, n1, k1, y1, rfl, q1⟩ := nums_of h1
  obtain ⟨a2, n2, k2, y2, rfl, q2⟩ := nums_of h2
  obtain ⟨a3, n3, k3, y3, rfl, q3⟩ := nums_of h3
  obtain ⟨a4, n4, k4, y4, rfl, q4⟩ := nums_of h4
  subst e0
  exact ⟨⟨i0, a1, n1, k1, y1, a2, n2, k2, y2, a3, n3, k3, y3, a4, n4, k4, y4⟩, rfl, bdi w0, q1, q2, q3, q4⟩

set_option maxRecDepth 100000 in
theorem point_of {fuel : Nat} {c0 c1 c2 c3 : Value} {x : DataW H × List MemPlace} (hf : DataW.trod enc Tryz.prog W base spare held fuel 70 [c0, c1, c2, c3] = some x) :
    ∃ p : Int → Int, PtFit p ∧ c0 = .int .i64 (p 0) ∧ c1 = .int .i64 (p 1) ∧ c2 = .int .i64 (p 2) ∧ c3 = .int .i64 (p 3) := by
  obtain ⟨xs, m, _, _, _, hl, hi⟩ := DataW.trod_array Tryz.underlying70 hf
  match xs, hl with
  | [z0, z1, z2, z3], _ =>
  have h0 := hi 0 (by decide)
  have h1 := hi 1 (by decide)
  have h2 := hi 2 (by decide)
  have h3 := hi 3 (by decide)
  rw [cellsInt] at h0 h1 h2 h3
  obtain ⟨a, e0, _, wa⟩ := DataW.trod_int Tryz.underlying3 h0
  obtain ⟨b, e1, _, wb⟩ := DataW.trod_int Tryz.underlying3 h1
  obtain ⟨c, e2, _, wc⟩ := DataW.trod_int Tryz.underlying3 h2
  obtain ⟨e, e3, _, we⟩ := DataW.trod_int Tryz.underlying3 h3
  simp at e0 e1 e2 e3
  subst e0 e1 e2 e3
  refine ⟨fun i => if i = 0 then a else if i = 1 then b else if i = 2 then c else e, fun i => ?_, rfl, rfl, rfl, rfl⟩
  have := bdi wa; have := bdi wb; have := bdi wc; have := bdi we
  show _ ≤ (if i = 0 then a else if i = 1 then b else if i = 2 then c else e) ∧ (if i = 0 then a else if i = 1 then b else if i = 2 then c else e) ≤ _
  split
  · assumption
  · split
    · assumption
    · split <;> assumption

set_option maxRecDepth 100000 in
theorem open_pt {r : Reach} {b0 : Nat} {v : Value} {d : DataW H} {ps : List MemPlace}
    (hval : Value.okWide Tryz.prog W r b0 70 v) (h : DataW.Trod enc Tryz.prog W base spare held 70 v d ps) : ∃ p : Int → Int, v = pointV p ∧ PtFit p := by
  simp only [Value.okWide, Tryz.underlying70] at hval
  obtain ⟨cs, rfl, hsz, _⟩ := hval
  rw [cellsPt] at hsz
  obtain ⟨l⟩ := cs
  match l, hsz with
  | [c0, c1, c2, c3], _ =>
  obtain ⟨fuel, hf⟩ := h
  obtain ⟨p, hp, e0, e1, e2, e3⟩ := point_of hf
  subst e0 e1 e2 e3
  exact ⟨p, rfl, hp⟩

end

end Go.Proofs.YtkkbeobocbgmeaaGreat
namespace Go.Proofs.YtkkbeobocbgmeaaGreat
open Go.ChangeShapes Go.WideShapes Go.ChangeAt Go.RowKit Go.Deep M

section
variable {H : Type} {enc : TypeId × Value → H} {W : World} {base : Nat} {spare : Nat → Bool} {held : Bool}

theorem cellsSeed : Tryz.prog.cellsOf 56 = 5 := by kernel_rfl
theorem cellsInts : Tryz.prog.cellsOf 22 = 1 := by kernel_rfl
theorem cellsWords : Tryz.prog.cellsOf 57 = 1 := by kernel_rfl
theorem cellsTr : Tryz.prog.cellsOf 60 = 2 := by kernel_rfl
theorem cellsSeeds : Tryz.prog.cellsOf 23 = 1 := by kernel_rfl
theorem cellsTrs : Tryz.prog.cellsOf 29 = 1 := by kernel_rfl
theorem cells3 : Tryz.prog.cellsOf 28 = 3 := by kernel_rfl

set_option maxRecDepth 100000 in
theorem seed_of {fuel : Nat} {c0 c1 c2 c3 c4 : Value} {x : DataW H × List MemPlace} (hf : DataW.trod enc Tryz.prog W base spare held fuel 56 [c0, c1, c2, c3, c4] = some x) :
    ∃ s : Seed, s.ok W ∧ c0 = .int .i64 s.cl ∧ c1 = .slice s.a1 s.n1 s.c1 ∧ c2 = .slice s.a2 s.n2 s.c2 ∧ c3 = .slice s.a3 s.n3 s.c3 ∧ c4 = .slice s.a4 s.n4 s.c4 := by
  obtain ⟨xs, m, _, _, _, hl, hi⟩ := DataW.trod_struct Tryz.underlying56 hf
  match xs, hl with
  | [z0, z1, z2, z3, z4], _ =>
  have h0 := hi 0 _ rfl
  have h1 := hi 1 _ rfl
  have h2 := hi 2 _ rfl
  have h3 := hi 3 _ rfl
  have h4 := hi 4 _ rfl
  obtain ⟨i0, e0, _, w0⟩ := DataW.trod_int Tryz.underlying3 h0
  simp [cellsInt] at e0
  simp [cellsInts] at h1 h2 h3 h4
  obtain ⟨a1, n1, k1, y1, rfl, q1⟩ := nums_of h1
  obtain ⟨a2, n2, k2, y2, rfl, q2⟩ := nums_of h2
  obtain ⟨a3, n3, k3, y3, rfl, q3⟩ := nums_of h3
  obtain ⟨a4, n4, k4, y4, rfl, q4⟩ := nums_of h4
  subst e0
  exact ⟨⟨i0, a1, n1, k1, y1, a2, n2, k2, y2, a3, n3, k3, y3, a4, n4, k4, y4⟩, ⟨bdi w0, q1, q2, q3, q4⟩, rfl, rfl, rfl, rfl, rfl⟩
set_option maxRecDepth 100000 in
theorem tr_of {fuel : Nat} {c0 c1 : Value} {x : DataW H × List MemPlace} (hf : DataW.trod enc Tryz.prog W base spare held fuel 60 [c0, c1] = some x) :
    ∃ t : Tr, t.ok W ∧ c0 = .int .i64 t.cl ∧ c1 = .slice t.a t.n t.c := by
  obtain ⟨xs, m, _, _, _, hl, hi⟩ := DataW.trod_struct Tryz.underlying60 hf
  match xs, hl with
  | [z0, z1], _ =>
  have h0 := hi 0 _ rfl
  have h1 := hi 1 _ rfl
  obtain ⟨i0, e0, _, w0⟩ := DataW.trod_int Tryz.underlying3 h0
  simp [cellsInt] at e0
  simp [cellsWords] at h1
  obtain ⟨a1, n1, k1, y1, rfl, q1⟩ := words_of h1
  subst e0
  exact ⟨⟨i0, a1, n1, k1, y1⟩, ⟨bdi w0, q1⟩, rfl, rfl⟩
instance : Inhabited Seed := ⟨⟨0, none, 0, 0, [], none, 0, 0, [], none, 0, 0, [], none, 0, 0, []⟩⟩
instance : Inhabited Tr := ⟨Tr.nil⟩

set_option maxRecDepth 100000 in
theorem seeds_of {fuel : Nat} {v : Value} {x : DataW H × List MemPlace} (hf : DataW.trod enc Tryz.prog W base spare held fuel 23 [v] = some x) : ∃ a len cap f, v = .slice a len cap ∧ IsSd W a len cap f := by
  rcases open_slice Tryz.underlying23 hf with ⟨hcs, _⟩ | ⟨x, l, c, m, n, D, Pl, hcs, hb, hl, hm, hmm, _, hel⟩
  · simp at hcs
    exact ⟨none, 0, 0, fun _ => default, hcs, Nat.le_refl _, by unfold maxLen; omega, fun i hi => by omega, by omega⟩
  · simp at hcs
    have hle : l ≤ m := by rw [hmm]; split <;> omega
    have hone : ∀ i, i < l → ∃ s : Seed, s.ok W ∧ ∀ j u, [Value.int .i64 s.cl, .slice s.a1 s.n1 s.c1, .slice s.a2 s.n2 s.c2, .slice s.a3 s.n3 s.c3, .slice s.a4 s.n4 s.c4][j]? = some u → W.cell? ((x.add (i * 5)).add j) = some u := by
      intro i hi
      obtain ⟨cs', h1, h2⟩ := hel i (by omega)
      rw [cellsSeed] at h1
      obtain ⟨hlen, hget⟩ := cells_at h1
      match cs', hlen, hget with
      | [c0, c1, c2, c3, c4], _, hget =>
      obtain ⟨s, hs, rfl, rfl, rfl, rfl, rfl⟩ := seed_of h2
      exact ⟨s, hs, hget⟩
    obtain ⟨f, hf2⟩ := choose_at hone
    refine ⟨some x, l, c, f, hcs, hl, hm, fun i hi => (hf2 i hi).1, fun h0 => ?_⟩
    have h00 := (hf2 0 h0).2 0 _ rfl
    obtain ⟨g, o, rfl, hg⟩ := spot_at (by rwa [show (x.add (0 * 5)).add 0 = x from rfl] at h00)
    refine ⟨g, o, rfl, hg, fun i hi => ?_⟩
    have q := (hf2 i hi).2
    simp only [add_at] at q
    exact ⟨q 0 _ rfl, q 1 _ rfl, q 2 _ rfl, q 3 _ rfl, q 4 _ rfl⟩
set_option maxRecDepth 100000 in
theorem trs_of {fuel : Nat} {v : Value} {x : DataW H × List MemPlace} (hf : DataW.trod enc Tryz.prog W base spare held fuel 29 [v] = some x) : ∃ a len cap f, v = .slice a len cap ∧ IsT W a len cap f := by
  rcases open_slice Tryz.underlying29 hf with ⟨hcs, _⟩ | ⟨x, l, c, m, n, D, Pl, hcs, hb, hl, hm, hmm, _, hel⟩
  · simp at hcs
    exact ⟨none, 0, 0, [], hcs, rfl, Nat.le_refl _, by unfold maxLen; omega, fun i hi => by omega, by omega⟩
  · simp at hcs
    have hle : l ≤ m := by rw [hmm]; split <;> omega
    have hone : ∀ i, i < l → ∃ t : Tr, t.ok W ∧ ∀ j u, [Value.int .i64 t.cl, .slice t.a t.n t.c][j]? = some u → W.cell? ((x.add (i * 2)).add j) = some u := by
      intro i hi
      obtain ⟨cs', h1, h2⟩ := hel i (by omega)
      rw [cellsTr] at h1
      obtain ⟨hlen, hget⟩ := cells_at h1
      match cs', hlen, hget with
      | [c0, c1], _, hget =>
      obtain ⟨t, ht, rfl, rfl⟩ := tr_of h2
      exact ⟨t, ht, hget⟩
    obtain ⟨f, hf2⟩ := choose_at hone
    have hat : ∀ i, i < l → tA ((List.range l).map f) i = f i := fun i hi => by simp [tA, hi]
    refine ⟨some x, l, c, (List.range l).map f, hcs, by simp, hl, hm, fun i hi => by rw [hat i hi]; exact (hf2 i hi).1, fun h0 => ?_⟩
    have h00 := (hf2 0 h0).2 0 _ rfl
    obtain ⟨g, o, rfl, hg⟩ := spot_at (by rwa [show (x.add (0 * 2)).add 0 = x from rfl] at h00)
    refine ⟨g, o, rfl, hg, fun i hi => ?_⟩
    simp at hi
    have q := (hf2 i hi).2
    simp only [add_at] at q
    rw [hat i hi]
    exact ⟨q 0 _ rfl, q 1 _ rfl⟩
set_option maxRecDepth 100000 in
theorem open_forest {r : Reach} {b0 : Nat} {v : Value} {d : DataW H} {ps : List MemPlace}
    (hval : Value.okWide Tryz.prog W r b0 25 v) (h : DataW.Trod enc Tryz.prog W base spare held 25 v d ps) : ∃ f : Fo, v = forestV f ∧ f.ok W := by
  have cellsF : Tryz.prog.cellsOf 25 = 4 := by kernel_rfl
  obtain ⟨cs, rfl, hsz⟩ := okWide_struct Tryz.underlying25 hval
  rw [cellsF] at hsz
  obtain ⟨l⟩ := cs
  match l, hsz with
  | [c0, c1, c2, c3], _ =>
  obtain ⟨fuel, hf⟩ := h
  obtain ⟨xs, m, _, _, _, hl, hi⟩ := DataW.trod_struct Tryz.underlying25 hf
  match xs, hl with
  | [z0, z1, z2, z3], _ =>
  have h0 := hi 0 _ rfl
  have h1 := hi 1 _ rfl
  have h2 := hi 2 _ rfl
  have h3 := hi 3 _ rfl
  obtain ⟨i0, e0, _, w0⟩ := DataW.trod_int Tryz.underlying3 h0
  obtain ⟨i1, e1, _, w1⟩ := DataW.trod_int Tryz.underlying3 h1
  simp [Value.cells, cellsInt] at e0 e1
  simp [Value.cells, cellsInts] at h2
  simp [Value.cells, cellsSeeds] at h3
  obtain ⟨a2, n2, k2, y2, rfl, q2⟩ := nums_of h2
  obtain ⟨a3, n3, k3, f3, rfl, q3⟩ := seeds_of h3
  subst e0 e1
  exact ⟨⟨i0, i1, a2, n2, k2, y2, a3, n3, k3, f3⟩, rfl, bdi w0, bdi w1, q2, q3⟩
set_option maxRecDepth 100000 in
theorem open_model {r : Reach} {b0 : Nat} {v : Value} {d : DataW H} {ps : List MemPlace}
    (hval : Value.okWide Tryz.prog W r b0 31 v) (h : DataW.Trod enc Tryz.prog W base spare held 31 v d ps) : ∃ m : Md, v = modelV m ∧ m.ok W := by
  have cellsM : Tryz.prog.cellsOf 31 = 6 := by kernel_rfl
  obtain ⟨cs, rfl, hsz⟩ := okWide_struct Tryz.underlying31 hval
  rw [cellsM] at hsz
  obtain ⟨l⟩ := cs
  match l, hsz with
  | [c0, c1, c2, c3, c4, c5], _ =>
  obtain ⟨fuel, hf⟩ := h
  obtain ⟨xs, m, _, _, _, hl, hi⟩ := DataW.trod_struct Tryz.underlying31 hf
  match xs, hl with
  | [z0, z1, z2, z3], _ =>
  have h0 := hi 0 _ rfl
  have h1 := hi 1 _ rfl
  have h2 := hi 2 _ rfl
  have h3 := hi 3 _ rfl
  obtain ⟨i0, e0, _, w0⟩ := DataW.trod_int Tryz.underlying3 h0
  obtain ⟨i1, e1, _, w1⟩ := DataW.trod_int Tryz.underlying3 h1
  simp [Value.cells, cellsInt] at e0 e1
  simp [Value.cells, cells3] at h2
  simp [Value.cells, cellsTrs] at h3
  obtain ⟨xs2, m2, _, _, _, hl2, hi2⟩ := DataW.trod_array Tryz.underlying28 h2
  match xs2, hl2 with
  | [y0, y1, y2], _ =>
  have g0 := hi2 0 (by decide)
  have g1 := hi2 1 (by decide)
  have g2 := hi2 2 (by decide)
  rw [cellsInt] at g0 g1 g2
  obtain ⟨j0, f0, _, v0⟩ := DataW.trod_int Tryz.underlying3 g0
  obtain ⟨j1, f1, _, v1⟩ := DataW.trod_int Tryz.underlying3 g1
  obtain ⟨j2, f2, _, v2⟩ := DataW.trod_int Tryz.underlying3 g2
  simp at f0 f1 f2
  obtain ⟨a3, n3, k3, t3, rfl, q3⟩ := trs_of h3
  subst e0 e1 f0 f1 f2
  exact ⟨⟨i0, i1, j0, j1, j2, a3, n3, k3, t3⟩, rfl, bdi w0, bdi w1, bdi v0, bdi v1, bdi v2, q3⟩
end

end Go.Proofs.YtkkbeobocbgmeaaGreat
namespace Go.Proofs.YtkkbeobocbgmeaaGreat
open Go.ChangeShapes Go.WideShapes Go.ChangeAt Go.RowKit

theorem cellsSpan : Tryz.prog.cellsOf 34 = 2 := by kernel_rfl

set_option maxRecDepth 100000 in
theorem open_span {H : Type} {enc : TypeId × Value → H} {W : World} {r : Reach} {b0 : Nat} {base : Nat} {spare : Nat → Bool} {held : Bool} {v : Value} {d : DataW H} {ps : List MemPlace}
    (hval : Value.okWide Tryz.prog W r b0 34 v) (h : DataW.Trod enc Tryz.prog W base spare held 34 v d ps) :
    ∃ x y, v = spanV x y ∧ (Lit.int .i64 x).wf = true ∧ (Lit.int .i64 y).wf = true := by
  obtain ⟨cs, rfl, hsz⟩ := okWide_struct Tryz.underlying34 hval
  rw [cellsSpan] at hsz
  obtain ⟨l⟩ := cs
  match l, hsz with
  | [c0, c1], _ =>
  obtain ⟨fuel, hf⟩ := h
  obtain ⟨y0, y1, m, hx, _, hy0, hy1⟩ := trod_struct2 Tryz.underlying34 hf
  obtain ⟨a, e0, rfl, wa⟩ := DataW.trod_int Tryz.underlying3 hy0
  obtain ⟨b, e1, rfl, wb⟩ := DataW.trod_int Tryz.underlying3 hy1
  simp [Value.cells, cellsInt] at e0 e1
  subst e0 e1
  exact ⟨a, b, rfl, wa, wb⟩

end Go.Proofs.YtkkbeobocbgmeaaGreat
namespace Go.Proofs.YtkkbeobocbgmeaaGreat
open Go.ChangeShapes Go.WideShapes Go.ChangeAt Go.RowKit M

theorem cellsBox : Tryz.prog.cellsOf 36 = 10 := by kernel_rfl
theorem cellsPoint : Tryz.prog.cellsOf 70 = 4 := by kernel_rfl
theorem i64_of {a : Int} (h : (Lit.int .i64 a).wf = true) : I64 a := bdi h

section
variable {H : Type} {enc : TypeId × Value → H} {W : World} {base : Nat} {spare : Nat → Bool} {held : Bool}

set_option maxRecDepth 100000 in
theorem span_of {fuel : Nat} {c0 c1 : Value} {y : DataW H × List MemPlace} (h : DataW.trod enc Tryz.prog W base spare held fuel 34 [c0, c1] = some y) :
    ∃ s : Sp, s.ok ∧ c0 = .int .i64 s.lo ∧ c1 = .int .i64 s.hi := by
  obtain ⟨y0, y1, m, hx, _, hy0, hy1⟩ := trod_struct2 Tryz.underlying34 h
  obtain ⟨a, e0, rfl, wa⟩ := DataW.trod_int Tryz.underlying3 hy0
  obtain ⟨b, e1, rfl, wb⟩ := DataW.trod_int Tryz.underlying3 hy1
  simp [cellsInt] at e0 e1
  exact ⟨⟨a, b⟩, ⟨i64_of wa, i64_of wb⟩, e0, e1⟩

set_option maxRecDepth 100000 in
theorem box_of {fuel : Nat} {c0 c1 c2 c3 c4 c5 c6 c7 c8 c9 : Value} {y : DataW H × List MemPlace} (h : DataW.trod enc Tryz.prog W base spare held fuel 36 [c0, c1, c2, c3, c4, c5, c6, c7, c8, c9] = some y) :
    ∃ x : Bx, Value.agg #[c0, c1, c2, c3, c4, c5, c6, c7, c8, c9] = boxV x ∧ x.ok := by
  obtain ⟨xs, m, _, _, _, hl, hi⟩ := DataW.trod_array Tryz.underlying36 h
  match xs, hl with
  | [z0, z1, z2, z3, z4], _ =>
  have h0 := hi 0 (by decide)
  have h1 := hi 1 (by decide)
  have h2 := hi 2 (by decide)
  have h3 := hi 3 (by decide)
  have h4 := hi 4 (by decide)
  rw [cellsSpan] at h0 h1 h2 h3 h4
  obtain ⟨s0, k0, rfl, rfl⟩ := span_of h0
  obtain ⟨s1, k1, rfl, rfl⟩ := span_of h1
  obtain ⟨s2, k2, rfl, rfl⟩ := span_of h2
  obtain ⟨s3, k3, rfl, rfl⟩ := span_of h3
  obtain ⟨s4, k4, rfl, rfl⟩ := span_of h4
  exact ⟨⟨s0, s1, s2, s3, s4⟩, rfl, k0, k1, k2, k3, k4⟩

set_option maxRecDepth 100000 in
theorem open_box {r : Reach} {b0 : Nat} {v : Value} {d : DataW H} {ps : List MemPlace}
    (hval : Value.okWide Tryz.prog W r b0 36 v) (h : DataW.Trod enc Tryz.prog W base spare held 36 v d ps) : ∃ x : Bx, v = boxV x ∧ x.ok := by
  simp only [Value.okWide, Tryz.underlying36] at hval
  obtain ⟨cs, rfl, hsz, _⟩ := hval
  rw [cellsBox] at hsz
  obtain ⟨l⟩ := cs
  match l, hsz with
  | [c0, c1, c2, c3, c4, c5, c6, c7, c8, c9], _ =>
  obtain ⟨fuel, hf⟩ := h
  exact box_of hf

set_option maxRecDepth 100000 in
theorem open_point {r : Reach} {b0 : Nat} {v : Value} {d : DataW H} {ps : List MemPlace}
    (hval : Value.okWide Tryz.prog W r b0 70 v) (h : DataW.Trod enc Tryz.prog W base spare held 70 v d ps) : ∃ p : Pt, v = ptV p ∧ p.ok := by
  simp only [Value.okWide, Tryz.underlying70] at hval
  obtain ⟨cs, rfl, hsz, _⟩ := hval
  rw [cellsPoint] at hsz
  obtain ⟨l⟩ := cs
  match l, hsz with
  | [c0, c1, c2, c3], _ =>
  obtain ⟨fuel, hf⟩ := h
  obtain ⟨xs, m, _, _, _, hl, hi⟩ := DataW.trod_array Tryz.underlying70 hf
  match xs, hl with
  | [z0, z1, z2, z3], _ =>
  have h0 := hi 0 (by decide)
  have h1 := hi 1 (by decide)
  have h2 := hi 2 (by decide)
  have h3 := hi 3 (by decide)
  rw [cellsInt] at h0 h1 h2 h3
  obtain ⟨a, e0, _, wa⟩ := DataW.trod_int Tryz.underlying3 h0
  obtain ⟨b, e1, _, wb⟩ := DataW.trod_int Tryz.underlying3 h1
  obtain ⟨c, e2, _, wc⟩ := DataW.trod_int Tryz.underlying3 h2
  obtain ⟨e, e3, _, wd⟩ := DataW.trod_int Tryz.underlying3 h3
  simp [Value.cells] at e0 e1 e2 e3
  subst e0 e1 e2 e3
  exact ⟨⟨a, b, c, e⟩, rfl, i64_of wa, i64_of wb, i64_of wc, i64_of wd⟩
end

end Go.Proofs.YtkkbeobocbgmeaaGreat
namespace Go.Proofs.YtkkbeobocbgmeaaGreat
open Go.ChangeShapes Go.WideShapes Go.ChangeAt Go.RowKit M

theorem cellsBx : Tryz.prog.cellsOf 36 = 10 := by kernel_rfl
section
variable {H : Type} {enc : TypeId × Value → H} {W : World} {base : Nat} {spare : Nat → Bool} {held : Bool}

set_option maxRecDepth 100000 in
theorem open_query {r : Reach} {b0 : Nat} {v : Value} {d : DataW H} {ps : List MemPlace}
    (hval : Value.okWide Tryz.prog W r b0 38 v) (h : DataW.Trod enc Tryz.prog W base spare held 38 v d ps) : ∃ q : Qy, v = queryV q ∧ q.ok := by
  have cellsF : Tryz.prog.cellsOf 38 = 17 := by kernel_rfl
  obtain ⟨cs, rfl, hsz⟩ := okWide_struct Tryz.underlying38 hval
  rw [cellsF] at hsz
  obtain ⟨l⟩ := cs
  match l, hsz with
  | [c0, c1, c2, c3, c4, c5, c6, c7, c8, c9, c10, c11, c12, c13, c14, c15, c16], _ =>
  obtain ⟨fuel, hf⟩ := h
  obtain ⟨xs, m, _, _, _, hl, hi⟩ := DataW.trod_struct Tryz.underlying38 hf
  match xs, hl with
  | [z0, z1, z2, z3, z4, z5, z6, z7], _ =>
  have h0 := hi 0 _ rfl
  have h1 := hi 1 _ rfl
  have h2 := hi 2 _ rfl
  have h3 := hi 3 _ rfl
  have h4 := hi 4 _ rfl
  have h5 := hi 5 _ rfl
  have h6 := hi 6 _ rfl
  have h7 := hi 7 _ rfl
  obtain ⟨i0, e0, _, w0⟩ := DataW.trod_int Tryz.underlying3 h0
  obtain ⟨i1, e1, _, w1⟩ := DataW.trod_int Tryz.underlying3 h1
  obtain ⟨i3, e3, _, w3⟩ := DataW.trod_int Tryz.underlying3 h3
  obtain ⟨i4, e4, _, w4⟩ := DataW.trod_int Tryz.underlying3 h4
  obtain ⟨i5, e5, _, w5⟩ := DataW.trod_int Tryz.underlying3 h5
  obtain ⟨i7, e7, _, w7⟩ := DataW.trod_int Tryz.underlying3 h7
  obtain ⟨b6, e6, _⟩ := DataW.trod_bool Tryz.underlying4 h6
  simp [Value.cells, cellsInt, cellsBool] at e0 e1 e3 e4 e5 e6 e7
  simp [Value.cells, cellsBx] at h2
  obtain ⟨x, ex, kx⟩ := box_of h2
  obtain ⟨⟨xa, xb⟩, ⟨xc, xd⟩, ⟨xe, xf⟩, ⟨xg, xh⟩, ⟨xi, xj⟩⟩ := x
  simp only [boxV, Value.agg.injEq, Array.mk.injEq, List.cons.injEq, and_true] at ex
  obtain ⟨r0, r1, r2, r3, r4, r5, r6, r7, r8, r9⟩ := ex
  subst e0 e1 e3 e4 e5 e6 e7 r0 r1 r2 r3 r4 r5 r6 r7 r8 r9
  exact ⟨⟨i0, i1, ⟨⟨xa, xb⟩, ⟨xc, xd⟩, ⟨xe, xf⟩, ⟨xg, xh⟩, ⟨xi, xj⟩⟩, i3, i4, i5, b6, i7⟩, rfl, ⟨bdi w0, bdi w1, kx, bdi w3, bdi w4, bdi w5, bdi w7⟩⟩

set_option maxRecDepth 100000 in
theorem open_ask {r : Reach} {b0 : Nat} {v : Value} {d : DataW H} {ps : List MemPlace}
    (hval : Value.okWide Tryz.prog W r b0 27 v) (h : DataW.Trod enc Tryz.prog W base spare held 27 v d ps) : ∃ a : Ak, v = askV a ∧ a.ok W := by
  have cellsF : Tryz.prog.cellsOf 27 = 8 := by kernel_rfl
  obtain ⟨cs, rfl, hsz⟩ := okWide_struct Tryz.underlying27 hval
  rw [cellsF] at hsz
  obtain ⟨l⟩ := cs
  match l, hsz with
  | [c0, c1, c2, c3, c4, c5, c6, c7], _ =>
  obtain ⟨fuel, hf⟩ := h
  obtain ⟨xs, m, _, _, _, hl, hi⟩ := DataW.trod_struct Tryz.underlying27 hf
  match xs, hl with
  | [z0, z1, z2, z3, z4, z5, z6, z7], _ =>
  have h0 := hi 0 _ rfl
  have h1 := hi 1 _ rfl
  have h2 := hi 2 _ rfl
  have h3 := hi 3 _ rfl
  have h4 := hi 4 _ rfl
  have h5 := hi 5 _ rfl
  have h6 := hi 6 _ rfl
  have h7 := hi 7 _ rfl
  obtain ⟨i0, e0, _, w0⟩ := DataW.trod_int Tryz.underlying3 h0
  obtain ⟨i1, e1, _, w1⟩ := DataW.trod_int Tryz.underlying3 h1
  obtain ⟨i2, e2, _, w2⟩ := DataW.trod_int Tryz.underlying3 h2
  obtain ⟨i3, e3, _, w3⟩ := DataW.trod_int Tryz.underlying3 h3
  obtain ⟨i4, e4, _, w4⟩ := DataW.trod_int Tryz.underlying3 h4
  obtain ⟨i5, e5, _, w5⟩ := DataW.trod_int Tryz.underlying3 h5
  obtain ⟨b6, e6, _⟩ := DataW.trod_bool Tryz.underlying4 h6
  simp [Value.cells, cellsInt, cellsBool] at e0 e1 e2 e3 e4 e5 e6
  simp [Value.cells, cellsInts] at h7
  obtain ⟨a7, n7, k7, y7, rfl, q7⟩ := nums_of h7
  subst e0 e1 e2 e3 e4 e5 e6
  exact ⟨⟨i0, i1, i2, i3, i4, i5, b6, a7, n7, k7, y7⟩, rfl, ⟨bdi w0, bdi w1, bdi w2, bdi w3, bdi w4, bdi w5, q7⟩⟩

end
end Go.Proofs.YtkkbeobocbgmeaaGreat
namespace Go.Proofs.YtkkbeobocbgmeaaGreat
open Go.ChangeShapes Go.WideShapes Go.ChangeAt Go.RowKit Go.Deep M

section
variable {H : Type} {enc : TypeId × Value → H} {W : World} {base : Nat} {spare : Nat → Bool} {held : Bool}

end

end Go.Proofs.YtkkbeobocbgmeaaGreat
