/- Words, points, the numbers of a tree that came in as arguments: what a walk is told of them. -/
import Derived.Test.YtmfmiflifebflaaRowsM
import Derived.Test.YtmfmiflifebflaaOpenN
import Derived.Deep.Slices
namespace Go.Proofs.Ytmfmiflifebflaa
open Go.ChangeShapes Go.WideShapes Go.ChangeAt Go.RowKit Go.Deep M

theorem cellsPt : Try.prog.cellsOf 36 = 4 := by kernel_rfl
theorem spot_at {w : World} {x : Addr} {v : Value} (h : w.cell? x = some v) : ∃ g o, x = ⟨g, o, none⟩ ∧ g < w.heap.size := by
  obtain ⟨g, o, s⟩ := x
  unfold World.cell? at h
  split at h
  · rename_i hb
    cases s with
    | none => exact ⟨g, o, rfl, (Array.getElem?_eq_some_iff.1 hb).1⟩
    | some _ => simp at h
  · cases h
theorem mapM_at {α β : Type} {f : α → Option β} : ∀ {l : List α} {r : List β}, l.mapM f = some r → r.length = l.length ∧ ∀ (j : Nat) x u, l[j]? = some x → r[j]? = some u → f x = some u
  | [], r, h => by
    simp at h
    subst h
    exact ⟨rfl, fun j x u h => by simp at h⟩
  | a :: l, r, h => by
    rw [List.mapM_cons] at h
    cases ha : f a with
    | none => rw [ha] at h; cases h
    | some b =>
      rw [ha] at h
      cases hl : l.mapM f with
      | none => rw [hl] at h; cases h
      | some r' =>
        rw [hl] at h
        cases h
        obtain ⟨h1, h2⟩ := mapM_at hl
        refine ⟨by simp [h1], fun j x u hx hu => ?_⟩
        cases j with
        | zero =>
          simp at hx hu
          rw [← hx, ha, hu]
        | succ j =>
          simp at hx hu
          exact h2 j x u hx hu
theorem cells_at {w : World} {base : Nat} {a : Addr} {n : Nat} {cs : List Value} (h : w.cells? base a n = some cs) : cs.length = n ∧ ∀ j u, cs[j]? = some u → w.cell? (a.add j) = some u := by
  unfold World.cells? at h
  split at h
  · obtain ⟨h1, h2⟩ := mapM_at h
    simp at h1
    refine ⟨h1, fun j u hu => h2 j j u ?_ hu⟩
    have := (List.getElem?_eq_some_iff.1 hu).1
    rw [List.getElem?_range (by omega)]
  · cases h
theorem choose_at {α : Type} [Inhabited α] {n : Nat} {P : Nat → α → Prop} (h : ∀ i, i < n → ∃ x, P i x) : ∃ f : Nat → α, ∀ i, i < n → P i (f i) :=
  ⟨fun i => if hi : i < n then Classical.choose (h i hi) else default, fun i hi => by simp only [hi, dif_pos]; exact Classical.choose_spec (h i hi)⟩

section
variable {H : Type} {enc : TypeId × Value → H} {W : World} {base : Nat} {spare : Nat → Bool} {held : Bool}

theorem words_of {fuel : Nat} {v : Value} {x : DataW H × List MemPlace} (h : DataW.trod enc Try.prog W base spare held fuel 59 [v] = some x) : ∃ a len cap z, v = .slice a len cap ∧ IsW W a len cap z := by
  rcases open_ints Try.underlying59 Try.underlying55 (by kernel_rfl) h with ⟨hcs, _⟩ | ⟨x, l, c, zs, hcs, _, hl, hm, hz, _, hcell, hwz⟩
  · simp at hcs
    exact ⟨none, 0, 0, [], hcs, rfl, Nat.le_refl _, by unfold maxLen; omega, fun i hi => by omega, by omega⟩
  · simp at hcs
    have hlz : l ≤ zs.length := by rw [hz]; split <;> omega
    refine ⟨some x, l, c, zs.take l, hcs, by simp; omega, hl, hm, fun i hi => ?_, fun h0 => ?_⟩
    · rw [wd_take _ _ _ hi]
      have : wd zs i ∈ zs := by
        simp only [wd, List.getD_eq_getElem?_getD, List.getElem?_eq_getElem (show i < zs.length by omega), Option.getD_some]
        exact List.getElem_mem _
      exact bdu (hwz _ this)
    · obtain ⟨g, o, rfl, hg⟩ := spot_at (by have := hcell 0 (by omega); rwa [show x.add 0 = x from rfl] at this)
      refine ⟨g, o, rfl, hg, fun i hi => ?_⟩
      simp at hi
      have := hcell i (by omega)
      rw [add_at] at this
      rw [this, wd_take _ _ _ (by omega)]
      rfl
theorem nums_of {fuel : Nat} {v : Value} {x : DataW H × List MemPlace} (h : DataW.trod enc Try.prog W base spare held fuel 39 [v] = some x) : ∃ a len cap z, v = .slice a len cap ∧ IsI W a len cap z := by
  rcases open_ints Try.underlying39 Try.underlying3 (by kernel_rfl) h with ⟨hcs, _⟩ | ⟨x, l, c, zs, hcs, _, hl, hm, hz, _, hcell, hwz⟩
  · simp at hcs
    exact ⟨none, 0, 0, [], hcs, rfl, Nat.le_refl _, by unfold maxLen; omega, fun i hi => by omega, by omega⟩
  · simp at hcs
    have hlz : l ≤ zs.length := by rw [hz]; split <;> omega
    refine ⟨some x, l, c, zs.take l, hcs, by simp; omega, hl, hm, fun i hi => ?_, fun h0 => ?_⟩
    · rw [wd_take _ _ _ hi]
      have : wd zs i ∈ zs := by
        simp only [wd, List.getD_eq_getElem?_getD, List.getElem?_eq_getElem (show i < zs.length by omega), Option.getD_some]
        exact List.getElem_mem _
      exact bdi (hwz _ this)
    · obtain ⟨g, o, rfl, hg⟩ := spot_at (by have := hcell 0 (by omega); rwa [show x.add 0 = x from rfl] at this)
      refine ⟨g, o, rfl, hg, fun i hi => ?_⟩
      simp at hi
      have := hcell i (by omega)
      rw [add_at] at this
      rw [this, wd_take _ _ _ (by omega)]
      rfl

set_option maxRecDepth 100000 in
theorem open_words {r : Reach} {b0 : Nat} {v : Value} {d : DataW H} {ps : List MemPlace}
    (hval : Value.okWide Try.prog W r b0 59 v) (h : DataW.Trod enc Try.prog W base spare held 59 v d ps) : ∃ a len cap z, v = .slice a len cap ∧ IsW W a len cap z := by
  obtain ⟨a, len, cap, rfl⟩ := okWide_slice Try.underlying59 hval
  obtain ⟨fuel, hf⟩ := h
  exact words_of hf

set_option maxRecDepth 100000 in
theorem open_seed {r : Reach} {b0 : Nat} {v : Value} {d : DataW H} {ps : List MemPlace}
    (hval : Value.okWide Try.prog W r b0 70 v) (h : DataW.Trod enc Try.prog W base spare held 70 v d ps) : ∃ s : Seed, v = seedV s ∧ s.ok W := by
  have cellsTree : Try.prog.cellsOf 70 = 5 := by kernel_rfl
  have cellsSl : Try.prog.cellsOf 39 = 1 := by kernel_rfl
  obtain ⟨cs, rfl, hsz⟩ := okWide_struct Try.underlying70 hval
  rw [cellsTree] at hsz
  obtain ⟨l⟩ := cs
  match l, hsz with
  | [c0, c1, c2, c3, c4], _ =>
  obtain ⟨fuel, hf⟩ := h
  obtain ⟨xs, m, _, _, _, hl, hi⟩ := DataW.trod_struct Try.underlying70 hf
  match xs, hl with
  | [z0, z1, z2, z3, z4], _ =>
  have h0 := hi 0 _ rfl
  have h1 := hi 1 _ rfl
  have h2 := hi 2 _ rfl
  have h3 := hi 3 _ rfl
  have h4 := hi 4 _ rfl
  obtain ⟨i0, e0, _, w0⟩ := DataW.trod_int Try.underlying3 h0
  simp [Value.cells, cellsInt] at e0
  simp [Value.cells, cellsSl] at h1 h2 h3 h4
  obtain ⟨a1, n1, k1, y1, rfl, q1⟩ := nums_of h1
  obtain ⟨a2, n2, k2, y2, rfl, q2⟩ := nums_of h2
  obtain ⟨a3, n3, k3, y3, rfl, q3⟩ := nums_of h3
  obtain ⟨a4, n4, k4, y4, rfl, q4⟩ := nums_of h4
  subst e0
  exact ⟨⟨i0, a1, n1, k1, y1, a2, n2, k2, y2, a3, n3, k3, y3, a4, n4, k4, y4⟩, rfl, bdi w0, q1, q2, q3, q4⟩

set_option maxRecDepth 100000 in
theorem point_of {fuel : Nat} {c0 c1 c2 c3 : Value} {x : DataW H × List MemPlace} (hf : DataW.trod enc Try.prog W base spare held fuel 36 [c0, c1, c2, c3] = some x) :
    ∃ p : Int → Int, PtFit p ∧ c0 = .int .i64 (p 0) ∧ c1 = .int .i64 (p 1) ∧ c2 = .int .i64 (p 2) ∧ c3 = .int .i64 (p 3) := by
  obtain ⟨xs, m, _, _, _, hl, hi⟩ := DataW.trod_array Try.underlying36 hf
  match xs, hl with
  | [z0, z1, z2, z3], _ =>
  have h0 := hi 0 (by decide)
  have h1 := hi 1 (by decide)
  have h2 := hi 2 (by decide)
  have h3 := hi 3 (by decide)
  rw [cellsInt] at h0 h1 h2 h3
  obtain ⟨a, e0, _, wa⟩ := DataW.trod_int Try.underlying3 h0
  obtain ⟨b, e1, _, wb⟩ := DataW.trod_int Try.underlying3 h1
  obtain ⟨c, e2, _, wc⟩ := DataW.trod_int Try.underlying3 h2
  obtain ⟨e, e3, _, we⟩ := DataW.trod_int Try.underlying3 h3
  simp at e0 e1 e2 e3
  subst e0 e1 e2 e3
  refine ⟨fun i => if i = 0 then a else if i = 1 then b else if i = 2 then c else e, fun i => ?_, rfl, rfl, rfl, rfl⟩
  have := bdi wa; have := bdi wb; have := bdi wc; have := bdi we
  show _ ≤ (if i = 0 then a else if i = 1 then b else if i = 2 then c else e) ∧ (if i = 0 then a else if i = 1 then b else if i = 2 then c else e) ≤ _
  split
  · assumption
  · split
    · assumption
    · split <;> assumption

set_option maxRecDepth 100000 in
theorem open_pt {r : Reach} {b0 : Nat} {v : Value} {d : DataW H} {ps : List MemPlace}
    (hval : Value.okWide Try.prog W r b0 36 v) (h : DataW.Trod enc Try.prog W base spare held 36 v d ps) : ∃ p : Int → Int, v = pointV p ∧ PtFit p := by
  simp only [Value.okWide, Try.underlying36] at hval
  obtain ⟨cs, rfl, hsz, _⟩ := hval
  rw [cellsPt] at hsz
  obtain ⟨l⟩ := cs
  match l, hsz with
  | [c0, c1, c2, c3], _ =>
  obtain ⟨fuel, hf⟩ := h
  obtain ⟨p, hp, e0, e1, e2, e3⟩ := point_of hf
  subst e0 e1 e2 e3
  exact ⟨p, rfl, hp⟩

end

end Go.Proofs.Ytmfmiflifebflaa
