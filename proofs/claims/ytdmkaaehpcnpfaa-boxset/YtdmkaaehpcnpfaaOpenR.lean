/- A slice of ints, a slice of boxes that came in as an argument: what a walk is told of it. -/
import Derived.Test.YtdmkaaehpcnpfaaOpenB
import Derived.Test.YtdmkaaehpcnpfaaLawBoxSet
import Derived.Deep.Slices
namespace Go.Proofs.Ytdmkaaehpcnpfaa
open Go.ChangeShapes Go.WideShapes Go.ChangeAt Go.RowKit Go.Deep M

instance : Inhabited Bx := ⟨nilB⟩
theorem spot_of {w : World} {x : Addr} {v : Value} (h : w.cell? x = some v) : ∃ g o, x = ⟨g, o, none⟩ ∧ g < w.heap.size := by
  obtain ⟨g, o, s⟩ := x
  unfold World.cell? at h
  split at h
  · rename_i hb
    cases s with
    | none => exact ⟨g, o, rfl, (Array.getElem?_eq_some_iff.1 hb).1⟩
    | some _ => simp at h
  · cases h
theorem add_of (g o i : Nat) : (⟨g, o, none⟩ : Addr).add i = ⟨g, o + i, none⟩ := by unfold Addr.add; split <;> simp_all

theorem mapM_get {α β : Type} {f : α → Option β} : ∀ {l : List α} {r : List β}, l.mapM f = some r → r.length = l.length ∧ ∀ (j : Nat) x u, l[j]? = some x → r[j]? = some u → f x = some u
  | [], r, h => by
    simp at h
    subst h
    exact ⟨rfl, fun j x u h => by simp at h⟩
  | a :: l, r, h => by
    rw [List.mapM_cons] at h
    cases ha : f a with
    | none => rw [ha] at h; cases h
    | some b =>
      rw [ha] at h
      cases hl : l.mapM f with
      | none => rw [hl] at h; cases h
      | some r' =>
        rw [hl] at h
        cases h
        obtain ⟨h1, h2⟩ := mapM_get hl
        refine ⟨by simp [h1], fun j x u hx hu => ?_⟩
        cases j with
        | zero =>
          simp at hx hu
          rw [← hx, ha, hu]
        | succ j =>
          simp at hx hu
          exact h2 j x u hx hu
theorem cells_get {w : World} {base : Nat} {a : Addr} {n : Nat} {cs : List Value} (h : w.cells? base a n = some cs) : cs.length = n ∧ ∀ j u, cs[j]? = some u → w.cell? (a.add j) = some u := by
  unfold World.cells? at h
  split at h
  · obtain ⟨h1, h2⟩ := mapM_get h
    simp at h1
    refine ⟨h1, fun j u hu => h2 j j u ?_ hu⟩
    have := (List.getElem?_eq_some_iff.1 hu).1
    rw [List.getElem?_range (by omega)]
  · cases h

section
variable {H : Type} {enc : TypeId × Value → H} {W : World} {base : Nat} {spare : Nat → Bool} {held : Bool}

theorem open_nums {r : Reach} {b0 : Nat} {v : Value} {d : DataW H} {ps : List MemPlace}
    (hval : Value.okWide Try.prog W r b0 45 v) (h : DataW.Trod enc Try.prog W base spare held 45 v d ps) : ∃ a len cap z, v = .slice a len cap ∧ IsNums W a len cap z := by
  obtain ⟨a, len, cap, rfl⟩ := okWide_slice Try.underlying45 hval
  refine ⟨a, len, cap, ?_⟩
  obtain ⟨fuel, hf⟩ := h
  rcases open_ints Try.underlying45 Try.underlying3 (by kernel_rfl) hf with ⟨hcs, _⟩ | ⟨x, l, c, zs, hcs, _, hl, hm, hz, _, hcell, hwz⟩
  · simp [Value.cells] at hcs
    obtain ⟨rfl, rfl, rfl⟩ := hcs
    exact ⟨[], rfl, rfl, Nat.le_refl _, by unfold maxLen; omega, by simp, by omega⟩
  · simp [Value.cells] at hcs
    obtain ⟨rfl, rfl, rfl⟩ := hcs
    have hlz : len ≤ zs.length := by rw [hz]; split <;> omega
    refine ⟨zs.take len, rfl, by simp; omega, hl, hm, fun n hn => i64_of (hwz n (List.mem_of_mem_take hn)), fun h0 => ?_⟩
    obtain ⟨g, o, rfl, hg⟩ := spot_of (by have := hcell 0 (by omega); rwa [show x.add 0 = x from rfl] at this)
    refine ⟨g, o, rfl, hg, fun i y hy => ?_⟩
    have hi : i < len := by
      have := (List.getElem?_eq_some_iff.1 hy).1
      simp at this
      omega
    have := hcell i (by omega)
    rw [add_of] at this
    rw [this]
    rw [List.getElem?_take_of_lt hi] at hy
    simp [List.getD, hy]

theorem open_boxes {r : Reach} {b0 : Nat} {v : Value} {d : DataW H} {ps : List MemPlace}
    (hval : Value.okWide Try.prog W r b0 44 v) (h : DataW.Trod enc Try.prog W base spare held 44 v d ps) : ∃ a len cap L, v = .slice a len cap ∧ IsBoxes W a len cap L := by
  obtain ⟨a, len, cap, rfl⟩ := okWide_slice Try.underlying44 hval
  refine ⟨a, len, cap, ?_⟩
  obtain ⟨fuel, hf⟩ := h
  rcases open_slice Try.underlying44 hf with ⟨hcs, _⟩ | ⟨x, l, c, m, n, D, Pl, hcs, hb, hl, hm, hmm, _, hel⟩
  · simp [Value.cells] at hcs
    obtain ⟨rfl, rfl, rfl⟩ := hcs
    exact ⟨[], rfl, rfl, Nat.le_refl _, by unfold maxLen; omega, by simp, by omega⟩
  · simp [Value.cells] at hcs
    obtain ⟨rfl, rfl, rfl⟩ := hcs
    have hle : len ≤ m := by rw [hmm]; split <;> omega
    have hone : ∀ i, i < len → ∃ y : Bx, y.ok ∧ ∀ j u, (cellsB y)[j]? = some u → W.cell? ((x.add (i * 10)).add j) = some u := by
      intro i hi
      obtain ⟨cs', h1, h2⟩ := hel i (by omega)
      rw [cellsBox] at h1
      obtain ⟨hlen, hget⟩ := cells_get h1
      match cs', hlen, hget with
      | [c0, c1, c2, c3, c4, c5, c6, c7, c8, c9], _, hget =>
      obtain ⟨y, hy, hok⟩ := box_of h2
      refine ⟨y, hok, fun j u hu => ?_⟩
      have hcs : cellsB y = [c0, c1, c2, c3, c4, c5, c6, c7, c8, c9] := by
        simp at hy
        simp [cellsB, hy]
      rw [hcs] at hu
      exact hget j u hu
    obtain ⟨f, hf2⟩ := choose_lt hone
    refine ⟨(List.range len).map f, rfl, by simp, hl, hm, ?_, fun h0 => ?_⟩
    · intro y hy
      obtain ⟨i, hi, rfl⟩ := List.mem_map.1 hy
      exact (hf2 i (by simpa using hi)).1
    · have h00 := (hf2 0 h0).2 0 _ rfl
      obtain ⟨g, o, rfl, hg⟩ := spot_of (by rwa [show (x.add (0 * 10)).add 0 = x from rfl] at h00)
      refine ⟨g, o, rfl, hg, fun i y hy j u hu => ?_⟩
      have hi : i < len := by
        have := (List.getElem?_eq_some_iff.1 hy).1
        simpa using this
      simp [hi] at hy
      subst hy
      have := (hf2 i hi).2 j u hu
      rwa [add_of, add_of] at this
end

end Go.Proofs.Ytdmkaaehpcnpfaa
