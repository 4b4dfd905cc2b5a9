/- Words that are made wrong: small facts for the law TreeTurned: a node in a block of its own; a row of words of one's own that is written; the places of nodes that are no leaves. -/
import Derived.Test.YtdhmibjokacfpaaNodesB
namespace Go.Proofs.Ytdhmibjokacfpaa.M
def inn (ws : List Int) : Nat → List Int
  | 0 => []
  | j + 1 => match (ndA ws j).leaf with
    | true => inn ws j
    | false => inn ws j ++ [(j : Int)]
theorem inn_count (ws : List Int) (j : Nat) : (inn ws j).length + (lvs (ndA ws) j).length = j := by
  induction j with
  | zero => rfl
  | succ j ih =>
    simp only [inn, lvs]
    cases (ndA ws j).leaf
    · simp; omega
    · simp; omega
theorem inn_at (ws : List Int) : ∀ (j i : Nat), i < (inn ws j).length → ∃ K : Nat, K < j ∧ (ndA ws K).leaf = false ∧ wd (inn ws j) i = K := by
  intro j
  induction j with
  | zero => intro i hi; simp [inn] at hi
  | succ j ih =>
    intro i hi
    simp only [inn] at hi ⊢
    cases hl : (ndA ws j).leaf
    · rw [hl] at hi
      simp at hi
      show ∃ K : Nat, K < j + 1 ∧ (ndA ws K).leaf = false ∧ wd (inn ws j ++ [(j : Int)]) i = K
      by_cases e : i < (inn ws j).length
      · obtain ⟨K, h1, h2, h3⟩ := ih i e
        exact ⟨K, by omega, h2, by rw [wd_append_left _ _ _ e]; exact h3⟩
      · refine ⟨j, by omega, hl, ?_⟩
        rw [wd_append_right _ _ _ (by omega), show i - (inn ws j).length = 0 by omega]
        rfl
    · rw [hl] at hi
      obtain ⟨K, h1, h2, h3⟩ := ih i hi
      exact ⟨K, by omega, h2, h3⟩
theorem set_same (ws : List Int) (K : Nat) (y : Int) (h : K < ws.length) (hy : wd ws K = y) : ws.set K y = ws := by
  apply List.ext_getElem?
  intro i
  by_cases e : K = i
  · subst e
    simp [h]
    rw [← hy]
    simp [wd, h]
  · rw [List.getElem?_set_ne e]
end Go.Proofs.Ytdhmibjokacfpaa.M
namespace Go.Proofs.Ytdhmibjokacfpaa
open Go.RowKit M

/-- block b holds the node x -/
def NodeB (w : World) (b : Nat) (x : Nd) : Prop := w.heap[b]? = some (.cells #[.bool x.leaf, .int .i64 x.v, .int .i64 x.f, .int .i64 x.a, .int .i64 x.l, .int .i64 x.r] 25 (0, 0))
theorem NodeB.lt {w : World} {b : Nat} {x : Nd} (h : NodeB w b x) : b < w.heap.size := (Array.getElem?_eq_some_iff.1 h).1
theorem NodeB.cells {w : World} {b : Nat} {x : Nd} (h : NodeB w b x) : w.cell? ⟨b, 0, none⟩ = some (.bool x.leaf) ∧ w.cell? ⟨b, 1, none⟩ = some (.int .i64 x.v) ∧ w.cell? ⟨b, 2, none⟩ = some (.int .i64 x.f) ∧ w.cell? ⟨b, 3, none⟩ = some (.int .i64 x.a) ∧ w.cell? ⟨b, 4, none⟩ = some (.int .i64 x.l) ∧ w.cell? ⟨b, 5, none⟩ = some (.int .i64 x.r) := by
  refine ⟨?_, ?_, ?_, ?_, ?_, ?_⟩ <;> exact (cell_of_row _ _ _ _ _ _ h).trans rfl
theorem NodeB.frozen {w : World} {b : Nat} {x : Nd} (h : NodeB w b x) (q : Nat) : w.frozen? ⟨b, q, none⟩ = false := frozen_of_row _ _ _ _ _ h
theorem NodeB.setL {w : World} {b : Nat} {x : Nd} (h : NodeB w b x) (y : Int) : NodeB (w.setCell ⟨b, 4, none⟩ (.int .i64 y)) b ⟨x.leaf, x.v, x.f, x.a, y, x.r⟩ := (heap_setCell_same _ _ _ _ _ _ h).trans rfl
theorem NodeB.setR {w : World} {b : Nat} {x : Nd} (h : NodeB w b x) (y : Int) : NodeB (w.setCell ⟨b, 5, none⟩ (.int .i64 y)) b ⟨x.leaf, x.v, x.f, x.a, x.l, y⟩ := (heap_setCell_same _ _ _ _ _ _ h).trans rfl
theorem NodeB.other {w : World} {b g : Nat} {x : Nd} (h : NodeB w b x) (hne : b ≠ g) (q : Nat) (u : Value) : NodeB (w.setCell ⟨g, q, none⟩ u) b x := (Below.heap_setCell _ _ _ _ hne).trans h
theorem NodeB.grown {w w' : World} {b g : Nat} {x : Nd} (h : NodeB w b x) (hg : w.grownBy w' (some g)) (hne : b ≠ g) : NodeB w' b x := (hg.block b h.lt (by simpa using hne)).trans h
theorem NodeB.jk {w w' : World} {b : Nat} {x : Nd} (h : NodeB w b x) (hj : Jk w w') : NodeB w' b x := (hj.below.block b h.lt).trans h
theorem NodeB.apart {w : World} {b B g n c : Nat} {x : Nd} {zs : List Int} (h : NodeB w b x) (h' : OwnU B w (.slice (some ⟨g, 0, none⟩) n c) n zs) : b ≠ g := by
  rcases h'.2.2 with ⟨e', _⟩ | ⟨g2, cap', cur', e', _, hg', _⟩
  · simp at e'
  · simp at e'
    obtain ⟨rfl, _⟩ := e'
    intro e
    subst e
    unfold NodeB at h
    rw [h] at hg'
    simp at hg'
theorem OwnK.store {k : IntKind} {e : TypeId} {B : Nat} {w : World} {g c n : Nat} {zs : List Int} (h : OwnK k e B w (.slice (some ⟨g, 0, none⟩) n c) n zs) {i : Nat} (hi : i < n) (y : Int) :
    (∃ u, w.cell? ⟨g, i, none⟩ = some u) ∧ w.frozen? ⟨g, i, none⟩ = false ∧ OwnK k e B (w.setCell ⟨g, i, none⟩ (.int k y)) (.slice (some ⟨g, 0, none⟩) n c) n (zs.set i y) := by
  have s := h.2.stored i (.int k y)
  have q := row_cell h.2 (j := i) (by omega)
  exact ⟨q.1, q.2, by simpa using h.1, by rw [List.map_set]; exact s.1⟩
theorem OwnK.other {k : IntKind} {e : TypeId} {B : Nat} {w : World} {g c n b : Nat} {zs : List Int} (h : OwnK k e B w (.slice (some ⟨g, 0, none⟩) n c) n zs) (hne : g ≠ b) (q : Nat) (u : Value) : OwnK k e B (w.setCell ⟨b, q, none⟩ u) (.slice (some ⟨g, 0, none⟩) n c) n zs :=
  h.kept (grown_set w b q u) (.inr (by simpa [Value.ownBlock] using hne))
theorem OwnK.shorter {k : IntKind} {e : TypeId} {B : Nat} {w : World} {g c n m : Nat} {zs : List Int} (h : OwnK k e B w (.slice (some ⟨g, 0, none⟩) n c) n zs) (hm : m ≤ n) : OwnK k e B w (.slice (some ⟨g, 0, none⟩) m c) m (zs.take m) := by
  refine ⟨by rw [List.length_take, h.1]; omega, ?_, ?_⟩
  · rw [List.length_map, List.length_take, h.1]; omega
  · rcases h.2.2 with ⟨e', _⟩ | ⟨g2, cap', cur', e', h1, h2, h3, h4, h5, h6⟩
    · simp at e'
    · simp at e'
      obtain ⟨rfl, rfl⟩ := e'
      refine .inr ⟨g, c, cur', rfl, h1, h2, by omega, h4, h5, ?_⟩
      rw [List.map_take, ← h6, List.take_take]
      congr 1
      omega

end Go.Proofs.Ytdhmibjokacfpaa
