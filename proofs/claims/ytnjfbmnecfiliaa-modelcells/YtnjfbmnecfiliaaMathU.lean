/- Plain mathematics of the numbers of which a tree is made (copsekeep.Tree): a leaf is parted, and parted. -/
import Derived.Test.YtnjfbmnecfiliaaMathT
namespace Go.Proofs.Ytnjfbmnecfiliaa.M

/-- nodes that are a tree, and the places of leaves of it, no two alike -/
structure Bush (L : List Nd) (lv : List Int) (dim : Int) : Prop where
  shape : Shape (nA L) L.length dim
  right : ∀ i, i < L.length → (nA L i).rightB = true
  leaf : ∀ q, q < lv.length → ∃ k : Nat, wd lv q = k ∧ k < L.length ∧ (nA L k).leaf = true
  apart : ∀ q r, q < r → r < lv.length → wd lv q ≠ wd lv r

abbrev ndLeaf (v : Int) : Nd := ⟨true, v, 0, 0, 0, 0⟩
theorem leaf_right {v : Int} (h1 : -3000 ≤ v) (h2 : v ≤ 3000) : (ndLeaf v).rightB = true := by
  rw [Nd.right_iff]
  exact .inl ⟨rfl, by show -2147483648 ≤ v; omega, by show v ≤ 2147483647; omega, rfl, rfl, rfl, rfl⟩
theorem bush_one {v : Int} (h1 : -3000 ≤ v) (h2 : v ≤ 3000) (dim : Int) : Bush [ndLeaf v] [0] dim := by
  refine ⟨⟨fun i hi => ?_, fun j j1 j2 => ?_⟩, fun i hi => ?_, fun q hq => ?_, fun q r hqr hr => ?_⟩
  · have : i = 0 := by simp at hi; omega
    subst this; exact .inl rfl
  · simp at j2; omega
  · have : i = 0 := by simp at hi; omega
    subst this; exact leaf_right h1 h2
  · have : q = 0 := by simp at hq; omega
    subst this; exact ⟨0, rfl, by simp, rfl⟩
  · simp at hr; omega
/-- what is left of the places when the one at k is taken, and two new ones behind them -/
def lvNext (lv : List Int) (k : Nat) (n : Int) : List Int := lv.take k ++ lv.drop (k + 1) ++ [n, n + 1]
theorem lvNext_length (lv : List Int) (k : Nat) (n : Int) (h : k < lv.length) : (lvNext lv k n).length = lv.length + 1 := by simp [lvNext]; omega
theorem lvNext_at (lv : List Int) (k : Nat) (n : Int) (h : k < lv.length) (q : Nat) (hq : q < lv.length + 1) :
    (q < k ∧ wd (lvNext lv k n) q = wd lv q) ∨ (k ≤ q ∧ q + 1 < lv.length ∧ wd (lvNext lv k n) q = wd lv (q + 1)) ∨ (q + 1 = lv.length ∧ wd (lvNext lv k n) q = n) ∨ (q = lv.length ∧ wd (lvNext lv k n) q = n + 1) := by
  have h1 : (lv.take k).length = k := by simp; omega
  have h2 : (lv.take k ++ lv.drop (k + 1)).length = lv.length - 1 := by simp; omega
  by_cases a : q < k
  · left
    refine ⟨a, ?_⟩
    rw [lvNext, wd_append_left _ _ _ (by omega), wd_append_left _ _ _ (by omega), wd_take _ _ _ a]
  · right
    by_cases b : q + 1 < lv.length
    · left
      refine ⟨by omega, b, ?_⟩
      rw [lvNext, wd_append_left _ _ _ (by omega), wd_append_right _ _ _ (by omega), wd_drop, h1]
      congr 1; omega
    · right
      by_cases c : q + 1 = lv.length
      · left
        refine ⟨c, ?_⟩
        rw [lvNext, wd_append_right _ _ _ (by omega), h2, show q - (lv.length - 1) = 0 by omega]; rfl
      · right
        refine ⟨by omega, ?_⟩
        rw [lvNext, wd_append_right _ _ _ (by omega), h2, show q - (lv.length - 1) = 1 by omega]; rfl

theorem Bush.part {L : List Nd} {lv : List Int} {dim : Int} (h : Bush L lv dim) (hn : L.length ≤ 29) {k A : Nat} (hk : k < lv.length) (hA : wd lv k = A) {f a u v : Int} (hf0 : 0 ≤ f) (hf : f < dim) (hd : dim ≤ 4) (ha0 : 0 ≤ a) (ha : a ≤ 9) (hu1 : -3000 ≤ u) (hu2 : u ≤ 3000) (hv1 : -3000 ≤ v) (hv2 : v ≤ 3000) (hL : 1 ≤ L.length) :
    Bush (L.set A ⟨false, 0, f, a, L.length, (L.length : Int) + 1⟩ ++ [ndLeaf u, ndLeaf v]) (lvNext lv k L.length) dim := by
  obtain ⟨A', e1, hAL, hAl⟩ := h.leaf k hk
  have : A' = A := by omega
  subst this
  have hlen : (L.set A' ⟨false, 0, f, a, L.length, (L.length : Int) + 1⟩ ++ [ndLeaf u, ndLeaf v]).length = L.length + 2 := by simp
  have e0 : ∀ i, i < L.length → nA (L.set A' ⟨false, 0, f, a, L.length, (L.length : Int) + 1⟩ ++ [ndLeaf u, ndLeaf v]) i = nA (L.set A' ⟨false, 0, f, a, L.length, (L.length : Int) + 1⟩) i := fun i hi => nA_append_left _ _ _ (by simp; omega)
  have e1 : nA (L.set A' ⟨false, 0, f, a, L.length, (L.length : Int) + 1⟩ ++ [ndLeaf u, ndLeaf v]) L.length = ndLeaf u := by simp [nA]
  have e2 : nA (L.set A' ⟨false, 0, f, a, L.length, (L.length : Int) + 1⟩ ++ [ndLeaf u, ndLeaf v]) (L.length + 1) = ndLeaf v := by simp [nA]
  have hold : ∀ q, q < lv.length → q ≠ k → ∃ B : Nat, wd lv q = B ∧ B < L.length ∧ B ≠ A' ∧ nA (L.set A' ⟨false, 0, f, a, L.length, (L.length : Int) + 1⟩ ++ [ndLeaf u, ndLeaf v]) B = nA L B ∧ (nA L B).leaf = true := by
    intro q hq hqk
    obtain ⟨B, b1, b2, b3⟩ := h.leaf q hq
    have hBA : B ≠ A' := by
      intro e
      subst e
      rcases Nat.lt_or_ge q k with c | c
      · exact h.apart q k c hk (by omega)
      · exact h.apart k q (by omega) hq (by omega)
    exact ⟨B, b1, b2, hBA, by rw [e0 B b2, nA_set_ne _ _ _ _ (Ne.symm hBA)], b3⟩
  refine ⟨Shape.part h.shape hAL hAl rfl hf rfl rfl rfl rfl, fun i hi => ?_, fun q hq => ?_, fun q r hqr hr => ?_⟩
  · rw [hlen] at hi
    by_cases c : i < L.length
    · rw [e0 i c]
      by_cases d : A' = i
      · subst d
        rw [nA_set_self _ _ _ hAL, Nd.right_iff]
        exact .inr ⟨rfl, rfl, hf0, by show f ≤ 3; omega, by show -2147483648 ≤ a; omega, by show a ≤ 2147483647; omega, by show (1 : Int) ≤ L.length; omega, by show (L.length : Int) ≤ 30; omega, by show (1 : Int) ≤ L.length + 1; omega, by show (L.length : Int) + 1 ≤ 30; omega⟩
      · rw [nA_set_ne _ _ _ _ d]; exact h.right i c
    · by_cases d : i = L.length
      · subst d; rw [e1]; exact leaf_right hu1 hu2
      · have : i = L.length + 1 := by omega
        subst this; rw [e2]; exact leaf_right hv1 hv2
  · rw [lvNext_length _ _ _ hk] at hq
    rcases lvNext_at lv k L.length hk q hq with ⟨c1, c2⟩ | ⟨c1, c2, c3⟩ | ⟨c1, c2⟩ | ⟨c1, c2⟩
    · obtain ⟨B, b1, b2, _, b4, b5⟩ := hold q (by omega) (by omega)
      exact ⟨B, by omega, by omega, by rw [b4]; exact b5⟩
    · obtain ⟨B, b1, b2, _, b4, b5⟩ := hold (q + 1) (by omega) (by omega)
      exact ⟨B, by omega, by omega, by rw [b4]; exact b5⟩
    · exact ⟨L.length, c2, by omega, by rw [e1]⟩
    · exact ⟨L.length + 1, by rw [c2]; rfl, by omega, by rw [e2]⟩
  · rw [lvNext_length _ _ _ hk] at hr
    have old : ∀ q, q < lv.length → wd lv q < L.length := fun q hq => by
      obtain ⟨B, b1, b2, _⟩ := h.leaf q hq
      omega
    rcases lvNext_at lv k L.length hk q (by omega) with ⟨c1, c2⟩ | ⟨c1, c2, c3⟩ | ⟨c1, c2⟩ | ⟨c1, c2⟩
    · have := old q (by omega)
      rcases lvNext_at lv k L.length hk r hr with ⟨d1, d2⟩ | ⟨d1, d2, d3⟩ | ⟨d1, d2⟩ | ⟨d1, d2⟩
      · rw [c2, d2]; exact h.apart q r hqr (by omega)
      · rw [c2, d3]; exact h.apart q (r + 1) (by omega) (by omega)
      · omega
      · omega
    · have := old (q + 1) (by omega)
      rcases lvNext_at lv k L.length hk r hr with ⟨d1, d2⟩ | ⟨d1, d2, d3⟩ | ⟨d1, d2⟩ | ⟨d1, d2⟩
      · omega
      · rw [c3, d3]; exact h.apart (q + 1) (r + 1) (by omega) (by omega)
      · omega
      · omega
    · rcases lvNext_at lv k L.length hk r hr with ⟨d1, d2⟩ | ⟨d1, d2, d3⟩ | ⟨d1, d2⟩ | ⟨d1, d2⟩ <;> omega
    · omega
theorem Bush.tree {L : List Nd} {lv : List Int} {dim : Int} (h : Bush L lv dim) (h1 : 1 ≤ L.length) (h2 : L.length ≤ 31) : TreeP (L.map Nd.pack) dim := tree_of h1 h2 h.right h.shape

end Go.Proofs.Ytnjfbmnecfiliaa.M
