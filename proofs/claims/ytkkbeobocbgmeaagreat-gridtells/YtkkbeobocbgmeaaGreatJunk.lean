/- A world that has grown: new blocks behind the old ones, nothing old has turned. 'junk w X' is w with the blocks X behind it. The rules below let a walk go on over such a world as over one that it has laid by itself. No conditions.
   What a call answers, whatever the world: one word for a contract, so that a walk can choose among several by the arguments alone (the unifier does not open it). No conditions. -/
import Derived.Test.YtkkbeobocbgmeaaGreatBase
import Derived.Below
namespace Go.Proofs.YtkkbeobocbgmeaaGreat
open Go.RowKit

structure Junk where
  objs : Array Obj
  d : Nat
def Jn (X : Junk) : Nat := X.objs.size
def junk (w : World) (X : Junk) : World := { w with heap := w.heap ++ X.objs, drawn := X.d }

theorem junk_size (w : World) (X : Junk) : (junk w X).heap.size = w.heap.size + Jn X := by simp [junk, Jn]
theorem junk_heap (w : World) (X : Junk) (n : Nat) (h : n < w.heap.size) : (junk w X).heap[n]? = w.heap[n]? := by
  simp only [junk]
  rw [Array.getElem?_append_left h]
theorem junk_cell (w : World) (X : Junk) (n i : Nat) (h : n < w.heap.size) : (junk w X).cell? ⟨n, i, none⟩ = w.cell? ⟨n, i, none⟩ :=
  World.cell?_of_block (w := w) (junk_heap w X n h)
theorem junk_frozen (w : World) (X : Junk) (n i : Nat) (h : n < w.heap.size) : (junk w X).frozen? ⟨n, i, none⟩ = w.frozen? ⟨n, i, none⟩ :=
  World.frozen?_of_block (w := w) (junk_heap w X n h)
theorem junk_set (w : World) (X : Junk) (n i : Nat) (v : Value) (h : n < w.heap.size) : (junk w X).setCell ⟨n, i, none⟩ v = junk (w.setCell ⟨n, i, none⟩ v) X := by
  unfold junk World.setCell
  congr 1
  apply Array.ext_getElem?
  intro k
  simp only [Array.getElem?_modify, Array.getElem?_append, Array.size_modify]
  by_cases hk : n = k
  · subst hk; simp [h]
  · simp [hk]
theorem junk_drew (w : World) (X : Junk) : junk w.drew X = junk w X := rfl

/-- the rules, for a walk's context: 'have J := rules8' (or 20, 40). The last ones: a block lies ahead of what is laid behind it (each a rewrite rule without conditions: simp does not go deep into conditions). -/
theorem rules8 : (∀ (w : World) (X : Junk), (junk w X).heap.size = w.heap.size + Jn X) ∧
    (∀ (w : World) (X : Junk) (n i : Nat), n < w.heap.size → (junk w X).cell? ⟨n, i, none⟩ = w.cell? ⟨n, i, none⟩) ∧
    (∀ (w : World) (X : Junk) (n i : Nat), n < w.heap.size → (junk w X).frozen? ⟨n, i, none⟩ = w.frozen? ⟨n, i, none⟩) ∧
    (∀ (w : World) (X : Junk) (n i : Nat) (v : Value), n < w.heap.size → (junk w X).setCell ⟨n, i, none⟩ v = junk (w.setCell ⟨n, i, none⟩ v) X) ∧
    (∀ (w : World) (X : Junk), junk w.drew X = junk w X) ∧
    (∀ n a1 : Nat, n < n + 1 + a1) ∧
    (∀ n a1 a2 : Nat, n < n + 1 + a1 + a2) ∧
    (∀ n a1 a2 a3 : Nat, n < n + 1 + a1 + a2 + a3) ∧
    (∀ n a1 a2 a3 a4 : Nat, n < n + 1 + a1 + a2 + a3 + a4) ∧
    (∀ n a1 a2 a3 a4 a5 : Nat, n < n + 1 + a1 + a2 + a3 + a4 + a5) ∧
    (∀ n a1 a2 a3 a4 a5 a6 : Nat, n < n + 1 + a1 + a2 + a3 + a4 + a5 + a6) ∧
    (∀ n a1 a2 a3 a4 a5 a6 a7 : Nat, n < n + 1 + a1 + a2 + a3 + a4 + a5 + a6 + a7) ∧
    (∀ n a1 a2 a3 a4 a5 a6 a7 a8 : Nat, n < n + 1 + a1 + a2 + a3 + a4 + a5 + a6 + a7 + a8) := by
  refine ⟨junk_size, junk_cell, junk_frozen, junk_set, junk_drew, ?_⟩
  refine ⟨?_, ?_, ?_, ?_, ?_, ?_, ?_, ?_⟩ <;> (intros; omega)
theorem rules20 : (∀ (w : World) (X : Junk), (junk w X).heap.size = w.heap.size + Jn X) ∧
    (∀ (w : World) (X : Junk) (n i : Nat), n < w.heap.size → (junk w X).cell? ⟨n, i, none⟩ = w.cell? ⟨n, i, none⟩) ∧
    (∀ (w : World) (X : Junk) (n i : Nat), n < w.heap.size → (junk w X).frozen? ⟨n, i, none⟩ = w.frozen? ⟨n, i, none⟩) ∧
    (∀ (w : World) (X : Junk) (n i : Nat) (v : Value), n < w.heap.size → (junk w X).setCell ⟨n, i, none⟩ v = junk (w.setCell ⟨n, i, none⟩ v) X) ∧
    (∀ (w : World) (X : Junk), junk w.drew X = junk w X) ∧
    (∀ n a1 : Nat, n < n + 1 + a1) ∧
    (∀ n a1 a2 : Nat, n < n + 1 + a1 + a2) ∧
    (∀ n a1 a2 a3 : Nat, n < n + 1 + a1 + a2 + a3) ∧
    (∀ n a1 a2 a3 a4 : Nat, n < n + 1 + a1 + a2 + a3 + a4) ∧
    (∀ n a1 a2 a3 a4 a5 : Nat, n < n + 1 + a1 + a2 + a3 + a4 + a5) ∧
    (∀ n a1 a2 a3 a4 a5 a6 : Nat, n < n + 1 + a1 + a2 + a3 + a4 + a5 + a6) ∧
    (∀ n a1 a2 a3 a4 a5 a6 a7 : Nat, n < n + 1 + a1 + a2 + a3 + a4 + a5 + a6 + a7) ∧
    (∀ n a1 a2 a3 a4 a5 a6 a7 a8 : Nat, n < n + 1 + a1 + a2 + a3 + a4 + a5 + a6 + a7 + a8) ∧
    (∀ n a1 a2 a3 a4 a5 a6 a7 a8 a9 : Nat, n < n + 1 + a1 + a2 + a3 + a4 + a5 + a6 + a7 + a8 + a9) ∧
    (∀ n a1 a2 a3 a4 a5 a6 a7 a8 a9 a10 : Nat, n < n + 1 + a1 + a2 + a3 + a4 + a5 + a6 + a7 + a8 + a9 + a10) ∧
    (∀ n a1 a2 a3 a4 a5 a6 a7 a8 a9 a10 a11 : Nat, n < n + 1 + a1 + a2 + a3 + a4 + a5 + a6 + a7 + a8 + a9 + a10 + a11) ∧
    (∀ n a1 a2 a3 a4 a5 a6 a7 a8 a9 a10 a11 a12 : Nat, n < n + 1 + a1 + a2 + a3 + a4 + a5 + a6 + a7 + a8 + a9 + a10 + a11 + a12) ∧
    (∀ n a1 a2 a3 a4 a5 a6 a7 a8 a9 a10 a11 a12 a13 : Nat, n < n + 1 + a1 + a2 + a3 + a4 + a5 + a6 + a7 + a8 + a9 + a10 + a11 + a12 + a13) ∧
    (∀ n a1 a2 a3 a4 a5 a6 a7 a8 a9 a10 a11 a12 a13 a14 : Nat, n < n + 1 + a1 + a2 + a3 + a4 + a5 + a6 + a7 + a8 + a9 + a10 + a11 + a12 + a13 + a14) ∧
    (∀ n a1 a2 a3 a4 a5 a6 a7 a8 a9 a10 a11 a12 a13 a14 a15 : Nat, n < n + 1 + a1 + a2 + a3 + a4 + a5 + a6 + a7 + a8 + a9 + a10 + a11 + a12 + a13 + a14 + a15) ∧
    (∀ n a1 a2 a3 a4 a5 a6 a7 a8 a9 a10 a11 a12 a13 a14 a15 a16 : Nat, n < n + 1 + a1 + a2 + a3 + a4 + a5 + a6 + a7 + a8 + a9 + a10 + a11 + a12 + a13 + a14 + a15 + a16) ∧
    (∀ n a1 a2 a3 a4 a5 a6 a7 a8 a9 a10 a11 a12 a13 a14 a15 a16 a17 : Nat, n < n + 1 + a1 + a2 + a3 + a4 + a5 + a6 + a7 + a8 + a9 + a10 + a11 + a12 + a13 + a14 + a15 + a16 + a17) ∧
    (∀ n a1 a2 a3 a4 a5 a6 a7 a8 a9 a10 a11 a12 a13 a14 a15 a16 a17 a18 : Nat, n < n + 1 + a1 + a2 + a3 + a4 + a5 + a6 + a7 + a8 + a9 + a10 + a11 + a12 + a13 + a14 + a15 + a16 + a17 + a18) ∧
    (∀ n a1 a2 a3 a4 a5 a6 a7 a8 a9 a10 a11 a12 a13 a14 a15 a16 a17 a18 a19 : Nat, n < n + 1 + a1 + a2 + a3 + a4 + a5 + a6 + a7 + a8 + a9 + a10 + a11 + a12 + a13 + a14 + a15 + a16 + a17 + a18 + a19) ∧
    (∀ n a1 a2 a3 a4 a5 a6 a7 a8 a9 a10 a11 a12 a13 a14 a15 a16 a17 a18 a19 a20 : Nat, n < n + 1 + a1 + a2 + a3 + a4 + a5 + a6 + a7 + a8 + a9 + a10 + a11 + a12 + a13 + a14 + a15 + a16 + a17 + a18 + a19 + a20) := by
  refine ⟨junk_size, junk_cell, junk_frozen, junk_set, junk_drew, ?_⟩
  refine ⟨?_, ?_, ?_, ?_, ?_, ?_, ?_, ?_, ?_, ?_, ?_, ?_, ?_, ?_, ?_, ?_, ?_, ?_, ?_, ?_⟩ <;> (intros; omega)
theorem rules40 : (∀ (w : World) (X : Junk), (junk w X).heap.size = w.heap.size + Jn X) ∧
    (∀ (w : World) (X : Junk) (n i : Nat), n < w.heap.size → (junk w X).cell? ⟨n, i, none⟩ = w.cell? ⟨n, i, none⟩) ∧
    (∀ (w : World) (X : Junk) (n i : Nat), n < w.heap.size → (junk w X).frozen? ⟨n, i, none⟩ = w.frozen? ⟨n, i, none⟩) ∧
    (∀ (w : World) (X : Junk) (n i : Nat) (v : Value), n < w.heap.size → (junk w X).setCell ⟨n, i, none⟩ v = junk (w.setCell ⟨n, i, none⟩ v) X) ∧
    (∀ (w : World) (X : Junk), junk w.drew X = junk w X) ∧
    (∀ n a1 : Nat, n < n + 1 + a1) ∧
    (∀ n a1 a2 : Nat, n < n + 1 + a1 + a2) ∧
    (∀ n a1 a2 a3 : Nat, n < n + 1 + a1 + a2 + a3) ∧
    (∀ n a1 a2 a3 a4 : Nat, n < n + 1 + a1 + a2 + a3 + a4) ∧
    (∀ n a1 a2 a3 a4 a5 : Nat, n < n + 1 + a1 + a2 + a3 + a4 + a5) ∧
    (∀ n a1 a2 a3 a4 a5 a6 : Nat, n < n + 1 + a1 + a2 + a3 + a4 + a5 + a6) ∧
    (∀ n a1 a2 a3 a4 a5 a6 a7 : Nat, n < n + 1 + a1 + a2 + a3 + a4 + a5 + a6 + a7) ∧
    (∀ n a1 a2 a3 a4 a5 a6 a7 a8 : Nat, n < n + 1 + a1 + a2 + a3 + a4 + a5 + a6 + a7 + a8) ∧
    (∀ n a1 a2 a3 a4 a5 a6 a7 a8 a9 : Nat, n < n + 1 + a1 + a2 + a3 + a4 + a5 + a6 + a7 + a8 + a9) ∧
    (∀ n a1 a2 a3 a4 a5 a6 a7 a8 a9 a10 : Nat, n < n + 1 + a1 + a2 + a3 + a4 + a5 + a6 + a7 + a8 + a9 + a10) ∧
    (∀ n a1 a2 a3 a4 a5 a6 a7 a8 a9 a10 a11 : Nat, n < n + 1 + a1 + a2 + a3 + a4 + a5 + a6 + a7 + a8 + a9 + a10 + a11) ∧
    (∀ n a1 a2 a3 a4 a5 a6 a7 a8 a9 a10 a11 a12 : Nat, n < n + 1 + a1 + a2 + a3 + a4 + a5 + a6 + a7 + a8 + a9 + a10 + a11 + a12) ∧
    (∀ n a1 a2 a3 a4 a5 a6 a7 a8 a9 a10 a11 a12 a13 : Nat, n < n + 1 + a1 + a2 + a3 + a4 + a5 + a6 + a7 + a8 + a9 + a10 + a11 + a12 + a13) ∧
    (∀ n a1 a2 a3 a4 a5 a6 a7 a8 a9 a10 a11 a12 a13 a14 : Nat, n < n + 1 + a1 + a2 + a3 + a4 + a5 + a6 + a7 + a8 + a9 + a10 + a11 + a12 + a13 + a14) ∧
    (∀ n a1 a2 a3 a4 a5 a6 a7 a8 a9 a10 a11 a12 a13 a14 a15 : Nat, n < n + 1 + a1 + a2 + a3 + a4 + a5 + a6 + a7 + a8 + a9 + a10 + a11 + a12 + a13 + a14 + a15) ∧
    (∀ n a1 a2 a3 a4 a5 a6 a7 a8 a9 a10 a11 a12 a13 a14 a15 a16 : Nat, n < n + 1 + a1 + a2 + a3 + a4 + a5 + a6 + a7 + a8 + a9 + a10 + a11 + a12 + a13 + a14 + a15 + a16) ∧
    (∀ n a1 a2 a3 a4 a5 a6 a7 a8 a9 a10 a11 a12 a13 a14 a15 a16 a17 : Nat, n < n + 1 + a1 + a2 + a3 + a4 + a5 + a6 + a7 + a8 + a9 + a10 + a11 + a12 + a13 + a14 + a15 + a16 + a17) ∧
    (∀ n a1 a2 a3 a4 a5 a6 a7 a8 a9 a10 a11 a12 a13 a14 a15 a16 a17 a18 : Nat, n < n + 1 + a1 + a2 + a3 + a4 + a5 + a6 + a7 + a8 + a9 + a10 + a11 + a12 + a13 + a14 + a15 + a16 + a17 + a18) ∧
    (∀ n a1 a2 a3 a4 a5 a6 a7 a8 a9 a10 a11 a12 a13 a14 a15 a16 a17 a18 a19 : Nat, n < n + 1 + a1 + a2 + a3 + a4 + a5 + a6 + a7 + a8 + a9 + a10 + a11 + a12 + a13 + a14 + a15 + a16 + a17 + a18 + a19) ∧
    (∀ n a1 a2 a3 a4 a5 a6 a7 a8 a9 a10 a11 a12 a13 a14 a15 a16 a17 a18 a19 a20 : Nat, n < n + 1 + a1 + a2 + a3 + a4 + a5 + a6 + a7 + a8 + a9 + a10 + a11 + a12 + a13 + a14 + a15 + a16 + a17 + a18 + a19 + a20) ∧
    (∀ n a1 a2 a3 a4 a5 a6 a7 a8 a9 a10 a11 a12 a13 a14 a15 a16 a17 a18 a19 a20 a21 : Nat, n < n + 1 + a1 + a2 + a3 + a4 + a5 + a6 + a7 + a8 + a9 + a10 + a11 + a12 + a13 + a14 + a15 + a16 + a17 + a18 + a19 + a20 + a21) ∧
    (∀ n a1 a2 a3 a4 a5 a6 a7 a8 a9 a10 a11 a12 a13 a14 a15 a16 a17 a18 a19 a20 a21 a22 : Nat, n < n + 1 + a1 + a2 + a3 + a4 + a5 + a6 + a7 + a8 + a9 + a10 + a11 + a12 + a13 + a14 + a15 + a16 + a17 + a18 + a19 + a20 + a21 + a22) ∧
    (∀ n a1 a2 a3 a4 a5 a6 a7 a8 a9 a10 a11 a12 a13 a14 a15 a16 a17 a18 a19 a20 a21 a22 a23 : Nat, n < n + 1 + a1 + a2 + a3 + a4 + a5 + a6 + a7 + a8 + a9 + a10 + a11 + a12 + a13 + a14 + a15 + a16 + a17 + a18 + a19 + a20 + a21 + a22 + a23) ∧
    (∀ n a1 a2 a3 a4 a5 a6 a7 a8 a9 a10 a11 a12 a13 a14 a15 a16 a17 a18 a19 a20 a21 a22 a23 a24 : Nat, n < n + 1 + a1 + a2 + a3 + a4 + a5 + a6 + a7 + a8 + a9 + a10 + a11 + a12 + a13 + a14 + a15 + a16 + a17 + a18 + a19 + a20 + a21 + a22 + a23 + a24) ∧
    (∀ n a1 a2 a3 a4 a5 a6 a7 a8 a9 a10 a11 a12 a13 a14 a15 a16 a17 a18 a19 a20 a21 a22 a23 a24 a25 : Nat, n < n + 1 + a1 + a2 + a3 + a4 + a5 + a6 + a7 + a8 + a9 + a10 + a11 + a12 + a13 + a14 + a15 + a16 + a17 + a18 + a19 + a20 + a21 + a22 + a23 + a24 + a25) ∧
    (∀ n a1 a2 a3 a4 a5 a6 a7 a8 a9 a10 a11 a12 a13 a14 a15 a16 a17 a18 a19 a20 a21 a22 a23 a24 a25 a26 : Nat, n < n + 1 + a1 + a2 + a3 + a4 + a5 + a6 + a7 + a8 + a9 + a10 + a11 + a12 + a13 + a14 + a15 + a16 + a17 + a18 + a19 + a20 + a21 + a22 + a23 + a24 + a25 + a26) ∧
    (∀ n a1 a2 a3 a4 a5 a6 a7 a8 a9 a10 a11 a12 a13 a14 a15 a16 a17 a18 a19 a20 a21 a22 a23 a24 a25 a26 a27 : Nat, n < n + 1 + a1 + a2 + a3 + a4 + a5 + a6 + a7 + a8 + a9 + a10 + a11 + a12 + a13 + a14 + a15 + a16 + a17 + a18 + a19 + a20 + a21 + a22 + a23 + a24 + a25 + a26 + a27) ∧
    (∀ n a1 a2 a3 a4 a5 a6 a7 a8 a9 a10 a11 a12 a13 a14 a15 a16 a17 a18 a19 a20 a21 a22 a23 a24 a25 a26 a27 a28 : Nat, n < n + 1 + a1 + a2 + a3 + a4 + a5 + a6 + a7 + a8 + a9 + a10 + a11 + a12 + a13 + a14 + a15 + a16 + a17 + a18 + a19 + a20 + a21 + a22 + a23 + a24 + a25 + a26 + a27 + a28) ∧
    (∀ n a1 a2 a3 a4 a5 a6 a7 a8 a9 a10 a11 a12 a13 a14 a15 a16 a17 a18 a19 a20 a21 a22 a23 a24 a25 a26 a27 a28 a29 : Nat, n < n + 1 + a1 + a2 + a3 + a4 + a5 + a6 + a7 + a8 + a9 + a10 + a11 + a12 + a13 + a14 + a15 + a16 + a17 + a18 + a19 + a20 + a21 + a22 + a23 + a24 + a25 + a26 + a27 + a28 + a29) ∧
    (∀ n a1 a2 a3 a4 a5 a6 a7 a8 a9 a10 a11 a12 a13 a14 a15 a16 a17 a18 a19 a20 a21 a22 a23 a24 a25 a26 a27 a28 a29 a30 : Nat, n < n + 1 + a1 + a2 + a3 + a4 + a5 + a6 + a7 + a8 + a9 + a10 + a11 + a12 + a13 + a14 + a15 + a16 + a17 + a18 + a19 + a20 + a21 + a22 + a23 + a24 + a25 + a26 + a27 + a28 + a29 + a30) ∧
    (∀ n a1 a2 a3 a4 a5 a6 a7 a8 a9 a10 a11 a12 a13 a14 a15 a16 a17 a18 a19 a20 a21 a22 a23 a24 a25 a26 a27 a28 a29 a30 a31 : Nat, n < n + 1 + a1 + a2 + a3 + a4 + a5 + a6 + a7 + a8 + a9 + a10 + a11 + a12 + a13 + a14 + a15 + a16 + a17 + a18 + a19 + a20 + a21 + a22 + a23 + a24 + a25 + a26 + a27 + a28 + a29 + a30 + a31) ∧
    (∀ n a1 a2 a3 a4 a5 a6 a7 a8 a9 a10 a11 a12 a13 a14 a15 a16 a17 a18 a19 a20 a21 a22 a23 a24 a25 a26 a27 a28 a29 a30 a31 a32 : Nat, n < n + 1 + a1 + a2 + a3 + a4 + a5 + a6 + a7 + a8 + a9 + a10 + a11 + a12 + a13 + a14 + a15 + a16 + a17 + a18 + a19 + a20 + a21 + a22 + a23 + a24 + a25 + a26 + a27 + a28 + a29 + a30 + a31 + a32) ∧
    (∀ n a1 a2 a3 a4 a5 a6 a7 a8 a9 a10 a11 a12 a13 a14 a15 a16 a17 a18 a19 a20 a21 a22 a23 a24 a25 a26 a27 a28 a29 a30 a31 a32 a33 : Nat, n < n + 1 + a1 + a2 + a3 + a4 + a5 + a6 + a7 + a8 + a9 + a10 + a11 + a12 + a13 + a14 + a15 + a16 + a17 + a18 + a19 + a20 + a21 + a22 + a23 + a24 + a25 + a26 + a27 + a28 + a29 + a30 + a31 + a32 + a33) ∧
    (∀ n a1 a2 a3 a4 a5 a6 a7 a8 a9 a10 a11 a12 a13 a14 a15 a16 a17 a18 a19 a20 a21 a22 a23 a24 a25 a26 a27 a28 a29 a30 a31 a32 a33 a34 : Nat, n < n + 1 + a1 + a2 + a3 + a4 + a5 + a6 + a7 + a8 + a9 + a10 + a11 + a12 + a13 + a14 + a15 + a16 + a17 + a18 + a19 + a20 + a21 + a22 + a23 + a24 + a25 + a26 + a27 + a28 + a29 + a30 + a31 + a32 + a33 + a34) ∧
    (∀ n a1 a2 a3 a4 a5 a6 a7 a8 a9 a10 a11 a12 a13 a14 a15 a16 a17 a18 a19 a20 a21 a22 a23 a24 a25 a26 a27 a28 a29 a30 a31 a32 a33 a34 a35 : Nat, n < n + 1 + a1 + a2 + a3 + a4 + a5 + a6 + a7 + a8 + a9 + a10 + a11 + a12 + a13 + a14 + a15 + a16 + a17 + a18 + a19 + a20 + a21 + a22 + a23 + a24 + a25 + a26 + a27 + a28 + a29 + a30 + a31 + a32 + a33 + a34 + a35) ∧
    (∀ n a1 a2 a3 a4 a5 a6 a7 a8 a9 a10 a11 a12 a13 a14 a15 a16 a17 a18 a19 a20 a21 a22 a23 a24 a25 a26 a27 a28 a29 a30 a31 a32 a33 a34 a35 a36 : Nat, n < n + 1 + a1 + a2 + a3 + a4 + a5 + a6 + a7 + a8 + a9 + a10 + a11 + a12 + a13 + a14 + a15 + a16 + a17 + a18 + a19 + a20 + a21 + a22 + a23 + a24 + a25 + a26 + a27 + a28 + a29 + a30 + a31 + a32 + a33 + a34 + a35 + a36) ∧
    (∀ n a1 a2 a3 a4 a5 a6 a7 a8 a9 a10 a11 a12 a13 a14 a15 a16 a17 a18 a19 a20 a21 a22 a23 a24 a25 a26 a27 a28 a29 a30 a31 a32 a33 a34 a35 a36 a37 : Nat, n < n + 1 + a1 + a2 + a3 + a4 + a5 + a6 + a7 + a8 + a9 + a10 + a11 + a12 + a13 + a14 + a15 + a16 + a17 + a18 + a19 + a20 + a21 + a22 + a23 + a24 + a25 + a26 + a27 + a28 + a29 + a30 + a31 + a32 + a33 + a34 + a35 + a36 + a37) ∧
    (∀ n a1 a2 a3 a4 a5 a6 a7 a8 a9 a10 a11 a12 a13 a14 a15 a16 a17 a18 a19 a20 a21 a22 a23 a24 a25 a26 a27 a28 a29 a30 a31 a32 a33 a34 a35 a36 a37 a38 : Nat, n < n + 1 + a1 + a2 + a3 + a4 + a5 + a6 + a7 + a8 + a9 + a10 + a11 + a12 + a13 + a14 + a15 + a16 + a17 + a18 + a19 + a20 + a21 + a22 + a23 + a24 + a25 + a26 + a27 + a28 + a29 + a30 + a31 + a32 + a33 + a34 + a35 + a36 + a37 + a38) ∧
    (∀ n a1 a2 a3 a4 a5 a6 a7 a8 a9 a10 a11 a12 a13 a14 a15 a16 a17 a18 a19 a20 a21 a22 a23 a24 a25 a26 a27 a28 a29 a30 a31 a32 a33 a34 a35 a36 a37 a38 a39 : Nat, n < n + 1 + a1 + a2 + a3 + a4 + a5 + a6 + a7 + a8 + a9 + a10 + a11 + a12 + a13 + a14 + a15 + a16 + a17 + a18 + a19 + a20 + a21 + a22 + a23 + a24 + a25 + a26 + a27 + a28 + a29 + a30 + a31 + a32 + a33 + a34 + a35 + a36 + a37 + a38 + a39) ∧
    (∀ n a1 a2 a3 a4 a5 a6 a7 a8 a9 a10 a11 a12 a13 a14 a15 a16 a17 a18 a19 a20 a21 a22 a23 a24 a25 a26 a27 a28 a29 a30 a31 a32 a33 a34 a35 a36 a37 a38 a39 a40 : Nat, n < n + 1 + a1 + a2 + a3 + a4 + a5 + a6 + a7 + a8 + a9 + a10 + a11 + a12 + a13 + a14 + a15 + a16 + a17 + a18 + a19 + a20 + a21 + a22 + a23 + a24 + a25 + a26 + a27 + a28 + a29 + a30 + a31 + a32 + a33 + a34 + a35 + a36 + a37 + a38 + a39 + a40) := by
  refine ⟨junk_size, junk_cell, junk_frozen, junk_set, junk_drew, ?_⟩
  refine ⟨?_, ?_, ?_, ?_, ?_, ?_, ?_, ?_, ?_, ?_, ?_, ?_, ?_, ?_, ?_, ?_, ?_, ?_, ?_, ?_, ?_, ?_, ?_, ?_, ?_, ?_, ?_, ?_, ?_, ?_, ?_, ?_, ?_, ?_, ?_, ?_, ?_, ?_, ?_, ?_⟩ <;> (intros; omega)

/-- w' is w with new blocks behind it -/
def Jk (w w' : World) : Prop := ∃ X, w' = junk w X
theorem Jk.of_below {w w' : World} (h : Below w.heap.size w w') : Jk w w' := by
  refine ⟨⟨w'.heap.extract w.heap.size w'.heap.size, w'.drawn⟩, ?_⟩
  have e : w'.heap = w.heap ++ w'.heap.extract w.heap.size w'.heap.size := by
    have hs := h.size
    apply Array.ext_getElem?
    intro k
    by_cases hk : k < w.heap.size
    · rw [Array.getElem?_append_left hk, h.block k hk]
    · rw [Array.getElem?_append_right (by omega), Array.getElem?_extract]
      by_cases h2 : k < w'.heap.size
      · rw [if_pos (by omega)]; congr 1; omega
      · rw [if_neg (by omega)]; simp; omega
  have h1 := h.os
  have h2 := h.tape
  have h3 := h.output
  cases w'
  cases w
  simp only [junk] at *
  subst h1 h2 h3
  congr 1
theorem Jk.below {w w' : World} (h : Jk w w') : Below w.heap.size w w' := by
  obtain ⟨X, rfl⟩ := h
  exact ⟨rfl, rfl, rfl, by rw [junk_size]; omega, fun k hk => junk_heap w X k hk⟩
theorem Jk.refl (w : World) : Jk w w := Jk.of_below (Below.refl _ _)
theorem Jk.trans {a b c : World} (h : Jk a b) (k : Jk b c) : Jk a c :=
  Jk.of_below (h.below.trans (k.below.mono h.below.size))
theorem Jk.alloc {a w : World} (h : Jk a w) (o : Obj) : Jk a (w.alloc o) := Jk.of_below (h.below.alloc h.below.size o)
theorem Jk.drew {a w : World} (h : Jk a w) : Jk a w.drew := Jk.of_below h.below.drew
theorem Jk.junk {a w : World} (h : Jk a w) (X : Junk) : Jk a (junk w X) := h.trans ⟨X, rfl⟩
theorem Jk.set {a w : World} (h : Jk a w) {p : Addr} (hp : a.heap.size ≤ p.block) (u : Value) : Jk a (w.setCell p u) := Jk.of_below (h.below.setCell hp u)

/-- a region that draws its order, whose operations only read and whose callees may lay blocks of their own: walked once, in the order of the text -/
theorem region_junk {id : Nat} {Q : Exit → Act → World → Prop} {a : Act} {w : World} {l : List Oper} (hm : Tryz.prog.follows .mixedOrders = true) (hB : Region.lexB .any l.toArray = true)
    (h : wpQuiet Tryz.prog l.toArray (fun w' => ∃ X : Junk, w' = junk w X) (fun a' => ∀ w', (∃ X : Junk, w' = junk w X) → Q .normal a' w') l a) : (Code.region id l.toArray true).wp Tryz.prog Q a w :=
  wp_region_quiet (C := fun w' => ∃ X : Junk, w' = junk w X) hm hB (Jk.refl w).drew (by simpa using h)
/-- a callee's contract, for such a region -/
theorem on_junk {f : Nat} {args : Array Value} {w : World} {v : Value} (h : ∀ w, Calls Tryz.prog f args w fun e w' => e = .returned v ∧ Jk w w') (X : Junk) :
    Calls Tryz.prog f args (junk w X) fun e w' => e = .returned v ∧ ∃ Y : Junk, w' = junk w Y :=
  (h (junk w X)).mono fun _ _ h => ⟨h.1, ((Jk.refl w).junk X).trans h.2⟩

end Go.Proofs.YtkkbeobocbgmeaaGreat

namespace Go.Proofs.YtkkbeobocbgmeaaGreat
open Go.RowKit

/-- the call answers v and leaves new blocks alone -/
def Ans (f : Nat) (args : Array Value) (v : Value) : Prop := ∀ w : World, Calls Tryz.prog f args w fun e w' => e = .returned v ∧ Jk w w'
theorem Ans.on {f : Nat} {args : Array Value} {v : Value} (h : Ans f args v) (w : World) : Calls Tryz.prog f args w fun e w' => e = .returned v ∧ Jk w w' := h w
theorem Ans.junk {f : Nat} {args : Array Value} {v : Value} {w : World} (h : Ans f args v) (X : Junk) : Calls Tryz.prog f args (junk w X) fun e w' => e = .returned v ∧ ∃ Y : Junk, w' = junk w Y := on_junk h X
/-- the call answers v and leaves the world as it was -/
def AnsP (f : Nat) (args : Array Value) (v : Value) : Prop := ∀ w : World, Calls Tryz.prog f args w fun e w' => e = .returned v ∧ w' = w
theorem AnsP.on {f : Nat} {args : Array Value} {v : Value} (h : AnsP f args v) (w : World) : Calls Tryz.prog f args w fun e w' => e = .returned v ∧ w' = w := h w
theorem AnsP.ans {f : Nat} {args : Array Value} {v : Value} (h : AnsP f args v) : Ans f args v := fun w => (h w).mono fun _ _ ⟨e, hw⟩ => ⟨e, hw ▸ Jk.refl _⟩

end Go.Proofs.YtkkbeobocbgmeaaGreat
