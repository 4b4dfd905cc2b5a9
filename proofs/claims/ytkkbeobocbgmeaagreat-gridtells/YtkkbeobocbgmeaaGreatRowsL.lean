/- Rows of rows of ints. No program's code is spoken of here. -/
import Derived.Test.YtkkbeobocbgmeaaGreatRowsM
namespace Go.Proofs.YtkkbeobocbgmeaaGreat
open Go.RowKit M

structure Li where
  a : Option Addr
  n : Nat
  c : Nat
  z : List Int
instance : Inhabited Li := ⟨⟨none, 0, 0, []⟩⟩
structure IsL (w : World) (a : Option Addr) (n c : Nat) (f : Nat → Li) : Prop where
  cap : n ≤ c
  max : c ≤ maxLen
  all : ∀ i, i < n → IsI w (f i).a (f i).n (f i).c (f i).z
  lies : 0 < n → ∃ g o, a = some ⟨g, o, none⟩ ∧ g < w.heap.size ∧ ∀ i, i < n → w.cell? ⟨g, o + i, none⟩ = some (.slice (f i).a (f i).n (f i).c)
theorem IsL.jk {w w' : World} {a : Option Addr} {n c : Nat} {f : Nat → Li} (h : IsL w a n c f) (hj : Jk w w') : IsL w' a n c f :=
  ⟨h.cap, h.max, fun i hi => (h.all i hi).jk hj, fun h0 => by
    obtain ⟨g, o, h1, h2, h3⟩ := h.lies h0
    exact ⟨g, o, h1, Nat.lt_of_lt_of_le h2 hj.below.size, fun i hi => by rw [hj.below.cell (p := ⟨g, o + i, none⟩) h2]; exact h3 i hi⟩⟩

end Go.Proofs.YtkkbeobocbgmeaaGreat
