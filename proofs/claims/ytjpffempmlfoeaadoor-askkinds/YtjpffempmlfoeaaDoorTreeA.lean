/- What unpackAll, namesTwo and side of package tree answer: the nodes of a row, if each word is one.
   What namesTwo, side, unpackTree and Right of package tree answer: is a row of words a tree?
   What walk, Walk and Value of package tree answer: the leaf of a point.
   What Leaves and Depth of package tree answer. -/
import Derived.Test.YtjpffempmlfoeaaDoorRowsT
import Derived.Deep.DeepCutAuto
namespace Go.Proofs.YtjpffempmlfoeaaDoor
open Go.RowKit M

def nodesTo (ws : List Int) (j : Nat) : List Nd := (List.range j).map (ndA ws)
theorem nodesTo_succ (ws : List Int) (j : Nat) : nodesTo ws (j + 1) = nodesTo ws j ++ [ndA ws j] := by simp [nodesTo, List.range_succ]
theorem nodesTo_length (ws : List Int) (j : Nat) : (nodesTo ws j).length = j := by simp [nodesTo]
theorem nodesTo_at (ws : List Int) (n i : Nat) (h : i < n) : nA (nodesTo ws n) i = ndA ws i := by simp [nA, nodesTo, h]

/-- 1 to 31 words, each of them a node -/
def AllP (ws : List Int) : Prop := 1 ≤ ws.length ∧ ws.length ≤ 31 ∧ ∀ i, i < ws.length → unB (wd ws i) = true

/-- nodes of a row of the call's own, and true; or none, and false -/
def GotN (w : World) (n : Nat) (L : List Nd) (b : Bool) (e : Ending) (w' : World) : Prop :=
  ∃ v, e = .returned (.tuple #[v, .bool b]) ∧ (b = true → ∃ g c', v = .slice (some ⟨g, 0, none⟩) n c' ∧ OwnN w.heap.size w' v n L) ∧ (b = false → v = .slice none 0 0) ∧ Jk w w'


end Go.Proofs.YtjpffempmlfoeaaDoor

namespace Go.Proofs.YtjpffempmlfoeaaDoor
open Go.RowKit M

def namesB (l r i n : Int) : Bool := decide (i < l) && decide (i < r) && decide (l < n) && decide (r < n) && !(l == r)


/-- a point's value -/
abbrev pointV (p : Int → Int) : Value := .agg #[.int .i64 (p 0), .int .i64 (p 1), .int .i64 (p 2), .int .i64 (p 3)]

/-- 31 ints in block h -/
def Ints31 (t : TypeId) (w : World) (h : Nat) (f : Nat → Int) : Prop := ∃ cur : Array Value, w.heap[h]? = some (.cells cur t (0, 0)) ∧ cur.size = 31 ∧ ∀ q, q < 31 → cur[q]? = some (.int .i64 (f q))
def updN (f : Nat → Int) (k : Nat) (x : Int) : Nat → Int := fun q => if q = k then x else f q
theorem Ints31.cell {t : TypeId} {w : World} {h : Nat} {f : Nat → Int} (H : Ints31 t w h f) {q : Nat} (hq : q < 31) : w.cell? ⟨h, q, none⟩ = some (.int .i64 (f q)) := by
  obtain ⟨cur, h1, h2, h3⟩ := H
  rw [cell_of_row _ _ _ _ _ _ h1]
  exact h3 q hq
theorem Ints31.frozen {t : TypeId} {w : World} {h : Nat} {f : Nat → Int} (H : Ints31 t w h f) (q : Nat) : w.frozen? ⟨h, q, none⟩ = false := by
  obtain ⟨cur, h1, h2, h3⟩ := H
  exact frozen_of_row _ _ _ _ _ h1
theorem Ints31.set {t : TypeId} {w : World} {h : Nat} {f : Nat → Int} (H : Ints31 t w h f) {q : Nat} (hq : q < 31) (x : Int) : Ints31 t (w.setCell ⟨h, q, none⟩ (.int .i64 x)) h (updN f q x) := by
  obtain ⟨cur, h1, h2, h3⟩ := H
  refine ⟨_, heap_setCell_same _ _ _ _ _ _ h1, by simpa using h2, fun k hk => ?_⟩
  unfold updN
  by_cases e : k = q
  · subst e
    rw [Array.getElem?_setIfInBounds_self_of_lt (by omega), if_pos rfl]
  · rw [Array.getElem?_setIfInBounds_ne (by omega), if_neg e]
    exact h3 k hk
theorem Ints31.lt {t : TypeId} {w : World} {h : Nat} {f : Nat → Int} (H : Ints31 t w h f) : h < w.heap.size := by
  obtain ⟨cur, h1, h2, h3⟩ := H
  exact (Array.getElem?_eq_some_iff.1 h1).1
theorem Ints31.jk {t : TypeId} {w w' : World} {h : Nat} {f : Nat → Int} (H : Ints31 t w h f) (hj : Jk w w') : Ints31 t w' h f := by
  have hl := H.lt
  obtain ⟨cur, h1, h2, h3⟩ := H
  exact ⟨cur, by rw [hj.below.block h hl]; exact h1, h2, h3⟩
theorem Ints31.congr {t : TypeId} {w : World} {h : Nat} {f f' : Nat → Int} (H : Ints31 t w h f) (e : ∀ q, q < 31 → f q = f' q) : Ints31 t w h f' := by
  obtain ⟨cur, h1, h2, h3⟩ := H
  exact ⟨cur, h1, h2, fun q hq => by rw [← e q hq]; exact h3 q hq⟩

theorem grown_set (w : World) (h q : Nat) (u : Value) : w.grownBy (w.setCell ⟨h, q, none⟩ u) (some h) :=
  ⟨rfl, rfl, rfl, by simp [World.setCell], fun k _ hk => Below.heap_setCell _ _ _ _ (fun e => hk (by simp [e]))⟩
theorem OwnN.set {B : Nat} {w : World} {g c n : Nat} {L : List Nd} (H : OwnN B w (.slice (some ⟨g, 0, none⟩) n c) n L) {h : Nat} (hne : g ≠ h) (q : Nat) (u : Value) : OwnN B (w.setCell ⟨h, q, none⟩ u) (.slice (some ⟨g, 0, none⟩) n c) n L :=
  H.kept (grown_set w h q u) (.inr (by simpa [Value.ownBlock] using hne))



end Go.Proofs.YtjpffempmlfoeaaDoor

namespace Go.Proofs.YtjpffempmlfoeaaDoor
open Go.RowKit M


end Go.Proofs.YtjpffempmlfoeaaDoor

namespace Go.Proofs.YtjpffempmlfoeaaDoor
open Go.RowKit M

/-- a row of ints of the call's own -/
def GotI (w : World) (zs : List Int) (e : Ending) (w' : World) : Prop := ∃ v m, e = .returned v ∧ OwnI w.heap.size w' v m zs ∧ Jk w w'
theorem row_mono {w : World} {B B' : Nat} {e : TypeId} {size : Nat} {v : Value} {n : Nat} {xs : List Value} (h : w.ownsRow B e size v n xs) (hb : B' ≤ B) : w.ownsRow B' e size v n xs := by
  refine ⟨h.1, ?_⟩
  rcases h.2 with h | ⟨g, cap, cur, h1, h2, h3⟩
  · exact .inl h
  · exact .inr ⟨g, cap, cur, h1, by omega, h3⟩

end Go.Proofs.YtjpffempmlfoeaaDoor
