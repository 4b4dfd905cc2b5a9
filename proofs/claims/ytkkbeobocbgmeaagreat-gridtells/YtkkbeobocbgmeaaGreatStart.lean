/- What the walks of chapter 8's statements begin with: numbers, a point, the model that numbers made. -/
import Derived.Test.YtkkbeobocbgmeaaGreatRowsF
import Derived.Test.YtkkbeobocbgmeaaGreatModelE
namespace Go.Proofs.YtkkbeobocbgmeaaGreat
open Go.RowKit M

/-- a point that was laid in a block of its own -/
def PtIn (w : World) (h : Nat) (p0 p1 p2 p3 : Int) : Prop := h < w.heap.size ∧ w.cell? ⟨h, 0, none⟩ = some (.int .i64 p0) ∧ w.cell? ⟨h, 1, none⟩ = some (.int .i64 p1) ∧ w.cell? ⟨h, 2, none⟩ = some (.int .i64 p2) ∧ w.cell? ⟨h, 3, none⟩ = some (.int .i64 p3)
theorem PtIn.jk {w w' : World} {h : Nat} {p0 p1 p2 p3 : Int} (H : PtIn w h p0 p1 p2 p3) (hj : Jk w w') : PtIn w' h p0 p1 p2 p3 := by
  obtain ⟨h0, h1, h2, h3, h4⟩ := H
  have e := fun i => hj.below.cell (p := ⟨h, i, none⟩) h0
  exact ⟨Nat.lt_of_lt_of_le h0 hj.below.size, (e 0).trans h1, (e 1).trans h2, (e 2).trans h3, (e 3).trans h4⟩
theorem PtIn.laid (w : World) (p0 p1 p2 p3 : Int) (t : TypeId) : PtIn (w.alloc (.cells #[.int .i64 p0, .int .i64 p1, .int .i64 p2, .int .i64 p3] t)) w.heap.size p0 p1 p2 p3 :=
  ⟨by simp, World.cell?_alloc_at _ _ _ _ rfl, World.cell?_alloc_at _ _ _ _ rfl, World.cell?_alloc_at _ _ _ _ rfl, World.cell?_alloc_at _ _ _ _ rfl⟩
/-- a forest that was laid in a block of its own -/
def FoIn (w : World) (h : Nat) (f : Fo) : Prop := h < w.heap.size ∧ w.cell? ⟨h, 0, none⟩ = some (.int .i64 f.d) ∧ w.cell? ⟨h, 1, none⟩ = some (.int .i64 f.k) ∧ w.cell? ⟨h, 2, none⟩ = some (.slice f.ba f.bn f.bc) ∧ w.cell? ⟨h, 3, none⟩ = some (.slice f.sa f.sn f.sc)
theorem FoIn.jk {w w' : World} {h : Nat} {f : Fo} (H : FoIn w h f) (hj : Jk w w') : FoIn w' h f := by
  obtain ⟨h0, h1, h2, h3, h4⟩ := H
  have e := fun i => hj.below.cell (p := ⟨h, i, none⟩) h0
  exact ⟨Nat.lt_of_lt_of_le h0 hj.below.size, (e 0).trans h1, (e 1).trans h2, (e 2).trans h3, (e 3).trans h4⟩
theorem FoIn.laid (w : World) (f : Fo) (t : TypeId) : FoIn (w.alloc (.cells #[.int .i64 f.d, .int .i64 f.k, .slice f.ba f.bn f.bc, .slice f.sa f.sn f.sc] t)) w.heap.size f :=
  ⟨by simp, World.cell?_alloc_at _ _ _ _ rfl, World.cell?_alloc_at _ _ _ _ rfl, World.cell?_alloc_at _ _ _ _ rfl, World.cell?_alloc_at _ _ _ _ rfl⟩
/-- the model that numbers made: it was made in w1, and lies in block h of wc -/
def Made (w0 w1 wc : World) (h : Nat) (m : Md) : Prop := MdB wc h m ∧ w1.heap.size ≤ h ∧ RightM m ∧ m.d ≤ 3 ∧ m.n ≤ 4 ∧ FRow w0.heap.size w1 (.slice m.a m.n m.c) m.n m.ts ∧ Jk w0 w1 ∧ Jk w1 wc
theorem GotM.made {w0 w1 : World} {m : Md} (hr : RightM m) (h3 : m.d ≤ 3) (h4 : m.n ≤ 4) (hf : FRow w0.heap.size w1 (.slice m.a m.n m.c) m.n m.ts) (hj : Jk w0 w1) : Made w0 w1 (w1.alloc (.cells #[.int .i64 m.d, .int .i64 m.k, .int .i64 m.b0, .int .i64 m.b1, .int .i64 m.b2, .slice m.a m.n m.c] 31)) w1.heap.size m :=
  ⟨MdB.laid w1 m, Nat.le_refl _, hr, h3, h4, hf, hj, (Jk.refl w1).alloc _⟩
theorem not_right_dim {m : Md} {x : Int} (h : x < 1) : ¬ RightM { m with d := x } := fun h' => by have := h'.d1; simp only at this; omega


end Go.Proofs.YtkkbeobocbgmeaaGreat
