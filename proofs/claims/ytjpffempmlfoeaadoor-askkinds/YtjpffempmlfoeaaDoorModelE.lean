/- What sum, Eval and Size of package model answer.
   What Eval, Best and Size of package model answer.
   What Best of package model answers. -/
import Derived.Test.YtjpffempmlfoeaaDoorModelB
namespace Go.Proofs.YtjpffempmlfoeaaDoor
open Go.RowKit M


end Go.Proofs.YtjpffempmlfoeaaDoor

namespace Go.Proofs.YtjpffempmlfoeaaDoor
open Go.RowKit M

theorem RightM.n8 {m : Md} {w : World} (h : RightM m) (hw : m.ok w) : m.n ≤ 8 := by have := h.trees.1; rw [hw.is.len] at this; exact this
theorem RightM.bc {m : Md} (h : RightM m) {c : Int} : m.b c = 0 ∨ fit32 (m.b c) = true := by
  obtain ⟨⟨h0, h1, h2⟩, _⟩ := h.bias
  right
  unfold Md.b
  split
  · exact h0
  · split <;> assumption
/-- what Eval comes to -/
def EvalP (m : Md) (p : Int → Int) (c E : Int) : Prop := (RightM m → 0 ≤ c → c < m.k → m.sum p c = E) ∧ (¬ (RightM m ∧ 0 ≤ c ∧ c < m.k) → E = 0)
open Classical in
theorem evalP_is (m : Md) (p : Int → Int) (c : Int) : ∃ E, EvalP m p c E := by
  by_cases h : RightM m ∧ 0 ≤ c ∧ c < m.k
  · exact ⟨_, fun _ _ _ => rfl, fun h' => absurd h h'⟩
  · exact ⟨0, fun h1 h2 h3 => absurd ⟨h1, h2, h3⟩ h, fun _ => rfl⟩
theorem EvalP.at {m : Md} {p : Int → Int} {c E : Int} (h : EvalP m p c E) (hr : RightM m) (h0 : 0 ≤ c) (h1 : c < m.k) : E = m.sum p c := (h.1 hr h0 h1).symm
theorem EvalP.no {m : Md} {p : Int → Int} {c E : Int} (h : EvalP m p c E) (hr : ¬ (RightM m ∧ 0 ≤ c ∧ c < m.k)) : E = 0 := h.2 hr
theorem RightM.evalP {m : Md} (hr : RightM m) (p : Int → Int) {c : Int} (h0 : 0 ≤ c) (h1 : c < m.k) : EvalP m p c (m.sum p c) := ⟨fun _ _ _ => rfl, fun h => absurd ⟨hr, h0, h1⟩ h⟩


def sizeI (ts : List Tr) : Nat → Int
  | 0 => 0
  | j + 1 => wrap64 (sizeI ts j + ((tA ts j).n : Int))

end Go.Proofs.YtjpffempmlfoeaaDoor

namespace Go.Proofs.YtjpffempmlfoeaaDoor
open Go.RowKit M

/-- the best of the classes 0 to j -/
def bestTo (m : Md) (p : Int → Int) : Nat → Int
  | 0 => 0
  | j + 1 => if m.sum p (bestTo m p j) < m.sum p ((j + 1 : Nat) : Int) then ((j + 1 : Nat) : Int) else bestTo m p j
theorem bestTo_bd (m : Md) (p : Int → Int) (j : Nat) : 0 ≤ bestTo m p j ∧ bestTo m p j ≤ j := by
  induction j with
  | zero => simp [bestTo]
  | succ j ih =>
    simp only [bestTo]
    split <;> omega
theorem bestTo_best (m : Md) (p : Int → Int) (j : Nat) : ∀ c : Int, 0 ≤ c → c ≤ j → m.sum p c ≤ m.sum p (bestTo m p j) ∧ (c < bestTo m p j → m.sum p c < m.sum p (bestTo m p j)) := by
  induction j with
  | zero =>
    intro c h0 h1
    obtain rfl : c = 0 := by omega
    simp [bestTo]
  | succ j ih =>
    intro c h0 h1
    have hb := bestTo_bd m p j
    simp only [bestTo]
    split
    · by_cases e : c = ((j + 1 : Nat) : Int)
      · subst e; simp
      · have := ih c h0 (by omega)
        constructor <;> intros <;> omega
    · by_cases e : c = ((j + 1 : Nat) : Int)
      · subst e; constructor <;> intros <;> omega
      · exact ih c h0 (by omega)


end Go.Proofs.YtjpffempmlfoeaaDoor
