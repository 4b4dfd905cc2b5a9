/- Plain mathematics of chapter 5, fifth part: the order of boxes. No program is spoken of here. -/
import Derived.Test.YtdmkaaehpcnpfaaMathB2
namespace Go.Proofs.Ytdmkaaehpcnpfaa.M

/-- is the first number that is unlike lesser? -/
def lexB : List Int → List Int → Bool
  | x :: xs, y :: ys => if x = y then lexB xs ys else decide (x < y)
  | _, _ => false
def Bx.nums (x : Bx) : List Int := [x.a.lo, x.b.lo, x.c.lo, x.d.lo, x.e.lo, x.a.hi, x.b.hi, x.c.hi, x.d.hi, x.e.hi]
/-- boxes by their Los, then by their His -/
def Bx.bef (x y : Bx) : Bool := lexB x.nums y.nums
theorem lexB_self : ∀ l : List Int, lexB l l = false
  | [] => rfl
  | x :: xs => by simp [lexB, lexB_self xs]
theorem lexB_trans : ∀ {a b c : List Int}, lexB a b = true → lexB b c = true → lexB a c = true
  | [], _, _, h, _ => by simp [lexB] at h
  | _ :: _, [], _, h, _ => by simp [lexB] at h
  | _ :: _, _ :: _, [], _, h => by simp [lexB] at h
  | x :: xs, y :: ys, z :: zs, h1, h2 => by
    unfold lexB at h1 h2 ⊢
    by_cases e1 : x = y
    · by_cases e2 : y = z
      · rw [if_pos e1] at h1
        rw [if_pos e2] at h2
        rw [if_pos (e1.trans e2)]
        exact lexB_trans h1 h2
      · rw [if_neg e2] at h2
        rw [if_neg (fun e => e2 (e1.symm.trans e)), e1]
        exact h2
    · rw [if_neg e1] at h1
      have h1' := of_decide_eq_true h1
      by_cases e2 : y = z
      · rw [if_neg (fun e => e1 (e.trans e2.symm)), ← e2]
        exact h1
      · rw [if_neg e2] at h2
        have h2' := of_decide_eq_true h2
        rw [if_neg (by omega)]
        exact decide_eq_true (by omega)
theorem Bx.bef_self (x : Bx) : x.bef x = false := lexB_self _
theorem Bx.bef_trans {x y z : Bx} (h1 : x.bef y = true) (h2 : y.bef z = true) : x.bef z = true := lexB_trans h1 h2

end Go.Proofs.Ytdmkaaehpcnpfaa.M
