/- What a call answers, whatever the world: one word for a contract, so that a walk can choose among several by the arguments alone (the unifier does not open it). No conditions. -/
import Derived.Test.YtnjfbmnecfiliaaJunk
namespace Go.Proofs.Ytnjfbmnecfiliaa
open Go.RowKit

/-- the call answers v and leaves new blocks alone -/
def Ans (f : Nat) (args : Array Value) (v : Value) : Prop := ∀ w : World, Calls Try.prog f args w fun e w' => e = .returned v ∧ Jk w w'
theorem Ans.on {f : Nat} {args : Array Value} {v : Value} (h : Ans f args v) (w : World) : Calls Try.prog f args w fun e w' => e = .returned v ∧ Jk w w' := h w
theorem Ans.junk {f : Nat} {args : Array Value} {v : Value} {w : World} (h : Ans f args v) (X : Junk) : Calls Try.prog f args (junk w X) fun e w' => e = .returned v ∧ ∃ Y : Junk, w' = junk w Y := on_junk h X
/-- the call answers v and leaves the world as it was -/
def AnsP (f : Nat) (args : Array Value) (v : Value) : Prop := ∀ w : World, Calls Try.prog f args w fun e w' => e = .returned v ∧ w' = w
theorem AnsP.on {f : Nat} {args : Array Value} {v : Value} (h : AnsP f args v) (w : World) : Calls Try.prog f args w fun e w' => e = .returned v ∧ w' = w := h w
theorem AnsP.ans {f : Nat} {args : Array Value} {v : Value} (h : AnsP f args v) : Ans f args v := fun w => (h w).mono fun _ _ ⟨e, hw⟩ => ⟨e, hw ▸ Jk.refl _⟩

end Go.Proofs.Ytnjfbmnecfiliaa
