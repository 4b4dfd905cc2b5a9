/- A map of ints to bools of the call's own: what it says, key by key. -/
import Derived.Test.YtdhmibjokacfpaaRefTree2
namespace Go.Proofs.Ytdhmibjokacfpaa
open Go.RowKit Go.Maps M

def updB (f : Nat → Bool) (k : Nat) (x : Bool) : Nat → Bool := fun q => if q = k then x else f q
def MapB (w : World) (b n : Nat) (f : Nat → Bool) : Prop := ∃ D : DataW Unit, w.ownsMap Try.prog 3 (plainElem Try.prog 4) b n D ∧ ∀ q : Nat, q ≤ 1000 → D.atKey (.int .i64 (q : Int)) (.lit (.bool false)) = .lit (.bool (f q))
theorem MapB.made (w : World) : MapB (w.alloc (.map #[] 0)) w.heap.size 0 (fun _ => false) := ⟨.map [], World.ownsMap_made _ _ _ _, fun _ _ => rfl⟩
theorem MapB.lt {w : World} {b n : Nat} {f : Nat → Bool} (h : MapB w b n f) : b < w.heap.size := by
  obtain ⟨D, h1, _⟩ := h
  exact h1.lt
theorem MapB.more {w : World} {b n m : Nat} {f : Nat → Bool} (h : MapB w b n f) (hm : n ≤ m) : MapB w b m f := by
  obtain ⟨D, h1, h2⟩ := h
  exact ⟨D, h1.mono hm, h2⟩
theorem MapB.congr {w : World} {b n : Nat} {f g : Nat → Bool} (h : MapB w b n f) (e : ∀ q, q ≤ 1000 → f q = g q) : MapB w b n g := by
  obtain ⟨D, h1, h2⟩ := h
  exact ⟨D, h1, fun q hq => by rw [h2 q hq, e q hq]⟩
theorem MapB.kept {w w' : World} {b n : Nat} {f : Nat → Bool} (h : MapB w b n f) {row : Option Nat} (hg : w.grownBy w' row) (hne : some b ≠ row) : MapB w' b n f := by
  obtain ⟨D, h1, h2⟩ := h
  exact ⟨D, h1.kept hg hne, h2⟩
theorem MapB.jk {w w' : World} {b n : Nat} {f : Nat → Bool} (h : MapB w b n f) (hj : Jk w w') : MapB w' b n f :=
  h.kept (row := none) ⟨hj.below.os, hj.below.tape, hj.below.output, hj.below.size, fun k hk _ => hj.below.block k hk⟩ (by simp)
theorem zeroB (w : World) : (zeroValue 4).run Try.prog w = .ok (.bool false) w := by kernel_rfl
theorem plainElem_bool_inv {v : Value} {z : DataW Unit × List MemPlace} (h : plainElem Try.prog 4 v = some z) : ∃ x, v = .bool x ∧ z = (.lit (.bool x), []) := by
  unfold plainElem at h
  rw [Try.underlying4] at h
  split at h <;> simp_all
theorem list_lookB {ops : Array Oper} {rest : List Oper} {o : Oper} {act : Act} {Q : Exit → Act → World → Prop} {w : World} {b n : Nat} {f : Nat → Bool}
    (hg : o.guard = none) (m x : Operand) (hop : o.op = Op.lookup 44 m x false) (hM : MapB w b n f) (hm : act.eval m = .map (some b)) (q : Nat) (hq : q ≤ 1000) (hx : act.eval x = .int .i64 (q : Int)) (r : Bool) (hr : f q = r)
    (h : wpList Try.prog ops Q rest (act.put o.dst (.bool r)) w) : wpList Try.prog ops Q (o :: rest) act w := by
  subst hr
  obtain ⟨D, h1, h2⟩ := hM
  refine wpList_plain hg fun K' hK' => ?_
  obtain ⟨v, ps, hrun, hv⟩ := h1.lookup lawI Try.underlying44 (zeroB w) (plainElem_bool Try.underlying4 false) (keyOf_int_mk Try.underlying3 (wfI (a := (q : Int)) (by omega) (by omega)))
  obtain ⟨y, rfl, hy⟩ := plainElem_bool_inv hv
  simp only [Prod.mk.injEq] at hy
  rw [h2 q hq] at hy
  have : y = f q := by
    have := hy.1
    simp at this
    exact this.symm
  subst this
  unfold Oper.wp
  simp [execOp, hop, hm, hx, hrun, Result.andThen]
  exact hK' _ _ h
theorem list_updB {ops : Array Oper} {rest : List Oper} {o : Oper} {act : Act} {Q : Exit → Act → World → Prop} {w : World} {b n : Nat} {f : Nat → Bool}
    (hg : o.guard = none) (m x v : Operand) (hop : o.op = Op.mapUpdate 44 m x v) (hM : MapB w b n f) (hn : n ≤ 1000) (hm : act.eval m = .map (some b)) (q : Nat) (hq : q ≤ 1000) (hx : act.eval x = .int .i64 (q : Int)) (y : Bool) (hv : act.eval v = .bool y)
    (h : ∀ w', MapB w' b (n + 1) (updB f q y) → w.grownBy w' (some b) → wpList Try.prog ops Q rest (act.put o.dst undef) w') : wpList Try.prog ops Q (o :: rest) act w := by
  obtain ⟨D, h1, h2⟩ := hM
  refine wpList_mapUpdate_own w hg m x v 44 hop 3 4 lawI Try.underlying44 _ b n D hm h1 (by unfold maxLen; omega) _ _ (.int .i64 (q : Int)) hx hv (keyOf_int_mk Try.underlying3 (wfI (by omega) (by omega))) _ [] (plainElem_bool Try.underlying4 y) ?_
  intro w' h3 h4
  refine h w' ⟨_, h3, fun r hr => ?_⟩ h4
  unfold updB
  by_cases e : r = q
  · subst e
    rw [if_pos rfl]
    exact atKey_put_same (h1.tidy lawI).isMap (lawI.key (keyOf_int_mk Try.underlying3 (wfI (by omega) (by omega)))) _ _
  · rw [if_neg e, atKey_put_other (by intro h; injection h with _ h2; exact e (by omega))]
    exact h2 r hr

end Go.Proofs.Ytdhmibjokacfpaa
