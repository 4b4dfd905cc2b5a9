/- A map of ints to bools of the call's own, as the set of its keys. -/
import Derived.Test.YtnjfbmnecfiliaaRefTree2
import Derived.Maps.OwnSet
namespace Go.Proofs.Ytnjfbmnecfiliaa
open Go.RowKit Go.Maps M

def I32 (z : Int) : Prop := -2147483648 ≤ z ∧ z ≤ 2147483647
def MapS (w : World) (b n : Nat) (K : List Int) : Prop := ∃ D : DataW Unit, w.ownsMap Try.prog 3 (plainElem Try.prog 4) b n D ∧ K.Nodup ∧ size D = K.length ∧ ∀ z : Int, I32 z → (has D (.int .i64 z) = true ↔ z ∈ K)
theorem MapS.made (w : World) : MapS (w.alloc (.map #[] 0)) w.heap.size 0 [] := ⟨.map [], World.ownsMap_made _ _ _ _, by simp, rfl, fun z _ => by simp [has]⟩
theorem MapS.lt {w : World} {b n : Nat} {K : List Int} (h : MapS w b n K) : b < w.heap.size := by
  obtain ⟨D, h1, _⟩ := h
  exact h1.lt
theorem MapS.more {w : World} {b n m : Nat} {K : List Int} (h : MapS w b n K) (hm : n ≤ m) : MapS w b m K := by
  obtain ⟨D, h1, h2⟩ := h
  exact ⟨D, h1.mono hm, h2⟩
theorem MapS.kept {w w' : World} {b n : Nat} {K : List Int} (h : MapS w b n K) {row : Option Nat} (hg : w.grownBy w' row) (hne : some b ≠ row) : MapS w' b n K := by
  obtain ⟨D, h1, h2⟩ := h
  exact ⟨D, h1.kept hg hne, h2⟩
theorem MapS.jk {w w' : World} {b n : Nat} {K : List Int} (h : MapS w b n K) (hj : Jk w w') : MapS w' b n K :=
  h.kept (row := none) ⟨hj.below.os, hj.below.tape, hj.below.output, hj.below.size, fun k hk _ => hj.below.block k hk⟩ (by simp)
theorem MapS.len {w : World} {b n : Nat} {K : List Int} (h : MapS w b n K) (ty : TypeId) : (Builtin.len_ #[52] ty #[.map (some b)]).run Try.prog w = .ok (.int .i64 (K.length : Int)) w := by
  obtain ⟨D, h1, _, h3, _⟩ := h
  rw [← h3]
  exact h1.len Try.underlying52 ty
def addI (K : List Int) (z : Int) : List Int := if z ∈ K then K else z :: K
theorem addI_mem {K : List Int} {z x : Int} : x ∈ addI K z ↔ x ∈ K ∨ x = z := by
  unfold addI
  split
  · constructor
    · exact .inl
    · rintro (h | rfl)
      · exact h
      · assumption
  · simp [or_comm]
theorem list_updS {ops : Array Oper} {rest : List Oper} {o : Oper} {act : Act} {Q : Exit → Act → World → Prop} {w : World} {b n : Nat} {K : List Int}
    (hg : o.guard = none) (m x v : Operand) (hop : o.op = Op.mapUpdate 52 m x v) (hM : MapS w b n K) (hn : n ≤ 1000) (hm : act.eval m = .map (some b)) (z : Int) (hz : I32 z) (hx : act.eval x = .int .i64 z) (y : Bool) (hv : act.eval v = .bool y)
    (h : ∀ w', MapS w' b (n + 1) (addI K z) → w.grownBy w' (some b) → wpList Try.prog ops Q rest (act.put o.dst undef) w') : wpList Try.prog ops Q (o :: rest) act w := by
  obtain ⟨D, h1, h2, h3, h4⟩ := hM
  have hk := keyOf_int_mk Try.underlying3 (wfI (a := z) (by have := hz.1; omega) (by have := hz.2; omega))
  refine wpList_mapUpdate_own w hg m x v 52 hop 3 4 lawI Try.underlying52 _ b n D hm h1 (by unfold maxLen; omega) _ _ (.int .i64 z) hx hv hk _ [] (plainElem_bool Try.underlying4 y) ?_
  intro w' h5 h6
  have ht := h1.tidy lawI
  refine h w' ⟨_, h5, ?_, ?_, fun r hr => ?_⟩ h6
  · unfold addI
    split
    · exact h2
    · exact List.nodup_cons.2 ⟨by assumption, h2⟩
  · rw [size_put ht]
    unfold addI
    by_cases e : z ∈ K
    · rw [if_pos ((h4 z hz).2 e), if_pos e, h3]
    · rw [if_neg (fun h => e ((h4 z hz).1 h)), if_neg e, h3]; rfl
  · rw [addI_mem]
    by_cases e : r = z
    · subst e
      exact ⟨fun _ => .inr rfl, fun _ => has_put_same ht.isMap (lawI.key hk) _⟩
    · rw [has_put_other (by intro h; injection h with _ h2; exact e h2), h4 r hr]
      exact ⟨.inl, fun h => h.resolve_right e⟩

end Go.Proofs.Ytnjfbmnecfiliaa
