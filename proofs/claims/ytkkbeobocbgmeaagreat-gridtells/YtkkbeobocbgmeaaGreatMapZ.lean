/- A map of ints to bools of the call's own: what it says, key by key.
   A map of ints to bools of the call's own, as the set of its keys, any ints; and the range over it: the keys that are still to come. -/
import Derived.Test.YtkkbeobocbgmeaaGreatRefTree2
import Derived.Test.YtkkbeobocbgmeaaGreatRowsT
import Derived.Maps.OwnSet
import Derived.Maps.RangeWalk
namespace Go.Proofs.YtkkbeobocbgmeaaGreat
open Go.RowKit Go.Maps M

def updB (f : Nat → Bool) (k : Nat) (x : Bool) : Nat → Bool := fun q => if q = k then x else f q
def MapB (w : World) (b n : Nat) (f : Nat → Bool) : Prop := ∃ D : DataW Unit, w.ownsMap Tryz.prog 3 (plainElem Tryz.prog 4) b n D ∧ ∀ q : Nat, q ≤ 1000 → D.atKey (.int .i64 (q : Int)) (.lit (.bool false)) = .lit (.bool (f q))
theorem MapB.made (w : World) : MapB (w.alloc (.map #[] 0)) w.heap.size 0 (fun _ => false) := ⟨.map [], World.ownsMap_made _ _ _ _, fun _ _ => rfl⟩
theorem MapB.lt {w : World} {b n : Nat} {f : Nat → Bool} (h : MapB w b n f) : b < w.heap.size := by
  obtain ⟨D, h1, _⟩ := h
  exact h1.lt
theorem MapB.more {w : World} {b n m : Nat} {f : Nat → Bool} (h : MapB w b n f) (hm : n ≤ m) : MapB w b m f := by
  obtain ⟨D, h1, h2⟩ := h
  exact ⟨D, h1.mono hm, h2⟩
theorem MapB.congr {w : World} {b n : Nat} {f g : Nat → Bool} (h : MapB w b n f) (e : ∀ q, q ≤ 1000 → f q = g q) : MapB w b n g := by
  obtain ⟨D, h1, h2⟩ := h
  exact ⟨D, h1, fun q hq => by rw [h2 q hq, e q hq]⟩
theorem MapB.kept {w w' : World} {b n : Nat} {f : Nat → Bool} (h : MapB w b n f) {row : Option Nat} (hg : w.grownBy w' row) (hne : some b ≠ row) : MapB w' b n f := by
  obtain ⟨D, h1, h2⟩ := h
  exact ⟨D, h1.kept hg hne, h2⟩
theorem MapB.jk {w w' : World} {b n : Nat} {f : Nat → Bool} (h : MapB w b n f) (hj : Jk w w') : MapB w' b n f :=
  h.kept (row := none) ⟨hj.below.os, hj.below.tape, hj.below.output, hj.below.size, fun k hk _ => hj.below.block k hk⟩ (by simp)
theorem zeroB (w : World) : (zeroValue 4).run Tryz.prog w = .ok (.bool false) w := by kernel_rfl
set_option maxRecDepth 100000 in
theorem plainElem_bool_inv {v : Value} {z : DataW Unit × List MemPlace} (h : plainElem Tryz.prog 4 v = some z) : ∃ x, v = .bool x ∧ z = (.lit (.bool x), []) := by
  unfold plainElem at h
  rw [Tryz.underlying4] at h
  split at h <;> simp_all
theorem list_lookB {ops : Array Oper} {rest : List Oper} {o : Oper} {act : Act} {Q : Exit → Act → World → Prop} {w : World} {b n : Nat} {f : Nat → Bool}
    (hg : o.guard = none) (m x : Operand) (hop : o.op = Op.lookup 74 m x false) (hM : MapB w b n f) (hm : act.eval m = .map (some b)) (q : Nat) (hq : q ≤ 1000) (hx : act.eval x = .int .i64 (q : Int)) (r : Bool) (hr : f q = r)
    (h : wpList Tryz.prog ops Q rest (act.put o.dst (.bool r)) w) : wpList Tryz.prog ops Q (o :: rest) act w := by
  subst hr
  obtain ⟨D, h1, h2⟩ := hM
  refine wpList_plain hg fun K' hK' => ?_
  obtain ⟨v, ps, hrun, hv⟩ := h1.lookup lawI Tryz.underlying74 (zeroB w) (plainElem_bool Tryz.underlying4 false) (keyOf_int_mk Tryz.underlying3 (wfI (a := (q : Int)) (by omega) (by omega)))
  obtain ⟨y, rfl, hy⟩ := plainElem_bool_inv hv
  simp only [Prod.mk.injEq] at hy
  rw [h2 q hq] at hy
  have : y = f q := by
    have := hy.1
    simp at this
    exact this.symm
  subst this
  unfold Oper.wp
  simp [execOp, hop, hm, hx, hrun, Result.andThen]
  exact hK' _ _ h
theorem list_updB {ops : Array Oper} {rest : List Oper} {o : Oper} {act : Act} {Q : Exit → Act → World → Prop} {w : World} {b n : Nat} {f : Nat → Bool}
    (hg : o.guard = none) (m x v : Operand) (hop : o.op = Op.mapUpdate 74 m x v) (hM : MapB w b n f) (hn : n ≤ 1000) (hm : act.eval m = .map (some b)) (q : Nat) (hq : q ≤ 1000) (hx : act.eval x = .int .i64 (q : Int)) (y : Bool) (hv : act.eval v = .bool y)
    (h : ∀ w', MapB w' b (n + 1) (updB f q y) → w.grownBy w' (some b) → wpList Tryz.prog ops Q rest (act.put o.dst undef) w') : wpList Tryz.prog ops Q (o :: rest) act w := by
  obtain ⟨D, h1, h2⟩ := hM
  refine wpList_mapUpdate_own w hg m x v 74 hop 3 4 lawI Tryz.underlying74 _ b n D hm h1 (by unfold maxLen; omega) _ _ (.int .i64 (q : Int)) hx hv (keyOf_int_mk Tryz.underlying3 (wfI (by omega) (by omega))) _ [] (plainElem_bool Tryz.underlying4 y) ?_
  intro w' h3 h4
  refine h w' ⟨_, h3, fun r hr => ?_⟩ h4
  unfold updB
  by_cases e : r = q
  · subst e
    rw [if_pos rfl]
    exact atKey_put_same (h1.tidy lawI).isMap (lawI.key (keyOf_int_mk Tryz.underlying3 (wfI (by omega) (by omega)))) _ _
  · rw [if_neg e, atKey_put_other (by intro h; injection h with _ h2; exact e (by omega))]
    exact h2 r hr

end Go.Proofs.YtkkbeobocbgmeaaGreat

namespace Go.Proofs.YtkkbeobocbgmeaaGreat
open Go.RowKit Go.Maps M

def I64b (z : Int) : Prop := -9223372036854775808 ≤ z ∧ z ≤ 9223372036854775807
theorem I64b.wf {z : Int} (h : I64b z) : (Lit.int .i64 z).wf = true := wfI h.1 h.2
def MapZ (w : World) (b n : Nat) (K : List Int) : Prop := ∃ D : DataW Unit, w.ownsMap Tryz.prog 3 (plainElem Tryz.prog 4) b n D ∧ K.Nodup ∧ size D = K.length ∧ ∀ z : Int, I64b z → (has D (.int .i64 z) = true ↔ z ∈ K)
theorem MapZ.made (w : World) : MapZ (w.alloc (.map #[] 0)) w.heap.size 0 [] := ⟨.map [], World.ownsMap_made _ _ _ _, by simp, rfl, fun z _ => by simp [has]⟩
theorem MapZ.lt {w : World} {b n : Nat} {K : List Int} (h : MapZ w b n K) : b < w.heap.size := by
  obtain ⟨D, h1, _⟩ := h
  exact h1.lt
theorem MapZ.nodup {w : World} {b n : Nat} {K : List Int} (h : MapZ w b n K) : K.Nodup := by
  obtain ⟨D, _, h2, _⟩ := h
  exact h2
theorem MapZ.kept {w w' : World} {b n : Nat} {K : List Int} (h : MapZ w b n K) {row : Option Nat} (hg : w.grownBy w' row) (hne : some b ≠ row) : MapZ w' b n K := by
  obtain ⟨D, h1, h2⟩ := h
  exact ⟨D, h1.kept hg hne, h2⟩
theorem MapZ.jk {w w' : World} {b n : Nat} {K : List Int} (h : MapZ w b n K) (hj : Jk w w') : MapZ w' b n K :=
  h.kept (row := none) ⟨hj.below.os, hj.below.tape, hj.below.output, hj.below.size, fun k hk _ => hj.below.block k hk⟩ (by simp)
def addZ (K : List Int) (z : Int) : List Int := if z ∈ K then K else z :: K
theorem addZ_mem {K : List Int} {z x : Int} : x ∈ addZ K z ↔ x ∈ K ∨ x = z := by
  unfold addZ
  split
  · constructor
    · exact .inl
    · rintro (h | rfl)
      · exact h
      · assumption
  · simp [or_comm]
theorem addZ_len (K : List Int) (z : Int) : (addZ K z).length ≤ K.length + 1 := by
  unfold addZ
  split <;> simp
theorem list_updZ {ops : Array Oper} {rest : List Oper} {o : Oper} {act : Act} {Q : Exit → Act → World → Prop} {w : World} {b n : Nat} {K : List Int}
    (hg : o.guard = none) (m x v : Operand) (hop : o.op = Op.mapUpdate 74 m x v) (hM : MapZ w b n K) (hn : n ≤ 1000) (hm : act.eval m = .map (some b)) (z : Int) (hz : I64b z) (hx : act.eval x = .int .i64 z) (y : Bool) (hv : act.eval v = .bool y)
    (h : ∀ w', MapZ w' b (n + 1) (addZ K z) → w.grownBy w' (some b) → wpList Tryz.prog ops Q rest (act.put o.dst undef) w') : wpList Tryz.prog ops Q (o :: rest) act w := by
  obtain ⟨D, h1, h2, h3, h4⟩ := hM
  have hk := keyOf_int_mk Tryz.underlying3 hz.wf
  refine wpList_mapUpdate_own w hg m x v 74 hop 3 4 lawI Tryz.underlying74 _ b n D hm h1 (by unfold maxLen; omega) _ _ (.int .i64 z) hx hv hk _ [] (plainElem_bool Tryz.underlying4 y) ?_
  intro w' h5 h6
  have ht := h1.tidy lawI
  refine h w' ⟨_, h5, ?_, ?_, fun r hr => ?_⟩ h6
  · unfold addZ
    split
    · exact h2
    · exact List.nodup_cons.2 ⟨by assumption, h2⟩
  · rw [size_put ht]
    unfold addZ
    by_cases e : z ∈ K
    · rw [if_pos ((h4 z hz).2 e), if_pos e, h3]
    · rw [if_neg (fun h => e ((h4 z hz).1 h)), if_neg e, h3]; rfl
  · rw [addZ_mem]
    by_cases e : r = z
    · subst e
      exact ⟨fun _ => .inr rfl, fun _ => has_put_same ht.isMap (lawI.key hk) _⟩
    · rw [has_put_other (by intro h; injection h with _ h2; exact e h2), h4 r hr]
      exact ⟨.inl, fun h => h.resolve_right e⟩

/-- the range over such a map: the keys R are still to come, cnt at most -/
def RngZ (w : World) (b r : Nat) (R : List Int) (cnt : Nat) : Prop := ∃ (D : DataW Unit) (left : Lit → Bool) (n : Nat), w.ranges Tryz.prog 3 (plainElem Tryz.prog 4) b r n D left cnt ∧ R.Nodup ∧ ∀ z : Int, I64b z → (left (.int .i64 z) = true ↔ z ∈ R)
theorem RngZ.kept {w w' : World} {b r cnt : Nat} {R : List Int} (h : RngZ w b r R cnt) {row : Option Nat} (hg : w.grownBy w' row) (hb : some b ≠ row) (hr : some r ≠ row) : RngZ w' b r R cnt := by
  obtain ⟨D, left, n, h1, h2⟩ := h
  exact ⟨D, left, n, h1.kept hg hb hr, h2⟩
theorem RngZ.jk {w w' : World} {b r cnt : Nat} {R : List Int} (h : RngZ w b r R cnt) (hj : Jk w w') : RngZ w' b r R cnt :=
  h.kept (row := none) ⟨hj.below.os, hj.below.tape, hj.below.output, hj.below.size, fun k hk _ => hj.below.block k hk⟩ (by simp) (by simp)
theorem RngZ.lt {w : World} {b r cnt : Nat} {R : List Int} (h : RngZ w b r R cnt) : r < w.heap.size := by
  obtain ⟨D, left, n, h1, h2⟩ := h
  exact h1.lt
theorem list_rangeZ {ops : Array Oper} {rest : List Oper} {o : Oper} {act : Act} {Q : Exit → Act → World → Prop} {w : World} {b n : Nat} {K : List Int}
    (hg : o.guard = none) (m : Operand) (hop : o.op = Op.range 74 m) (hM : MapZ w b n K) (hm : act.eval m = .map (some b))
    (h : ∀ w', RngZ w' b w.heap.size K K.length → w.grownBy w' none → w'.heap.size = w.heap.size + 1 → wpList Tryz.prog ops Q rest (act.put o.dst (.pointer (some ⟨w.heap.size, 0, none⟩))) w') : wpList Tryz.prog ops Q (o :: rest) act w := by
  obtain ⟨D, h1, h2, h3, h4⟩ := hM
  refine wpList_range_own w hg m 74 hop 3 4 lawI Tryz.underlying74 _ b n D hm h1 fun w' h5 h6 h7 => ?_
  rw [h3] at h5
  exact h w' ⟨D, _, n, h5, h2, h4⟩ h6 h7
theorem same_int (z x : Int) : Lit.sameKey (.int .i64 z) (.int .i64 x) = decide (z = x) := by
  by_cases h : z = x
  · subst h; simp [Lit.sameKey]
  · simp [Lit.sameKey, h]
theorem list_nextZ {ops : Array Oper} {rest : List Oper} {o : Oper} {act : Act} {Q : Exit → Act → World → Prop} {w : World} {b r cnt : Nat} {R : List Int}
    (hg : o.guard = none) (it : Operand) (hop : o.op = Op.next it false) (H : RngZ w b r R cnt) (hit : act.eval it = .pointer (some ⟨r, 0, none⟩))
    (hDone : (∀ z, I64b z → z ∉ R) → wpList Tryz.prog ops Q rest (act.put o.dst (.tuple #[.bool false])) w)
    (hMore : ∀ (x : Int) (c : Value) (w' : World) (cnt' : Nat), I64b x → x ∈ R → RngZ w' b r (R.erase x) cnt' → cnt' < cnt → w.grownBy w' (some r) → w'.heap.size = w.heap.size →
      (Instr.entry (.pointer (some ⟨r, 0, none⟩))).run Tryz.prog w' = .ok (.tuple #[.int .i64 x, c]) w' → wpList Tryz.prog ops Q rest (act.put o.dst (.tuple #[.bool true, .int .i64 x, c])) w') : wpList Tryz.prog ops Q (o :: rest) act w := by
  obtain ⟨D, left, n, h1, h2, h3⟩ := H
  refine wpList_next_ranges w hg it hop 3 lawI _ (Value.int .i64) Value.bool (fun key kl hkey => by obtain ⟨x, rfl, _⟩ := Maps.keyOf_int_inv Tryz.underlying3 hkey; exact ⟨x, rfl⟩) (fun v y hv => by obtain ⟨c, rfl, _⟩ := plainElem_bool_inv hv; exact ⟨c, rfl⟩) b r n D left cnt hit h1 (fun _ hl => hDone fun z hz hm => by have := (h3 z hz).2 hm; rw [hl] at this; cases this) ?_
  intro x c kl y w' cnt' hkey hlk hv hat hrg hlt hgr hsz hen
  obtain ⟨x', ex, rfl, hwx⟩ := Maps.keyOf_int_inv Tryz.underlying3 hkey
  cases ex
  have hx : I64b x := by
    have h1 : IntKind.i64.min = -9223372036854775808 := by decide
    have h2 : IntKind.i64.max = 9223372036854775807 := by decide
    simp [Lit.wf, h1, h2] at hwx
    exact ⟨by omega, by omega⟩
  refine hMore x (.bool c) w' cnt' hx ((h3 x hx).1 hlk) ⟨D, _, n, hrg, h2.erase x, fun z hz => ?_⟩ hlt hgr hsz hen
  rw [h2.mem_erase_iff, Bool.and_eq_true, h3 z hz, same_int]
  simp [and_comm]

end Go.Proofs.YtkkbeobocbgmeaaGreat
