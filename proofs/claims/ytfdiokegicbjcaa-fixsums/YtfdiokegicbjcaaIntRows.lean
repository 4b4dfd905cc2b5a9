/- Rows of ints in memory: what a slice reads as; what 'append' onto a row of the call's own leaves, whatever comes behind it (nothing, too). Plain facts on memory; no conditions on a program but that its type of ints is laid out as one cell of eight bytes. -/
import Derived.Test.YtfdiokegicbjcaaFix
import Derived.Deep.AppendLies
import Derived.Deep.AppendSrc
import Derived.Deep.RegionLaw
import Derived.Below
namespace Go.Proofs.Ytfdiokegicbjcaa
open Go.RowKit M

/-- from place 'off' of block g on, the numbers zs -/
def At (w : World) (g off : Nat) (zs : List Int) : Prop := ∀ i, i < zs.length → w.cell? ⟨g, off + i, none⟩ = some (.int .i64 (nth zs i))

theorem At.below {B : Nat} {w w' : World} {g off : Nat} {zs : List Int} (h : At w g off zs) (hb : Below B w w') (hg : g < B) : At w' g off zs :=
  fun i hi => (hb.cell (p := ⟨g, off + i, none⟩) hg).trans (h i hi)
theorem At.drewN {w : World} {g off : Nat} {zs : List Int} (h : At w g off zs) (n : Nat) : At (w.drewN n) g off zs := h
theorem nth_append_left (xs ys : List Int) (i : Nat) (h : i < xs.length) : nth (xs ++ ys) i = nth xs i := by
  simp [nth, List.getElem?_append_left h]
theorem nth_append_right (xs ys : List Int) (i : Nat) (h : xs.length ≤ i) : nth (xs ++ ys) i = nth ys (i - xs.length) := by
  simp [nth, List.getElem?_append_right h]
theorem nth_take (xs : List Int) (k i : Nat) (h : i < k) : nth (xs.take k) i = nth xs i := by
  simp [nth, h]
theorem nth_drop (xs : List Int) (k i : Nat) : nth (xs.drop k) i = nth xs (k + i) := by
  simp [nth]
theorem nth_replicate (n : Nat) (x : Int) (i : Nat) (h : i < n) : nth (List.replicate n x) i = x := by
  simp [nth, h]
theorem At.left {w : World} {g off : Nat} {xs ys : List Int} (h : At w g off (xs ++ ys)) : At w g off xs := fun i hi => by
  have := h i (by simp; omega)
  rwa [nth_append_left _ _ _ hi] at this
theorem At.take {w : World} {g off : Nat} {xs : List Int} (h : At w g off xs) (k : Nat) : At w g off (xs.take k) := fun i hi => by
  simp at hi
  rw [nth_take _ _ _ (by omega)]
  exact h i (by omega)
theorem At.drop {w : World} {g off : Nat} {xs : List Int} (h : At w g off xs) (k : Nat) : At w g (off + k) (xs.drop k) := fun i hi => by
  simp at hi
  rw [nth_drop, Nat.add_assoc]
  exact h (k + i) (by omega)

/-- a row of the call's own: block g from B on -/
def OwnR (B : Nat) (w : World) (g cap : Nat) (xs : List Int) : Prop := w.ownsRow B 3 1 (.slice (some ⟨g, 0, none⟩) xs.length cap) xs.length (xs.map (Value.int .i64))

theorem infoInt : (Try.prog.info? 3).map (fun i => (i.zero, i.size, i.bytes)) = some (some (.int .i64 0), 1, 8) := by kernel_rfl

theorem OwnR.empty (B : Nat) (w : World) (hB : B ≤ w.heap.size) : OwnR B (w.alloc (.cells #[] 3)) w.heap.size 0 [] :=
  ⟨rfl, .inr ⟨w.heap.size, 0, #[], rfl, hB, heap_alloc_new w _, Nat.le_refl _, by unfold maxLen; omega, rfl, rfl⟩⟩
theorem OwnR.lt {B : Nat} {w : World} {g cap : Nat} {xs : List Int} (h : OwnR B w g cap xs) : B ≤ g ∧ g < w.heap.size := World.ownsRow.lt h g rfl
theorem OwnR.drew {B : Nat} {w : World} {g cap : Nat} {xs : List Int} (h : OwnR B w g cap xs) : OwnR B w.drew g cap xs := h
theorem OwnR.alloc {B : Nat} {w : World} {g cap : Nat} {xs : List Int} (h : OwnR B w g cap xs) (o : Obj) : OwnR B (w.alloc o) g cap xs := World.ownsRow.alloc h o
theorem OwnR.cap {B : Nat} {w : World} {g cap : Nat} {xs : List Int} (h : OwnR B w g cap xs) : xs.length ≤ cap ∧ cap ≤ maxLen := by
  rcases h.2 with ⟨e, _⟩ | ⟨g', c', cur, e, _, _, h1, h2, _⟩
  · cases e
  · simp only [Value.slice.injEq] at e
    obtain ⟨_, _, rfl⟩ := e
    exact ⟨h1, h2⟩
theorem OwnR.at {B : Nat} {w : World} {g cap : Nat} {xs : List Int} (h : OwnR B w g cap xs) : At w g 0 xs := fun i hi => by
  have := World.ownsRow.cells h (g := g) rfl i (.int .i64 (nth xs i)) (by simp [nth, hi])
  have hadd : (⟨g, 0, none⟩ : Addr).add i = ⟨g, 0 + i, none⟩ := by unfold Addr.add; split <;> simp_all
  rwa [hadd] at this

/-- what an append's second argument holds -/
def Behind (w : World) (a : Option Addr) (ys : List Int) : Prop := 0 < ys.length → ∃ b o, a = some ⟨b, o, none⟩ ∧ At w b o ys

theorem news_at {w : World} {b o : Nat} {ys : List Int} (h : At w b o ys) : ∀ j u, (ys.map (Value.int .i64))[j]? = some u → w.cell? ((⟨b, o, none⟩ : Addr).add j) = some u := by
  intro j u hu
  have hadd : (⟨b, o, none⟩ : Addr).add j = ⟨b, o + j, none⟩ := by unfold Addr.add; split <;> simp_all
  rw [hadd]
  by_cases hj : j < ys.length
  · rw [h j hj]
    simp [hj] at hu
    simp [nth, hj, hu]
  · simp at hu
    obtain ⟨a, ha, _⟩ := hu
    rw [List.getElem?_eq_none (by omega)] at ha
    cases ha

theorem run_app {B : Nat} {w : World} {g cap : Nat} {xs ys : List Int} (ty : TypeId) (hown : OwnR B w g cap xs) (hB : B ≤ w.heap.size) (a : Option Addr) (c : Nat) (hx : Behind w a ys) (hl : xs.length + ys.length ≤ 1000000) :
    ∃ g' cap' w', (Builtin.append_ #[26, 26] ty #[.slice (some ⟨g, 0, none⟩) xs.length cap, .slice a ys.length c]).run Try.prog w = .ok (.slice (some ⟨g', 0, none⟩) (xs ++ ys).length cap') w' ∧
      OwnR B w' g' cap' (xs ++ ys) ∧ w.grownBy w' (some g) ∧ (g' = g ∨ g' = w.heap.size) := by
  obtain ⟨i0, hi0, hz0, hz1, hz2⟩ := info_parts infoInt
  by_cases hp : 0 < ys.length
  · obtain ⟨b, o, rfl, hat⟩ := hx hp
    obtain ⟨g', cap', w', hr, h2, h3, h4, _⟩ := run_append_lies (P := Try.prog) w 26 ty B 3 i0 _ 1 8 Try.underlying26 hi0 hz0 hz1 hz2 rfl (by omega) _ xs.length (xs.map (Value.int .i64)) hown ⟨b, o, none⟩ ys.length c (ys.map (Value.int .i64)) (by simp)
      (news_at hat) (ints_oneCell _ _) hp (by unfold maxLen; omega) (by omega) hB w.heap.size rfl
    refine ⟨g', cap', w', ?_, ?_, h3, ?_⟩
    · rw [List.length_append]; exact hr
    · unfold OwnR
      rw [List.length_append, List.map_append]
      exact h2
    · rcases h4 with h4 | h4
      · left; simpa [Value.ownBlock] using h4.symm
      · exact .inr h4
  · obtain rfl : ys = [] := List.eq_nil_of_length_eq_zero (by omega)
    refine ⟨g, cap, w, ?_, by rw [List.append_nil]; exact hown, World.grownBy.refl _ _, .inl rfl⟩
    have hc := hown.cap
    have hsrc : Src Try.prog i0.size 26 (.slice a 0 c) 0 [] w := by
      cases a with
      | none => exact Src.ofNil w Try.underlying26 c
      | some ad => exact Src.ofSlice w Try.underlying26 ad 0 c [] (by simp) (by simp) (by simp)
    have h := run_append_room_src (P := Try.prog) w 26 26 ty 3 i0 Try.underlying26 hi0 g 0 xs.length cap (.slice a 0 c) 0 [] hsrc (by omega) (by simp) (by simp)
    simpa [World.setCells] using h

/-- ONE APPEND, in a plain region -/
theorem list_app {ops : Array Oper} {rest : List Oper} {o : Oper} {act : Act} {Q : Exit → Act → World → Prop} {B : Nat} {w : World} {g cap : Nat} {xs ys : List Int}
    (hgd : o.guard = none) (s x : Operand) (ho : o.op = .call { callee := .builtin .append, args := #[s, x], argTypes := #[26, 26] })
    (hown : OwnR B w g cap xs) (hB : B ≤ w.heap.size) (hs : act.eval s = .slice (some ⟨g, 0, none⟩) xs.length cap) (a : Option Addr) (n c : Nat) (hn : n = ys.length) (hxv : act.eval x = .slice a n c) (hx : Behind w a ys) (hl : xs.length + ys.length ≤ 1000000)
    (h : ∀ g' cap' w', OwnR B w' g' cap' (xs ++ ys) → w.grownBy w' (some g) → (g' = g ∨ g' = w.heap.size) → wpList Try.prog ops Q rest (act.put o.dst (.slice (some ⟨g', 0, none⟩) (xs ++ ys).length cap')) w') :
    wpList Try.prog ops Q (o :: rest) act w := by
  subst hn
  refine wpList_plain hgd fun K hK => ?_
  obtain ⟨g', cap', w', hr, h2, h3, h4⟩ := run_app (ys := ys) o.type hown hB a c hx hl
  unfold Oper.wp execOp
  simp only [ho, resolve, invoke, builtin, Sem.run_bind, Sem.run_pure, Result.andThen_ok, List.map_toArray, List.map_cons, List.map_nil, hs, hxv, hr]
  exact hK _ _ (h g' cap' w' h2 h3 h4)

/-- ONE APPEND, at a step of a region that draws its order -/
theorem step_app {ops : Array Oper} {o : Oper} {act : Act} {K : Act → World → Prop} {Q : Exit → Act → World → Prop} {E : Prop} {B : Nat} {w : World} {g cap : Nat} {xs ys : List Int}
    (hgd : o.guard = none) (s x : Operand) (ho : o.op = .call { callee := .builtin .append, args := #[s, x], argTypes := #[26, 26] })
    (hown : OwnR B w g cap xs) (hB : B ≤ w.heap.size) (hs : act.eval s = .slice (some ⟨g, 0, none⟩) xs.length cap) (a : Option Addr) (n c : Nat) (hn : n = ys.length) (hxv : act.eval x = .slice a n c) (hx : Behind w a ys) (hl : xs.length + ys.length ≤ 1000000)
    (h : ∀ g' cap' w', OwnR B w' g' cap' (xs ++ ys) → w.grownBy w' (some g) → (g' = g ∨ g' = w.heap.size) → K (act.put o.dst (.slice (some ⟨g', 0, none⟩) (xs ++ ys).length cap')) w') :
    if Region.wanted o (yielded ops act.tmps) = true then Oper.wp Try.prog o act w K Q else E := by
  subst hn
  have hw : Region.wanted o (yielded ops act.tmps) = true := by simp [Region.wanted, hgd]
  rw [if_pos hw]
  obtain ⟨g', cap', w', hr, h2, h3, h4⟩ := run_app (ys := ys) o.type hown hB a c hx hl
  unfold Oper.wp execOp
  simp only [ho, resolve, invoke, builtin, Sem.run_bind, Sem.run_pure, Result.andThen_ok, List.map_toArray, List.map_cons, List.map_nil, hs, hxv, hr]
  exact h g' cap' w' h2 h3 h4

end Go.Proofs.Ytfdiokegicbjcaa
