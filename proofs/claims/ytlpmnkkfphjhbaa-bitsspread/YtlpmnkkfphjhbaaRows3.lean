/- Three slices of ints that a call has made, in blocks of their own: what an append to one of them leaves of the others. Plain facts on memory; no conditions on a program but that its type of ints is laid out as one cell of eight bytes. -/
import Derived.Test.YtlpmnkkfphjhbaaWithin
import Derived.Deep.AppendLies
namespace Go.Proofs.Ytlpmnkkfphjhbaa
open Go.RowKit M

def Own (B : Nat) (w : World) (u : Value) (xs : List Int) : Prop := w.ownsRow B 3 1 u xs.length (xs.map (Value.int .i64))
def Apart (u v : Value) : Prop := ∀ g, u.ownBlock = some g → v.ownBlock ≠ some g
theorem Apart.symm {u v : Value} (h : Apart u v) : Apart v u := fun g hv hu => h g hu hv
theorem Apart.kept {u v : Value} (h : Apart u v) : u.ownBlock = none ∨ u.ownBlock ≠ v.ownBlock := by
  cases hu : u.ownBlock with
  | none => exact .inl rfl
  | some g => exact .inr (fun e => h g hu e.symm)

structure Rows3 (B : Nat) (w : World) (u v z : Value) (xs ys zs : List Int) : Prop where
  base : B ≤ w.heap.size
  ou : Own B w u xs
  ov : Own B w v ys
  oz : Own B w z zs
  uv : Apart u v
  uz : Apart u z
  vz : Apart v z

theorem Rows3.alloc {B : Nat} {w : World} {u v z : Value} {xs ys zs : List Int} (h : Rows3 B w u v z xs ys zs) (o : Obj) : Rows3 B (w.alloc o) u v z xs ys zs :=
  ⟨Nat.le_trans h.base (by simp), World.ownsRow.alloc h.ou o, World.ownsRow.alloc h.ov o, World.ownsRow.alloc h.oz o, h.uv, h.uz, h.vz⟩
theorem Rows3.drew {B : Nat} {w : World} {u v z : Value} {xs ys zs : List Int} (h : Rows3 B w u v z xs ys zs) : Rows3 B w.drew u v z xs ys zs :=
  ⟨h.base, h.ou, h.ov, h.oz, h.uv, h.uz, h.vz⟩
theorem Rows3.drewN {B : Nat} {w : World} {u v z : Value} {xs ys zs : List Int} (h : Rows3 B w u v z xs ys zs) (n : Nat) : Rows3 B (w.drewN n) u v z xs ys zs :=
  ⟨h.base, h.ou, h.ov, h.oz, h.uv, h.uz, h.vz⟩
theorem Rows3.rot {B : Nat} {w : World} {u v z : Value} {xs ys zs : List Int} (h : Rows3 B w u v z xs ys zs) : Rows3 B w v z u ys zs xs :=
  ⟨h.base, h.ov, h.oz, h.ou, h.vz, h.uv.symm, h.uz.symm⟩
theorem Rows3.lt {B : Nat} {w : World} {u v z : Value} {xs ys zs : List Int} (h : Rows3 B w u v z xs ys zs) : ∀ g, u.ownBlock = some g → B ≤ g ∧ g < w.heap.size :=
  World.ownsRow.lt h.ou
theorem Rows3.nil (B : Nat) (w : World) (h : B ≤ w.heap.size) : Rows3 B w (.slice none 0 0) (.slice none 0 0) (.slice none 0 0) [] [] [] :=
  ⟨h, World.ownsRow_nil _ _ _ _, World.ownsRow_nil _ _ _ _, World.ownsRow_nil _ _ _ _, (fun _ e => by cases e), (fun _ e => by cases e), (fun _ e => by cases e)⟩

theorem infoInt : (Try.prog.info? 3).map (fun i => (i.zero, i.size, i.bytes)) = some (some (.int .i64 0), 1, 8) := by kernel_rfl

/-- ONE APPEND, at a step of a region that draws its order: the row grows; the other two, and every block that was there and is not the row's own, stay. -/
theorem step_app {ops : Array Oper} {o : Oper} {a : Act} {K : Act → World → Prop} {Q : Exit → Act → World → Prop} {E : Prop} {B : Nat} {w : World} {u v z : Value} {xs ys zs : List Int}
    (hgd : o.guard = none) (s x : Operand) (ho : o.op = .call { callee := .builtin .append, args := #[s, x], argTypes := #[33, 33] })
    (H : Rows3 B w u v z xs ys zs) (hs : a.eval s = u) (b c : Nat) (y : Int) (hx : a.eval x = .slice (some ⟨b, 0, none⟩) 1 c)
    (hb : w.heap[b]? = some (.cells #[.int .i64 y] 3 (0, 0))) (hlen : xs.length ≤ 1000)
    (h : ∀ u' w', Rows3 B w' u' v z (xs ++ [y]) ys zs → Below B w w' → (∀ k, k < w.heap.size → some k ≠ u.ownBlock → w'.heap[k]? = w.heap[k]?) → w.heap.size ≤ w'.heap.size → K (a.put o.dst u') w') :
    if Region.wanted o (yielded ops a.tmps) = true then Oper.wp Try.prog o a w K Q else E := by
  obtain ⟨i0, hi0, hz0, hz1, hz2⟩ := info_parts infoInt
  refine step_append_lies w hgd s x 33 ho B 3 i0 _ 1 8 Try.underlying33 hi0 hz0 hz1 hz2 rfl (by omega) u xs.length (xs.map (Value.int .i64)) hs H.ou ⟨b, 0, none⟩ 1 c [.int .i64 y] hx rfl
    (World.news_of_block (cs := #[.int .i64 y]) hb) (by simp [Value.oneCell']) (by omega) (by unfold maxLen; omega) (by omega) H.base w.heap.size rfl ?_
  intro g cap w1 hown hgrow hat hlt
  have hlen' : (xs ++ [y]).length = xs.length + 1 := by simp
  have hmap : (xs ++ [y]).map (Value.int .i64) = xs.map (Value.int .i64) ++ [.int .i64 y] := by simp
  have hnew : ∀ t : Value, Apart u t → (∀ k, t.ownBlock = some k → B ≤ k ∧ k < w.heap.size) → Apart (.slice (some ⟨g, 0, none⟩) (xs.length + 1) cap) t := by
    intro t hut ht g' hg' ht'
    have e : g = g' := by simpa [Value.ownBlock] using hg'
    subst e
    rcases hat with hat | hat
    · exact hut g hat ht'
    · have := (ht g ht').2; omega
  refine h _ w1 ⟨Nat.le_trans H.base hgrow.size, ?_, World.ownsRow.kept H.ov hgrow H.uv.symm.kept, World.ownsRow.kept H.oz hgrow H.uz.symm.kept, hnew v H.uv (World.ownsRow.lt H.ov), hnew z H.uz (World.ownsRow.lt H.oz), H.vz⟩ ?_ ?_ hgrow.size
  · unfold Own; rw [hlen', hmap]; exact hown
  · exact (Below.refl B w).grown hgrow H.base (fun k hk => (H.lt k hk).1)
  · exact fun k hk hne => hgrow.block k hk hne

end Go.Proofs.Ytlpmnkkfphjhbaa
