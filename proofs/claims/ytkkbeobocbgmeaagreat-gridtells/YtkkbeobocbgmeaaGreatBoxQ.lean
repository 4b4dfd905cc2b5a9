/- Boxes in blocks of their own, loaded and stored whole. -/
import Derived.Test.YtkkbeobocbgmeaaGreatQueryB
namespace Go.Proofs.YtkkbeobocbgmeaaGreat
open Go.RowKit M

theorem infoX : (Tryz.prog.info? 36).map (·.size) = some 10 := by kernel_rfl
theorem load_X {w : World} {h : Nat} {q : Bx} (H : BxB w h q) : (loadVar 36 ⟨h, 0, none⟩).run Tryz.prog w = .ok (boxW q) w := run_loadVar_row w h _ _ _ _ _ H Tryz.underlying36 rfl (by kernel_rfl)
theorem loadX_at {w : World} {h : Nat} {q : Qy} (H : QyB w h q) : (loadVar 36 ⟨h, 2, none⟩).run Tryz.prog w = .ok (boxW q.rg) w := by
  refine run_loadVar_mid w h 2 _ [.int .i64 q.rg.a.lo, .int .i64 q.rg.a.hi, .int .i64 q.rg.b.lo, .int .i64 q.rg.b.hi, .int .i64 q.rg.c.lo, .int .i64 q.rg.c.hi, .int .i64 q.rg.d.lo, .int .i64 q.rg.d.hi, .int .i64 q.rg.e.lo, .int .i64 q.rg.e.hi] _ ?_ Tryz.underlying36 rfl (by kernel_rfl)
  have := World.rangeAt_of_block H 2 10
  exact this
theorem list_loadX {ops : Array Oper} {rest : List Oper} {o : Oper} {act : Act} {Q : Exit → Act → World → Prop} {w : World} (hgd : o.guard = none) (x : Operand) (ho : o.op = .load 36 x) {h : Nat} {q : Bx} (H : BxB w h q) (hx : act.eval x = .pointer (some ⟨h, 0, none⟩))
    (hK : wpList Tryz.prog ops Q rest (act.put o.dst (boxW q)) w) : wpList Tryz.prog ops Q (o :: rest) act w :=
  wpList_plain hgd fun _ hK' => wp_load_row 36 x ho h hx _ _ _ _ H Tryz.underlying36 rfl (by kernel_rfl) (hK' _ _ hK)
theorem wp_storeX {op : Oper} {a : Act} {w : World} {K : Act → World → Prop} {Q : Exit → Act → World → Prop} (x y : Operand) (ho : op.op = .store 36 x y) {h : Nat} {q0 : Bx} (H : BxB w h q0) (hx : a.eval x = .pointer (some ⟨h, 0, none⟩)) (q : Bx) (hy : a.eval y = boxW q)
    (hK : ∀ w', BxB w' h q → w.grownBy w' (some h) → K (a.put op.dst undef) w') : op.wp Tryz.prog a w K Q := by
  refine wp_store_mid (P := Tryz.prog) 36 x y ho h 0 _ hx hy ?_ infoX (by simp [Value.oneCell']) ?_
  · intro j hj
    obtain ⟨x0, x1, x2, x3, x4, x5, x6, x7, x8, x9⟩ := H.in
    refine ⟨?_, H.frozen _⟩
    have hj' : j < 10 := hj
    rw [Nat.zero_add]
    match j, hj' with
    | 0, _ => rw [x0]; rfl
    | 1, _ => rw [x1]; rfl
    | 2, _ => rw [x2]; rfl
    | 3, _ => rw [x3]; rfl
    | 4, _ => rw [x4]; rfl
    | 5, _ => rw [x5]; rfl
    | 6, _ => rw [x6]; rfl
    | 7, _ => rw [x7]; rfl
    | 8, _ => rw [x8]; rfl
    | 9, _ => rw [x9]; rfl
    | j + 10, hj => omega
  · exact hK (putX w h q) (putX_is H q) (grown_putX w h q)
theorem list_storeX {ops : Array Oper} {rest : List Oper} {o : Oper} {act : Act} {Q : Exit → Act → World → Prop} {w : World} (hgd : o.guard = none) (x y : Operand) (ho : o.op = .store 36 x y) {h : Nat} {q0 : Bx} (H : BxB w h q0) (hx : act.eval x = .pointer (some ⟨h, 0, none⟩)) (q : Bx) (hy : act.eval y = boxW q)
    (hK : ∀ w', BxB w' h q → w.grownBy w' (some h) → wpList Tryz.prog ops Q rest (act.put o.dst undef) w') : wpList Tryz.prog ops Q (o :: rest) act w :=
  wpList_plain hgd fun _ hK' => wp_storeX x y ho H hx q hy fun w' h1 h2 => hK' _ _ (hK w' h1 h2)

end Go.Proofs.YtkkbeobocbgmeaaGreat
