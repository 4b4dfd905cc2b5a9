/- One operation of a region at a time, its guard decided; whole structs (a model, a query, a box) are loaded by one law. No conditions. -/
import Derived.Test.YtkkbeobocbgmeaaGreatBoxQ
import Derived.Test.YtkkbeobocbgmeaaGreatRowsF
namespace Go.Proofs.YtkkbeobocbgmeaaGreat
open Go.RowKit M

theorem wpList_one {ops : Array Oper} {rest : List Oper} {o : Oper} {a : Act} {w : World} {Q : Exit → Act → World → Prop} (hw : Region.wanted o (yielded ops a.tmps) = true)
    (h : ∀ K : Act → World → Prop, (∀ a w, wpList Tryz.prog ops Q rest a w → K a w) → o.wp Tryz.prog a w K Q) : wpList Tryz.prog ops Q (o :: rest) a w :=
  wpList_step fun K hK => by rw [if_pos hw]; exact h K hK
theorem listw_loadQ {ops : Array Oper} {rest : List Oper} {o : Oper} {a : Act} {Q : Exit → Act → World → Prop} {w : World} (hw : Region.wanted o (yielded ops a.tmps) = true) (x : Operand) (ho : o.op = .load 38 x) {h : Nat} {q : Qy} (H : QyB w h q) (hx : a.eval x = .pointer (some ⟨h, 0, none⟩))
    (hK : wpList Tryz.prog ops Q rest (a.put o.dst (queryV q)) w) : wpList Tryz.prog ops Q (o :: rest) a w :=
  wpList_one hw fun _ hK' => wp_load_row 38 x ho h hx _ _ _ _ H Tryz.underlying38 rfl (by kernel_rfl) (hK' _ _ hK)
theorem listp_loadQ {ops : Array Oper} {rest : List Oper} {o : Oper} {a : Act} {Q : Exit → Act → World → Prop} {w : World} (hg : o.guard = none) (x : Operand) (ho : o.op = .load 38 x) {h : Nat} {q : Qy} (H : QyB w h q) (hx : a.eval x = .pointer (some ⟨h, 0, none⟩))
    (hK : wpList Tryz.prog ops Q rest (a.put o.dst (queryV q)) w) : wpList Tryz.prog ops Q (o :: rest) a w := list_loadQ hg x ho H hx hK
/-- the region of a query, loaded out of the query's block -/
theorem listp_loadXat {ops : Array Oper} {rest : List Oper} {o : Oper} {a : Act} {Q : Exit → Act → World → Prop} {w : World} (hg : o.guard = none) (x : Operand) (ho : o.op = .load 36 x) {h : Nat} {q : Qy} (H : QyB w h q) (hx : a.eval x = .pointer (some ⟨h, 2, none⟩))
    (hK : wpList Tryz.prog ops Q rest (a.put o.dst (boxW q.rg)) w) : wpList Tryz.prog ops Q (o :: rest) a w :=
  wpList_plain hg fun K hK' => by
    unfold Oper.wp
    simp only [execOp, ho, hx, Instr.loadAt, Instr.sureAddr, Sem.run_bind, Sem.run_pure, Result.andThen_ok, loadX_at H]
    exact hK' _ _ hK
theorem listp_loadM {ops : Array Oper} {rest : List Oper} {o : Oper} {a : Act} {Q : Exit → Act → World → Prop} {w : World} (hg : o.guard = none) (x : Operand) (ho : o.op = .load 31 x) {h : Nat} {m : Md} (H : MdB w h m) (hx : a.eval x = .pointer (some ⟨h, 0, none⟩))
    (hK : wpList Tryz.prog ops Q rest (a.put o.dst (modelV m)) w) : wpList Tryz.prog ops Q (o :: rest) a w :=
  wpList_plain hg fun _ hK' => wp_load_row 31 x ho h hx _ _ _ _ H Tryz.underlying31 rfl (by kernel_rfl) (hK' _ _ hK)
theorem wpList_skip {ops : Array Oper} {rest : List Oper} {o : Oper} {a : Act} {w : World} {Q : Exit → Act → World → Prop} (hw : Region.wanted o (yielded ops a.tmps) = false)
    (h : wpList Tryz.prog ops Q rest (a.put o.dst undef) w) : wpList Tryz.prog ops Q (o :: rest) a w :=
  wpList_step fun K hK => by rw [if_neg (by rw [hw]; exact Bool.false_ne_true)]; exact hK _ _ h
theorem listw_loadM {ops : Array Oper} {rest : List Oper} {o : Oper} {a : Act} {Q : Exit → Act → World → Prop} {w : World} (hw : Region.wanted o (yielded ops a.tmps) = true) (x : Operand) (ho : o.op = .load 31 x) {h : Nat} {m : Md} (H : MdB w h m) (hx : a.eval x = .pointer (some ⟨h, 0, none⟩))
    (hK : wpList Tryz.prog ops Q rest (a.put o.dst (modelV m)) w) : wpList Tryz.prog ops Q (o :: rest) a w :=
  wpList_one hw fun _ hK' => wp_load_row 31 x ho h hx _ _ _ _ H Tryz.underlying31 rfl (by kernel_rfl) (hK' _ _ hK)
theorem listw_loadX {ops : Array Oper} {rest : List Oper} {o : Oper} {a : Act} {Q : Exit → Act → World → Prop} {w : World} (hw : Region.wanted o (yielded ops a.tmps) = true) (x : Operand) (ho : o.op = .load 36 x) {h : Nat} {b : Bx} (H : BxB w h b) (hx : a.eval x = .pointer (some ⟨h, 0, none⟩))
    (hK : wpList Tryz.prog ops Q rest (a.put o.dst (boxW b)) w) : wpList Tryz.prog ops Q (o :: rest) a w :=
  wpList_one hw fun _ hK' => wp_load_row 36 x ho h hx _ _ _ _ H Tryz.underlying36 rfl (by kernel_rfl) (hK' _ _ hK)
theorem quietw_loadQ {ops : Array Oper} {rest : List Oper} {C : World → Prop} {Q : Act → Prop} {a : Act} {o : Oper} {h : Nat} {q : Qy} (hC : ∀ z, C z → QyB z h q) (hw : Region.wanted o (yielded ops a.tmps) = true) (x : Operand) (ho : o.op = .load 38 x) (hx : a.eval x = .pointer (some ⟨h, 0, none⟩))
    (hh : ∀ K : Act → Prop, (∀ a, wpQuiet Tryz.prog ops C Q rest a → K a) → K (a.put o.dst (queryV q))) : wpQuiet Tryz.prog ops C Q (o :: rest) a := by
  refine wpQuiet_step fun K hK' => ?_
  rw [if_pos hw]
  refine ⟨queryV q, fun w hw => ?_, hh K hK'⟩
  unfold Oper.quietAt execOp
  simp only [ho, hx, Instr.loadAt, Instr.sureAddr, Sem.run_bind, Sem.run_pure, Result.andThen_ok, load_Q (hC w hw)]
  exact ⟨rfl, rfl⟩

end Go.Proofs.YtkkbeobocbgmeaaGreat
