/- Rows of bytes of the call's own in memory: what 'append' of one byte onto one leaves; what a conversion to a string reads. Plain facts on memory; no conditions on a program but that its type of bytes is laid out as one cell. -/
import Derived.Test.YtfcphcdhjjjjgaaDoorBase
import Derived.Test.YtfcphcdhjjjjgaaDoorMathD
import Derived.Deep.AppendLies
import Derived.Below
import Derived.OwnWalk
import Derived.Lib.UnsafeStr
import Derived.Lib.Slices
namespace Go.Proofs.YtfcphcdhjjjjgaaDoor
open Go.RowKit M

/-- a row of bytes of the call's own: in a block from B on (or none, if it is nil) -/
def OwnB (B : Nat) (w : World) (v : Value) (xs : Txt) : Prop := w.ownsRow B 5 1 v xs.length (Lib.byteCells xs)
theorem infoByte : (Tryd.prog.info? 5).map (fun i => (i.zero, i.size, i.bytes)) = some (some (.int .u8 0), 1, 1) := by kernel_rfl
theorem OwnB.nil (B : Nat) (w : World) : OwnB B w (.slice none 0 0) [] := World.ownsRow_nil w B 5 1
theorem OwnB.alloc {B : Nat} {w : World} {v : Value} {xs : Txt} (h : OwnB B w v xs) (o : Obj) : OwnB B (w.alloc o) v xs := World.ownsRow.alloc h o
theorem OwnB.drew {B : Nat} {w : World} {v : Value} {xs : Txt} (h : OwnB B w v xs) : OwnB B w.drew v xs := h

theorem below_on {w w1 w2 : World} (h : Below w.heap.size w w1) (k : Below w1.heap.size w1 w2) : Below w.heap.size w w2 := h.trans (k.mono h.size)

/-- ONE BYTE APPENDED, in a plain region -/
theorem list_byte {ops : Array Oper} {rest : List Oper} {o : Oper} {act : Act} {Q : Exit → Act → World → Prop} {B : Nat} {w : World} {v : Value} {xs : Txt}
    (hgd : o.guard = none) (s x : Operand) (ho : o.op = .call { callee := .builtin .append, args := #[s, x], argTypes := #[27, 27] })
    (hown : OwnB B w v xs) (hB : B ≤ w.heap.size) (hs : act.eval s = v) (b cap : Nat) (X : Int) (c : UInt8) (hX : X = (c.toNat : Int)) (hxv : act.eval x = .slice (some ⟨b, 0, none⟩) 1 cap)
    (hb : w.heap[b]? = some (.cells #[.int .u8 X] 5 (0, 0))) (hl : xs.length ≤ 1000)
    (h : ∀ v' w', OwnB B w' v' (xs ++ [c]) → Below B w w' → B ≤ w'.heap.size → wpList Tryd.prog ops Q rest (act.put o.dst v') w') :
    wpList Tryd.prog ops Q (o :: rest) act w := by
  subst hX
  obtain ⟨i0, hi0, hz0, hz1, hz2⟩ := info_parts infoByte
  refine wpList_append_own w hgd s x 27 ho B 5 i0 _ 1 1 Tryd.underlying27 hi0 hz0 hz1 hz2 rfl (by omega) v xs.length _ hs hown ⟨b, 0, none⟩ 1 cap [.int .u8 (c.toNat : Int)] hxv rfl
    (World.news_of_block (cs := #[.int .u8 (c.toNat : Int)]) hb) (by simp [Value.oneCell']) (by unfold maxLen; omega) (by omega) hB ?_
  intro v' w' hown' hgrow _
  have hbel : Below B w w' := (Below.refl B w).grown hgrow hB (fun k hk => (World.ownsRow.lt hown k hk).1)
  refine h v' w' ?_ hbel (Nat.le_trans hB hbel.size)
  unfold OwnB
  rw [List.length_append, Lib.byteCells_append]
  exact hown'

end Go.Proofs.YtfcphcdhjjjjgaaDoor
