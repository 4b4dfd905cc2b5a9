/- Points in blocks of their own: stored whole; '==' of a point with itself, of spans with themselves. -/
import Derived.Test.YtndnijdpafcmoaaStartQ
import Derived.Test.YtndnijdpafcmoaaQueryS
namespace Go.Proofs.Ytndnijdpafcmoaa
open Go.RowKit M

theorem infoP : (Try.prog.info? 29).map (·.size) = some 4 := by kernel_rfl
theorem PtB.put {w : World} {h : Nat} {a0 a1 a2 a3 : Int} (H : PtB w h a0 a1 a2 a3) (p0 p1 p2 p3 : Int) : PtB ((((w.setCell ⟨h, 0, none⟩ (.int .i64 p0)).setCell ⟨h, 1, none⟩ (.int .i64 p1)).setCell ⟨h, 2, none⟩ (.int .i64 p2)).setCell ⟨h, 3, none⟩ (.int .i64 p3)) h p0 p1 p2 p3 :=
  heap_setCell_same _ _ _ _ _ _ (heap_setCell_same _ _ _ _ _ _ (heap_setCell_same _ _ _ _ _ _ (heap_setCell_same _ _ _ _ _ _ H)))
theorem wp_storeP {op : Oper} {a : Act} {w : World} {K : Act → World → Prop} {Q : Exit → Act → World → Prop} (x y : Operand) (ho : op.op = .store 29 x y) {h : Nat} {a0 a1 a2 a3 : Int} (H : PtB w h a0 a1 a2 a3) (hx : a.eval x = .pointer (some ⟨h, 0, none⟩)) (p0 p1 p2 p3 : Int) (hy : a.eval y = .agg #[.int .i64 p0, .int .i64 p1, .int .i64 p2, .int .i64 p3])
    (hK : ∀ w', PtB w' h p0 p1 p2 p3 → w.grownBy w' (some h) → K (a.put op.dst undef) w') : op.wp Try.prog a w K Q := by
  refine wp_store_mid (P := Try.prog) 29 x y ho h 0 _ hx hy ?_ infoP (by simp [Value.oneCell']) ?_
  · intro j hj
    obtain ⟨hl, x0, x1, x2, x3⟩ := H.in
    refine ⟨?_, H.frozen _⟩
    have hj' : j < 4 := hj
    rw [Nat.zero_add]
    match j, hj' with
    | 0, _ => rw [x0]; rfl
    | 1, _ => rw [x1]; rfl
    | 2, _ => rw [x2]; rfl
    | 3, _ => rw [x3]; rfl
    | j + 4, hj => omega
  · exact hK _ (H.put p0 p1 p2 p3) ((((grown_set _ _ _ _).trans (grown_set _ _ _ _)).trans (grown_set _ _ _ _)).trans (grown_set _ _ _ _))
theorem list_storeP {ops : Array Oper} {rest : List Oper} {o : Oper} {act : Act} {Q : Exit → Act → World → Prop} {w : World} (hgd : o.guard = none) (x y : Operand) (ho : o.op = .store 29 x y) {h : Nat} {a0 a1 a2 a3 : Int} (H : PtB w h a0 a1 a2 a3) (hx : act.eval x = .pointer (some ⟨h, 0, none⟩)) (p0 p1 p2 p3 : Int) (hy : act.eval y = .agg #[.int .i64 p0, .int .i64 p1, .int .i64 p2, .int .i64 p3])
    (hK : ∀ w', PtB w' h p0 p1 p2 p3 → w.grownBy w' (some h) → wpList Try.prog ops Q rest (act.put o.dst undef) w') : wpList Try.prog ops Q (o :: rest) act w :=
  wpList_plain hgd fun _ hK' => wp_storeP x y ho H hx p0 p1 p2 p3 hy fun w' h1 h2 => hK' _ _ (hK w' h1 h2)
theorem PtB.by {w w' : World} {h g : Nat} {p0 p1 p2 p3 : Int} (H : PtB w h p0 p1 p2 p3) (hg : w.grownBy w' (some g)) (hne : h ≠ g) : PtB w' h p0 p1 p2 p3 := (hg.block h H.lt (by simpa using hne)).trans H
theorem BxB.ne_pt {w : World} {h g : Nat} {x : Bx} {p0 p1 p2 p3 : Int} (H : BxB w h x) (G : PtB w g p0 p1 p2 p3) : h ≠ g := fun e => by
  subst e
  have h9 := H.in.2.2.2.2.2.2.2.2.2
  have e2 := cell_of_row w h 9 _ _ _ G
  rw [h9] at e2
  simp at e2
theorem intInfo : ∃ i, Try.prog.info? 3 = some i := by
  have h : (Try.prog.info? 3).isSome = true := by kernel_rfl
  exact Option.isSome_iff_exists.1 h
theorem intCells : Try.prog.cellsOf 3 = 1 := by kernel_rfl
theorem eq_pt (p0 p1 p2 p3 : Int) (w : World) : (Op.equalIn 10000 29 (.agg #[.int .i64 p0, .int .i64 p1, .int .i64 p2, .int .i64 p3]) (.agg #[.int .i64 p0, .int .i64 p1, .int .i64 p2, .int .i64 p3])).run Try.prog w = .ok true w := by
  obtain ⟨i, hi⟩ := intInfo
  have hr : List.range 4 = [0, 1, 2, 3] := rfl
  have h0 : ∀ w : World, (part 3 #[.int .i64 p0, .int .i64 p1, .int .i64 p2, .int .i64 p3] 0).run Try.prog w = .ok (.int .i64 p0) w := fun w => by kernel_rfl
  have h1 : ∀ w : World, (part 3 #[.int .i64 p0, .int .i64 p1, .int .i64 p2, .int .i64 p3] 1).run Try.prog w = .ok (.int .i64 p1) w := fun w => by kernel_rfl
  have h2 : ∀ w : World, (part 3 #[.int .i64 p0, .int .i64 p1, .int .i64 p2, .int .i64 p3] 2).run Try.prog w = .ok (.int .i64 p2) w := fun w => by kernel_rfl
  have h3 : ∀ w : World, (part 3 #[.int .i64 p0, .int .i64 p1, .int .i64 p2, .int .i64 p3] 3).run Try.prog w = .ok (.int .i64 p3) w := fun w => by kernel_rfl
  rw [run_equalIn_array w 9999 _ _ Try.underlying29 hi, intCells, hr]
  simp [Op.eqItems, h0, h1, h2, h3, run_equalIn_int _ _ 3 .i64 .i64 _ _ Try.underlying3]
theorem eq_sp (x y : Int) (w : World) : (Op.equalIn 10000 36 (.agg #[.int .i64 x, .int .i64 y]) (.agg #[.int .i64 x, .int .i64 y])).run Try.prog w = .ok true w := (eq_span 9998 ⟨x, y⟩ ⟨x, y⟩ w).trans (by simp [Sp.eqB])

/-- what the operations yield that make the start and the second point of a query -/
def SecG (B : Nat) (q : Qy) (X : Bx) (p0 p1 p2 p3 t o0 o1 o2 o3 : Int) (k : Nat) (v : Value) (z : World) : Prop :=
  if k = 6 then ∃ h, v = .pointer (some ⟨h, 0, none⟩) ∧ B ≤ h ∧ BxB z h Bx.nil else
  if k = 7 then ∃ h, v = .pointer (some ⟨h, 0, none⟩) ∧ B ≤ h ∧ PtB z h 0 0 0 0 else
  v = (if k = 0 then queryV q else if k = 1 then boxW X else if k = 2 then queryV q else if k = 3 then .agg #[.int .i64 p0, .int .i64 p1, .int .i64 p2, .int .i64 p3] else if k = 4 then .int .i64 t else .agg #[.int .i64 o0, .int .i64 o1, .int .i64 o2, .int .i64 o3])
theorem SecG.mono {B : Nat} {q : Qy} {X : Bx} {p0 p1 p2 p3 t o0 o1 o2 o3 : Int} (k : Nat) (v : Value) (z z' : World) (hj : Jk z z') (h : SecG B q X p0 p1 p2 p3 t o0 o1 o2 o3 k v z) : SecG B q X p0 p1 p2 p3 t o0 o1 o2 o3 k v z' := by
  unfold SecG at *
  split at h
  · next e => rw [if_pos e]; obtain ⟨g, e1, h1, h2⟩ := h; exact ⟨g, e1, h1, h2.jk hj⟩
  · next e =>
    rw [if_neg e]
    split at h
    · next e => rw [if_pos e]; obtain ⟨g, e1, h1, h2⟩ := h; exact ⟨g, e1, h1, h2.jk hj⟩
    · next e => rw [if_neg e]; exact h


end Go.Proofs.Ytndnijdpafcmoaa
