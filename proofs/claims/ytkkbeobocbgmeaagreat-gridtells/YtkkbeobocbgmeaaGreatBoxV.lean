/- Spans and boxes as values; what '==' answers of two of them: are all their numbers the same? A box's parts. No program's code is spoken of here. -/
import Derived.Test.YtkkbeobocbgmeaaGreatMathB
import Derived.Test.YtkkbeobocbgmeaaGreatBase
import Derived.ChangeKeysEq
import Derived.Handy
namespace Go.Proofs.YtkkbeobocbgmeaaGreat
open Go.RowKit M

abbrev spV (s : Sp) : Value := .agg #[.int .i64 s.lo, .int .i64 s.hi]
abbrev boxV (x : Bx) : Value := .agg #[.int .i64 x.a.lo, .int .i64 x.a.hi, .int .i64 x.b.lo, .int .i64 x.b.hi, .int .i64 x.c.lo, .int .i64 x.c.hi, .int .i64 x.d.lo, .int .i64 x.d.hi, .int .i64 x.e.lo, .int .i64 x.e.hi]
abbrev boxC (x : Bx) : Obj := .cells #[.int .i64 x.a.lo, .int .i64 x.a.hi, .int .i64 x.b.lo, .int .i64 x.b.hi, .int .i64 x.c.lo, .int .i64 x.c.hi, .int .i64 x.d.lo, .int .i64 x.d.hi, .int .i64 x.e.lo, .int .i64 x.e.hi] 36
abbrev ptV (p : Pt) : Value := .agg #[.int .i64 p.a, .int .i64 p.b, .int .i64 p.c, .int .i64 p.d]

theorem ix0 (x : Bx) (w : World) : (Instr.index 36 (boxV x) (.int .i64 0)).run Tryz.prog w = .ok (spV x.a) w := by kernel_rfl
theorem ix1 (x : Bx) (w : World) : (Instr.index 36 (boxV x) (.int .i64 1)).run Tryz.prog w = .ok (spV x.b) w := by kernel_rfl
theorem ix2 (x : Bx) (w : World) : (Instr.index 36 (boxV x) (.int .i64 2)).run Tryz.prog w = .ok (spV x.c) w := by kernel_rfl
theorem ix3 (x : Bx) (w : World) : (Instr.index 36 (boxV x) (.int .i64 3)).run Tryz.prog w = .ok (spV x.d) w := by kernel_rfl
theorem ix4 (x : Bx) (w : World) : (Instr.index 36 (boxV x) (.int .i64 4)).run Tryz.prog w = .ok (spV x.e) w := by kernel_rfl

theorem eq_span (n : Nat) (s t : Sp) (w : World) : (Op.equalIn (n + 2) 34 (spV s) (spV t)).run Tryz.prog w = .ok (s.eqB t) w := by
  have hp : ∀ w : World, (part 3 #[.int .i64 s.lo, .int .i64 s.hi] 0).run Tryz.prog w = .ok (.int .i64 s.lo) w := fun w => by kernel_rfl
  have hp2 : ∀ w : World, (part 3 #[.int .i64 s.lo, .int .i64 s.hi] 1).run Tryz.prog w = .ok (.int .i64 s.hi) w := fun w => by kernel_rfl
  have hq : ∀ w : World, (part 3 #[.int .i64 t.lo, .int .i64 t.hi] 0).run Tryz.prog w = .ok (.int .i64 t.lo) w := fun w => by kernel_rfl
  have hq2 : ∀ w : World, (part 3 #[.int .i64 t.lo, .int .i64 t.hi] 1).run Tryz.prog w = .ok (.int .i64 t.hi) w := fun w => by kernel_rfl
  have hf : (Tryz.prog.fieldsOf 34).toList.map (fun f => (f.name != "_", f.type, f.offset)) = [(true, 3, 0), (true, 3, 1)] := by kernel_rfl
  rw [run_equalIn_struct w (n + 1) 34 _ _ (by kernel_rfl) (by kernel_rfl)]
  match hl : (Tryz.prog.fieldsOf 34).toList with
  | [] => rw [hl] at hf; simp at hf
  | [f] => rw [hl] at hf; simp at hf
  | f :: g :: _ :: _ => rw [hl] at hf; simp at hf
  | [f, g] =>
    rw [hl] at hf
    simp at hf
    obtain ⟨⟨f1, f2, f3⟩, g1, g2, g3⟩ := hf
    simp [Op.eqFields, f1, f2, f3, g1, g2, g3, hp, hp2, hq, hq2, run_equalIn_int _ _ 3 .i64 .i64 _ _ Tryz.underlying3, Sp.eqB]
    cases h1 : (s.lo == t.lo) <;> cases h2 : (s.hi == t.hi) <;> simp_all

theorem pt0 (x : Bx) (w : World) : (part 34 #[.int .i64 x.a.lo, .int .i64 x.a.hi, .int .i64 x.b.lo, .int .i64 x.b.hi, .int .i64 x.c.lo, .int .i64 x.c.hi, .int .i64 x.d.lo, .int .i64 x.d.hi, .int .i64 x.e.lo, .int .i64 x.e.hi] 0).run Tryz.prog w = .ok (spV x.a) w := by kernel_rfl
theorem pt1 (x : Bx) (w : World) : (part 34 #[.int .i64 x.a.lo, .int .i64 x.a.hi, .int .i64 x.b.lo, .int .i64 x.b.hi, .int .i64 x.c.lo, .int .i64 x.c.hi, .int .i64 x.d.lo, .int .i64 x.d.hi, .int .i64 x.e.lo, .int .i64 x.e.hi] 2).run Tryz.prog w = .ok (spV x.b) w := by kernel_rfl
theorem pt2 (x : Bx) (w : World) : (part 34 #[.int .i64 x.a.lo, .int .i64 x.a.hi, .int .i64 x.b.lo, .int .i64 x.b.hi, .int .i64 x.c.lo, .int .i64 x.c.hi, .int .i64 x.d.lo, .int .i64 x.d.hi, .int .i64 x.e.lo, .int .i64 x.e.hi] 4).run Tryz.prog w = .ok (spV x.c) w := by kernel_rfl
theorem pt3 (x : Bx) (w : World) : (part 34 #[.int .i64 x.a.lo, .int .i64 x.a.hi, .int .i64 x.b.lo, .int .i64 x.b.hi, .int .i64 x.c.lo, .int .i64 x.c.hi, .int .i64 x.d.lo, .int .i64 x.d.hi, .int .i64 x.e.lo, .int .i64 x.e.hi] 6).run Tryz.prog w = .ok (spV x.d) w := by kernel_rfl
theorem pt4 (x : Bx) (w : World) : (part 34 #[.int .i64 x.a.lo, .int .i64 x.a.hi, .int .i64 x.b.lo, .int .i64 x.b.hi, .int .i64 x.c.lo, .int .i64 x.c.hi, .int .i64 x.d.lo, .int .i64 x.d.hi, .int .i64 x.e.lo, .int .i64 x.e.hi] 8).run Tryz.prog w = .ok (spV x.e) w := by kernel_rfl
theorem spanInfo : ∃ i, Tryz.prog.info? 34 = some i := by
  have h : (Tryz.prog.info? 34).isSome = true := by kernel_rfl
  exact Option.isSome_iff_exists.1 h
theorem spanCells : Tryz.prog.cellsOf 34 = 2 := by kernel_rfl

theorem eq_box (x y : Bx) (w : World) : (Op.equalIn 10000 36 (boxV x) (boxV y)).run Tryz.prog w = .ok (x.eqB y) w := by
  obtain ⟨i, hi⟩ := spanInfo
  have hr : List.range 5 = [0, 1, 2, 3, 4] := rfl
  have e1 := fun (s t : Sp) (w : World) => eq_span 9997 s t w
  rw [run_equalIn_array w 9999 _ _ Tryz.underlying36 hi, spanCells, hr]
  simp only [Op.eqItems, Sem.run_bind, Nat.zero_mul, Nat.one_mul, show 2 * 2 = 4 from rfl, show 3 * 2 = 6 from rfl, show 4 * 2 = 8 from rfl, pt0, pt1, pt2, pt3, pt4, Result.andThen_ok, e1, Sem.run_ite, Bx.eqB]
  cases x.a.eqB y.a
  · simp
  cases x.b.eqB y.b
  · simp
  cases x.c.eqB y.c
  · simp
  cases x.d.eqB y.d
  · simp
  cases x.e.eqB y.e <;> simp

end Go.Proofs.YtkkbeobocbgmeaaGreat
