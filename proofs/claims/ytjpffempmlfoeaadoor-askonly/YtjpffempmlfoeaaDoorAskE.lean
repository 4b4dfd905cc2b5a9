/- What '==' answers of two queries: are all their numbers the same? No conditions. -/
import Derived.Test.YtjpffempmlfoeaaDoorQueryM
import Derived.Test.YtjpffempmlfoeaaDoorBoxV
namespace Go.Proofs.YtjpffempmlfoeaaDoor
open Go.RowKit M

theorem eq_boxN (n : Nat) (x y : Bx) (w : World) : (Op.equalIn (n + 3) 25 (boxV x) (boxV y)).run Tryd.prog w = .ok (x.eqB y) w := by
  obtain ⟨i, hi⟩ := spanInfo
  have hr : List.range 5 = [0, 1, 2, 3, 4] := rfl
  have e1 := fun (s t : Sp) (w : World) => eq_span n s t w
  rw [run_equalIn_array w (n + 2) _ _ Tryd.underlying25 hi, spanCells, hr]
  simp only [Op.eqItems, Sem.run_bind, Nat.zero_mul, Nat.one_mul, show 2 * 2 = 4 from rfl, show 3 * 2 = 6 from rfl, show 4 * 2 = 8 from rfl, pt0, pt1, pt2, pt3, pt4, Result.andThen_ok, e1, Sem.run_ite, Bx.eqB]
  cases x.a.eqB y.a
  · simp
  cases x.b.eqB y.b
  · simp
  cases x.c.eqB y.c
  · simp
  cases x.d.eqB y.d
  · simp
  cases x.e.eqB y.e <;> simp
theorem eqFields_cons {P : Program} {dd : Nat} {xs ys : Array Value} {f : Field} {fs : List Field} {w : World} {a b : Value} {r R : Bool} (hn : f.name ≠ "_") (p1 : (part f.type xs f.offset).run P w = .ok a w) (p2 : (part f.type ys f.offset).run P w = .ok b w)
    (p3 : (Op.equalIn dd f.type a b).run P w = .ok r w) (h : (Op.eqFields dd xs ys fs).run P w = .ok R w) : (Op.eqFields dd xs ys (f :: fs)).run P w = .ok (r && R) w := by
  simp only [Op.eqFields, hn, ne_eq, not_false_eq_true, if_true, Sem.run_bind, p1, p2, p3, Result.andThen_ok]
  cases r
  · simp
  · simpa using h
theorem eq_boolN (n : Nat) (a b : Bool) (w : World) : (Op.equalIn (n + 1) 4 (.bool a) (.bool b)).run Tryd.prog w = .ok (a == b) w := by
  simp [Op.equalIn, run_underlying Tryd.underlying4]
def Qy.eqB (a b : Qy) : Bool := (a.kd == b.kd) && ((a.cl == b.cl) && ((a.rg.eqB b.rg) && ((a.lo == b.lo) && ((a.hi == b.hi) && ((a.f == b.f) && ((a.fa == b.fa) && ((a.bu == b.bu) && true)))))))
theorem Qy.eqB_iff {a b : Qy} : a.eqB b = true ↔ a = b := by
  cases a; cases b
  simp [Qy.eqB, Bx.eqB_iff]
set_option maxRecDepth 100000 in
theorem eq_queryB (a b : Qy) (w : World) : (Op.equalIn 10000 27 (queryV a) (queryV b)).run Tryd.prog w = .ok (a.eqB b) w := by
  have hf : (Tryd.prog.fieldsOf 27).toList.map (fun f => (f.name, f.type, f.offset)) = [("Kind", 3, 0), ("Class", 3, 1), ("Region", 25, 2), ("Lo", 3, 12), ("Hi", 3, 13), ("Feature", 3, 14), ("Falls", 4, 15), ("Budget", 3, 16)] := by kernel_rfl
  rw [run_equalIn_struct w 9999 27 _ _ (by kernel_rfl) (by kernel_rfl)]
  generalize (Tryd.prog.fieldsOf 27).toList = l at hf ⊢
  have hl : l.length = 8 := by have := congrArg List.length hf; simpa using this
  match l, hl with
  | [f1, f2, f3, f4, f5, f6, f7, f8], _ =>
  simp only [List.map_cons, List.map_nil, List.cons.injEq, Prod.mk.injEq, and_true] at hf
  obtain ⟨⟨a1, b1, c1⟩, ⟨a2, b2, c2⟩, ⟨a3, b3, c3⟩, ⟨a4, b4, c4⟩, ⟨a5, b5, c5⟩, ⟨a6, b6, c6⟩, ⟨a7, b7, c7⟩, ⟨a8, b8, c8⟩⟩ := hf
  unfold Qy.eqB
  refine eqFields_cons (a := .int .i64 a.kd) (b := .int .i64 b.kd) (by rw [a1]; decide) (by rw [b1, c1]; kernel_rfl) (by rw [b1, c1]; kernel_rfl) (by rw [b1, run_equalIn_int _ _ 3 .i64 .i64 _ _ Tryd.underlying3]) ?_
  refine eqFields_cons (a := .int .i64 a.cl) (b := .int .i64 b.cl) (by rw [a2]; decide) (by rw [b2, c2]; kernel_rfl) (by rw [b2, c2]; kernel_rfl) (by rw [b2, run_equalIn_int _ _ 3 .i64 .i64 _ _ Tryd.underlying3]) ?_
  refine eqFields_cons (a := boxV a.rg) (b := boxV b.rg) (by rw [a3]; decide) (by rw [b3, c3]; kernel_rfl) (by rw [b3, c3]; kernel_rfl) (by rw [b3]; exact eq_boxN 9996 a.rg b.rg w) ?_
  refine eqFields_cons (a := .int .i64 a.lo) (b := .int .i64 b.lo) (by rw [a4]; decide) (by rw [b4, c4]; kernel_rfl) (by rw [b4, c4]; kernel_rfl) (by rw [b4, run_equalIn_int _ _ 3 .i64 .i64 _ _ Tryd.underlying3]) ?_
  refine eqFields_cons (a := .int .i64 a.hi) (b := .int .i64 b.hi) (by rw [a5]; decide) (by rw [b5, c5]; kernel_rfl) (by rw [b5, c5]; kernel_rfl) (by rw [b5, run_equalIn_int _ _ 3 .i64 .i64 _ _ Tryd.underlying3]) ?_
  refine eqFields_cons (a := .int .i64 a.f) (b := .int .i64 b.f) (by rw [a6]; decide) (by rw [b6, c6]; kernel_rfl) (by rw [b6, c6]; kernel_rfl) (by rw [b6, run_equalIn_int _ _ 3 .i64 .i64 _ _ Tryd.underlying3]) ?_
  refine eqFields_cons (a := .bool a.fa) (b := .bool b.fa) (by rw [a7]; decide) (by rw [b7, c7]; kernel_rfl) (by rw [b7, c7]; kernel_rfl) (by rw [b7]; exact eq_boolN 9998 _ _ _) ?_
  refine eqFields_cons (a := .int .i64 a.bu) (b := .int .i64 b.bu) (by rw [a8]; decide) (by rw [b8, c8]; kernel_rfl) (by rw [b8, c8]; kernel_rfl) (by rw [b8, run_equalIn_int _ _ 3 .i64 .i64 _ _ Tryd.underlying3]) ?_
  simp [Op.eqFields]
theorem eq_qy {a b : Qy} {r : Bool} (h : r = true ↔ a = b) (w : World) : (Op.equalIn 10000 27 (queryV a) (queryV b)).run Tryd.prog w = .ok r w := by
  rw [eq_queryB]
  have : a.eqB b = r := by
    have := Qy.eqB_iff (a := a) (b := b)
    cases r <;> cases h' : a.eqB b <;> simp_all
  rw [this]
instance : DecidableEq Qy := fun a b => decidable_of_iff (a.eqB b = true) Qy.eqB_iff

end Go.Proofs.YtjpffempmlfoeaaDoor
