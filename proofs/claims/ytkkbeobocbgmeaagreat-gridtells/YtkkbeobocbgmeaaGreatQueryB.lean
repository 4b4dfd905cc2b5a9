/- Queries, and the numbers of which copsekeep's Ask makes one, in blocks of their own: what lies there, what a number that is set, a query that is stored leave. No conditions. -/
import Derived.Test.YtkkbeobocbgmeaaGreatAskM
import Derived.Deep.MidRow
namespace Go.Proofs.YtkkbeobocbgmeaaGreat
open Go.RowKit M

/-- a query in a block of its own -/
def QyB (w : World) (h : Nat) (x : Qy) : Prop := w.heap[h]? = some (.cells #[.int .i64 x.kd, .int .i64 x.cl, .int .i64 x.rg.a.lo, .int .i64 x.rg.a.hi, .int .i64 x.rg.b.lo, .int .i64 x.rg.b.hi, .int .i64 x.rg.c.lo, .int .i64 x.rg.c.hi, .int .i64 x.rg.d.lo, .int .i64 x.rg.d.hi, .int .i64 x.rg.e.lo, .int .i64 x.rg.e.hi, .int .i64 x.lo, .int .i64 x.hi, .int .i64 x.f, .bool x.fa, .int .i64 x.bu] 38 (0, 0))
theorem QyB.lt {w : World} {h : Nat} {x : Qy} (H : QyB w h x) : h < w.heap.size := (Array.getElem?_eq_some_iff.1 H).1
theorem QyB.jk {w w' : World} {h : Nat} {x : Qy} (H : QyB w h x) (hj : Jk w w') : QyB w' h x := (hj.below.block h H.lt).trans H
theorem QyB.by {w w' : World} {h g : Nat} {x : Qy} (H : QyB w h x) (hg : w.grownBy w' (some g)) (hne : h ≠ g) : QyB w' h x := (hg.block h H.lt (by simpa using hne)).trans H
theorem QyB.laid (w : World) (x : Qy) : QyB (w.alloc (.cells #[.int .i64 x.kd, .int .i64 x.cl, .int .i64 x.rg.a.lo, .int .i64 x.rg.a.hi, .int .i64 x.rg.b.lo, .int .i64 x.rg.b.hi, .int .i64 x.rg.c.lo, .int .i64 x.rg.c.hi, .int .i64 x.rg.d.lo, .int .i64 x.rg.d.hi, .int .i64 x.rg.e.lo, .int .i64 x.rg.e.hi, .int .i64 x.lo, .int .i64 x.hi, .int .i64 x.f, .bool x.fa, .int .i64 x.bu] 38)) w.heap.size x := heap_alloc_new w _
theorem QyB.frozen {w : World} {h : Nat} {x : Qy} (H : QyB w h x) (q : Nat) : w.frozen? ⟨h, q, none⟩ = false := frozen_of_row _ _ _ _ _ H
theorem QyB.in {w : World} {h : Nat} {x : Qy} (H : QyB w h x) : w.cell? ⟨h, 0, none⟩ = some (.int .i64 x.kd) ∧ w.cell? ⟨h, 1, none⟩ = some (.int .i64 x.cl) ∧ w.cell? ⟨h, 2, none⟩ = some (.int .i64 x.rg.a.lo) ∧ w.cell? ⟨h, 3, none⟩ = some (.int .i64 x.rg.a.hi) ∧ w.cell? ⟨h, 4, none⟩ = some (.int .i64 x.rg.b.lo) ∧ w.cell? ⟨h, 5, none⟩ = some (.int .i64 x.rg.b.hi) ∧ w.cell? ⟨h, 6, none⟩ = some (.int .i64 x.rg.c.lo) ∧ w.cell? ⟨h, 7, none⟩ = some (.int .i64 x.rg.c.hi) ∧ w.cell? ⟨h, 8, none⟩ = some (.int .i64 x.rg.d.lo) ∧ w.cell? ⟨h, 9, none⟩ = some (.int .i64 x.rg.d.hi) ∧ w.cell? ⟨h, 10, none⟩ = some (.int .i64 x.rg.e.lo) ∧ w.cell? ⟨h, 11, none⟩ = some (.int .i64 x.rg.e.hi) ∧ w.cell? ⟨h, 12, none⟩ = some (.int .i64 x.lo) ∧ w.cell? ⟨h, 13, none⟩ = some (.int .i64 x.hi) ∧ w.cell? ⟨h, 14, none⟩ = some (.int .i64 x.f) ∧ w.cell? ⟨h, 15, none⟩ = some (.bool x.fa) ∧ w.cell? ⟨h, 16, none⟩ = some (.int .i64 x.bu) := by
  refine ⟨?_, ?_, ?_, ?_, ?_, ?_, ?_, ?_, ?_, ?_, ?_, ?_, ?_, ?_, ?_, ?_, ?_⟩ <;> (rw [cell_of_row _ _ _ _ _ _ H]; rfl)
theorem QyB.setKd {w : World} {h : Nat} {x : Qy} (H : QyB w h x) (y : Int) : QyB (w.setCell ⟨h, 0, none⟩ (.int .i64 y)) h { x with kd := y } := heap_setCell_same _ _ _ _ _ _ H
theorem QyB.setCl {w : World} {h : Nat} {x : Qy} (H : QyB w h x) (y : Int) : QyB (w.setCell ⟨h, 1, none⟩ (.int .i64 y)) h { x with cl := y } := heap_setCell_same _ _ _ _ _ _ H
theorem QyB.setLo {w : World} {h : Nat} {x : Qy} (H : QyB w h x) (y : Int) : QyB (w.setCell ⟨h, 12, none⟩ (.int .i64 y)) h { x with lo := y } := heap_setCell_same _ _ _ _ _ _ H
theorem QyB.setHi {w : World} {h : Nat} {x : Qy} (H : QyB w h x) (y : Int) : QyB (w.setCell ⟨h, 13, none⟩ (.int .i64 y)) h { x with hi := y } := heap_setCell_same _ _ _ _ _ _ H
theorem QyB.setF {w : World} {h : Nat} {x : Qy} (H : QyB w h x) (y : Int) : QyB (w.setCell ⟨h, 14, none⟩ (.int .i64 y)) h { x with f := y } := heap_setCell_same _ _ _ _ _ _ H
theorem QyB.setBu {w : World} {h : Nat} {x : Qy} (H : QyB w h x) (y : Int) : QyB (w.setCell ⟨h, 16, none⟩ (.int .i64 y)) h { x with bu := y } := heap_setCell_same _ _ _ _ _ _ H
theorem QyB.setFa {w : World} {h : Nat} {x : Qy} (H : QyB w h x) (y : Bool) : QyB (w.setCell ⟨h, 15, none⟩ (.bool y)) h { x with fa := y } := heap_setCell_same _ _ _ _ _ _ H
theorem QyB.rgA {w : World} {h : Nat} {x : Qy} (H : QyB w h x) (s : Sp) : QyB ((w.setCell ⟨h, 2, none⟩ (.int .i64 s.lo)).setCell ⟨h, 3, none⟩ (.int .i64 s.hi)) h { x with rg := { x.rg with a := s } } := heap_setCell_same _ _ _ _ _ _ (heap_setCell_same _ _ _ _ _ _ H)
theorem QyB.rgB {w : World} {h : Nat} {x : Qy} (H : QyB w h x) (s : Sp) : QyB ((w.setCell ⟨h, 4, none⟩ (.int .i64 s.lo)).setCell ⟨h, 5, none⟩ (.int .i64 s.hi)) h { x with rg := { x.rg with b := s } } := heap_setCell_same _ _ _ _ _ _ (heap_setCell_same _ _ _ _ _ _ H)
theorem QyB.rgC {w : World} {h : Nat} {x : Qy} (H : QyB w h x) (s : Sp) : QyB ((w.setCell ⟨h, 6, none⟩ (.int .i64 s.lo)).setCell ⟨h, 7, none⟩ (.int .i64 s.hi)) h { x with rg := { x.rg with c := s } } := heap_setCell_same _ _ _ _ _ _ (heap_setCell_same _ _ _ _ _ _ H)
theorem QyB.rgD {w : World} {h : Nat} {x : Qy} (H : QyB w h x) (s : Sp) : QyB ((w.setCell ⟨h, 8, none⟩ (.int .i64 s.lo)).setCell ⟨h, 9, none⟩ (.int .i64 s.hi)) h { x with rg := { x.rg with d := s } } := heap_setCell_same _ _ _ _ _ _ (heap_setCell_same _ _ _ _ _ _ H)
theorem QyB.rgE {w : World} {h : Nat} {x : Qy} (H : QyB w h x) (s : Sp) : QyB ((w.setCell ⟨h, 10, none⟩ (.int .i64 s.lo)).setCell ⟨h, 11, none⟩ (.int .i64 s.hi)) h { x with rg := { x.rg with e := s } } := heap_setCell_same _ _ _ _ _ _ (heap_setCell_same _ _ _ _ _ _ H)
def putQ (w : World) (h : Nat) (x : Qy) : World := ((((((((((((((((w.setCell ⟨h, 0, none⟩ (.int .i64 x.kd)).setCell ⟨h, 1, none⟩ (.int .i64 x.cl)).setCell ⟨h, 2, none⟩ (.int .i64 x.rg.a.lo)).setCell ⟨h, 3, none⟩ (.int .i64 x.rg.a.hi)).setCell ⟨h, 4, none⟩ (.int .i64 x.rg.b.lo)).setCell ⟨h, 5, none⟩ (.int .i64 x.rg.b.hi)).setCell ⟨h, 6, none⟩ (.int .i64 x.rg.c.lo)).setCell ⟨h, 7, none⟩ (.int .i64 x.rg.c.hi)).setCell ⟨h, 8, none⟩ (.int .i64 x.rg.d.lo)).setCell ⟨h, 9, none⟩ (.int .i64 x.rg.d.hi)).setCell ⟨h, 10, none⟩ (.int .i64 x.rg.e.lo)).setCell ⟨h, 11, none⟩ (.int .i64 x.rg.e.hi)).setCell ⟨h, 12, none⟩ (.int .i64 x.lo)).setCell ⟨h, 13, none⟩ (.int .i64 x.hi)).setCell ⟨h, 14, none⟩ (.int .i64 x.f)).setCell ⟨h, 15, none⟩ (.bool x.fa)).setCell ⟨h, 16, none⟩ (.int .i64 x.bu)
theorem putQ_is {w : World} {h : Nat} {x0 : Qy} (H : QyB w h x0) (x : Qy) : QyB (putQ w h x) h x := (((((((((((H.setKd x.kd).setCl x.cl).rgA x.rg.a).rgB x.rg.b).rgC x.rg.c).rgD x.rg.d).rgE x.rg.e).setLo x.lo).setHi x.hi).setF x.f).setFa x.fa).setBu x.bu
theorem putQ_jk {a w : World} (H : Jk a w) {h : Nat} (hb : a.heap.size ≤ h) (x : Qy) : Jk a (putQ w h x) := (((((((((((((((((H.set hb _).set hb _).set hb _).set hb _).set hb _).set hb _).set hb _).set hb _).set hb _).set hb _).set hb _).set hb _).set hb _).set hb _).set hb _).set hb _).set hb _)
/-- numbers of a query in a block of their own -/
def AkIn (w : World) (h : Nat) (x : Ak) : Prop := h < w.heap.size ∧ w.cell? ⟨h, 0, none⟩ = some (.int .i64 x.kd) ∧ w.cell? ⟨h, 1, none⟩ = some (.int .i64 x.cl) ∧ w.cell? ⟨h, 2, none⟩ = some (.int .i64 x.lo) ∧ w.cell? ⟨h, 3, none⟩ = some (.int .i64 x.sz) ∧ w.cell? ⟨h, 4, none⟩ = some (.int .i64 x.f) ∧ w.cell? ⟨h, 5, none⟩ = some (.int .i64 x.bu) ∧ w.cell? ⟨h, 6, none⟩ = some (.bool x.fa) ∧ w.cell? ⟨h, 7, none⟩ = some (.slice x.sa x.sn x.sc)
theorem AkIn.jk {w w' : World} {h : Nat} {x : Ak} (H : AkIn w h x) (hj : Jk w w') : AkIn w' h x := by
  obtain ⟨h0, h1, h2, h3, h4, h5, h6, h7, h8⟩ := H
  have e := fun i => hj.below.cell (p := ⟨h, i, none⟩) h0
  exact ⟨Nat.lt_of_lt_of_le h0 hj.below.size, (e 0).trans h1, (e 1).trans h2, (e 2).trans h3, (e 3).trans h4, (e 4).trans h5, (e 5).trans h6, (e 6).trans h7, (e 7).trans h8⟩
theorem AkIn.laid (w : World) (x : Ak) (t : TypeId) : AkIn (w.alloc (.cells #[.int .i64 x.kd, .int .i64 x.cl, .int .i64 x.lo, .int .i64 x.sz, .int .i64 x.f, .int .i64 x.bu, .bool x.fa, .slice x.sa x.sn x.sc] t)) w.heap.size x :=
  ⟨by simp, World.cell?_alloc_at _ _ _ _ rfl, World.cell?_alloc_at _ _ _ _ rfl, World.cell?_alloc_at _ _ _ _ rfl, World.cell?_alloc_at _ _ _ _ rfl, World.cell?_alloc_at _ _ _ _ rfl, World.cell?_alloc_at _ _ _ _ rfl, World.cell?_alloc_at _ _ _ _ rfl, World.cell?_alloc_at _ _ _ _ rfl⟩
theorem grown_putQ (w : World) (h : Nat) (x : Qy) : w.grownBy (putQ w h x) (some h) := ((((((((((((((((grown_set w h 0 _).trans (grown_set _ h 1 _)).trans (grown_set _ h 2 _)).trans (grown_set _ h 3 _)).trans (grown_set _ h 4 _)).trans (grown_set _ h 5 _)).trans (grown_set _ h 6 _)).trans (grown_set _ h 7 _)).trans (grown_set _ h 8 _)).trans (grown_set _ h 9 _)).trans (grown_set _ h 10 _)).trans (grown_set _ h 11 _)).trans (grown_set _ h 12 _)).trans (grown_set _ h 13 _)).trans (grown_set _ h 14 _)).trans (grown_set _ h 15 _)).trans (grown_set _ h 16 _)
theorem setQ (w : World) (h : Nat) (q : Qy) : w.setCells h 0 [.int .i64 q.kd, .int .i64 q.cl, .int .i64 q.rg.a.lo, .int .i64 q.rg.a.hi, .int .i64 q.rg.b.lo, .int .i64 q.rg.b.hi, .int .i64 q.rg.c.lo, .int .i64 q.rg.c.hi, .int .i64 q.rg.d.lo, .int .i64 q.rg.d.hi, .int .i64 q.rg.e.lo, .int .i64 q.rg.e.hi, .int .i64 q.lo, .int .i64 q.hi, .int .i64 q.f, .bool q.fa, .int .i64 q.bu] = putQ w h q := rfl
theorem infoQ : (Tryz.prog.info? 38).map (·.size) = some 17 := by kernel_rfl
/-- A QUERY STORED over another one: one word for the world behind it -/
theorem wp_storeQ {op : Oper} {a : Act} {w : World} {K : Act → World → Prop} {Q : Exit → Act → World → Prop} (x y : Operand) (ho : op.op = .store 38 x y) {h : Nat} {q0 : Qy} (H : QyB w h q0) (hx : a.eval x = .pointer (some ⟨h, 0, none⟩)) (q : Qy) (hy : a.eval y = queryV q)
    (hK : ∀ w', QyB w' h q → w.grownBy w' (some h) → K (a.put op.dst undef) w') : op.wp Tryz.prog a w K Q := by
  refine wp_store_mid (P := Tryz.prog) 38 x y ho h 0 _ hx hy ?_ infoQ (by simp [Value.oneCell']) ?_
  · intro j hj
    obtain ⟨x0, x1, x2, x3, x4, x5, x6, x7, x8, x9, x10, x11, x12, x13, x14, x15, x16⟩ := H.in
    refine ⟨?_, H.frozen _⟩
    have hj' : j < 17 := hj
    rw [Nat.zero_add]
    match j, hj' with
    | 0, _ => rw [x0]; rfl
    | 1, _ => rw [x1]; rfl
    | 2, _ => rw [x2]; rfl
    | 3, _ => rw [x3]; rfl
    | 4, _ => rw [x4]; rfl
    | 5, _ => rw [x5]; rfl
    | 6, _ => rw [x6]; rfl
    | 7, _ => rw [x7]; rfl
    | 8, _ => rw [x8]; rfl
    | 9, _ => rw [x9]; rfl
    | 10, _ => rw [x10]; rfl
    | 11, _ => rw [x11]; rfl
    | 12, _ => rw [x12]; rfl
    | 13, _ => rw [x13]; rfl
    | 14, _ => rw [x14]; rfl
    | 15, _ => rw [x15]; rfl
    | 16, _ => rw [x16]; rfl
    | j + 17, hj => omega
  · exact hK (putQ w h q) (putQ_is H q) (grown_putQ w h q)
theorem step_storeQ {ops : Array Oper} {o : Oper} {act : Act} {K : Act → World → Prop} {Q : Exit → Act → World → Prop} {E : Prop} {w : World} (hgd : o.guard = none) (x y : Operand) (ho : o.op = .store 38 x y) {h : Nat} {q0 : Qy} (H : QyB w h q0) (hx : act.eval x = .pointer (some ⟨h, 0, none⟩)) (q : Qy) (hy : act.eval y = queryV q)
    (hK : ∀ w', QyB w' h q → w.grownBy w' (some h) → K (act.put o.dst undef) w') : if Region.wanted o (yielded ops act.tmps) = true then Oper.wp Tryz.prog o act w K Q else E := by
  have hw : Region.wanted o (yielded ops act.tmps) = true := by simp [Region.wanted, hgd]
  rw [if_pos hw]
  exact wp_storeQ x y ho H hx q hy hK
theorem list_storeQ {ops : Array Oper} {rest : List Oper} {o : Oper} {act : Act} {Q : Exit → Act → World → Prop} {w : World} (hgd : o.guard = none) (x y : Operand) (ho : o.op = .store 38 x y) {h : Nat} {q0 : Qy} (H : QyB w h q0) (hx : act.eval x = .pointer (some ⟨h, 0, none⟩)) (q : Qy) (hy : act.eval y = queryV q)
    (hK : ∀ w', QyB w' h q → w.grownBy w' (some h) → wpList Tryz.prog ops Q rest (act.put o.dst undef) w') : wpList Tryz.prog ops Q (o :: rest) act w :=
  wpList_plain hgd fun _ hK' => wp_storeQ x y ho H hx q hy fun w' h1 h2 => hK' _ _ (hK w' h1 h2)
/-- a function whose one result lies in memory -/
theorem results_cell {fn : Func} {a : Tmp} {t : TypeId} (h : fn.results = #[.cell a t]) {tmps : Array Value} {p : Addr} (hp : tmps.getD a undef = .pointer (some p)) {P : Program} {w : World} {v : Value} (hl : (loadVar t p).run P w = .ok v w) : (results fn tmps).run P w = .ok v w := by
  have hp' : tmps[a]?.getD undef = .pointer (some p) := by simpa using hp
  simp [results, h, hp', asAddr, hl]
theorem load_Q {w : World} {h : Nat} {q : Qy} (H : QyB w h q) : (loadVar 38 ⟨h, 0, none⟩).run Tryz.prog w = .ok (queryV q) w := run_loadVar_row w h _ _ _ _ _ H Tryz.underlying38 rfl (by kernel_rfl)
theorem loadAt_Q {w : World} {h : Nat} {q : Qy} (H : QyB w h q) : (Instr.loadAt 38 (.pointer (some ⟨h, 0, none⟩))).run Tryz.prog w = .ok (queryV q) w := by
  simp only [Instr.loadAt, Instr.sureAddr, Sem.run_bind, Sem.run_pure, Result.andThen_ok, load_Q H]
/-- the same in every world behind it: rules for a walk -/
theorem loadAt_Qs {w : World} {h : Nat} {q : Qy} (H : QyB w h q) : (Instr.loadAt 38 (.pointer (some ⟨h, 0, none⟩))).run Tryz.prog w = .ok (queryV q) w ∧ (∀ X, (Instr.loadAt 38 (.pointer (some ⟨h, 0, none⟩))).run Tryz.prog (junk w X) = .ok (queryV q) (junk w X)) ∧ (∀ X o, (Instr.loadAt 38 (.pointer (some ⟨h, 0, none⟩))).run Tryz.prog ((junk w X).alloc o) = .ok (queryV q) ((junk w X).alloc o)) ∧ (∀ X Y, (Instr.loadAt 38 (.pointer (some ⟨h, 0, none⟩))).run Tryz.prog (junk (junk w X) Y) = .ok (queryV q) (junk (junk w X) Y)) ∧ (∀ X Y Z, (Instr.loadAt 38 (.pointer (some ⟨h, 0, none⟩))).run Tryz.prog (junk (junk (junk w X) Y) Z) = .ok (queryV q) (junk (junk (junk w X) Y) Z)) :=
  ⟨loadAt_Q H, fun X => loadAt_Q (H.jk ⟨X, rfl⟩), fun X o => loadAt_Q ((H.jk ⟨X, rfl⟩).jk ((Jk.refl _).alloc o)), fun X Y => loadAt_Q ((H.jk ⟨X, rfl⟩).jk ⟨Y, rfl⟩), fun X Y Z => loadAt_Q (((H.jk ⟨X, rfl⟩).jk ⟨Y, rfl⟩).jk ⟨Z, rfl⟩)⟩
theorem QyB.drew {w : World} {h : Nat} {x : Qy} (H : QyB w h x) : QyB w.drew h x := H
theorem list_loadQ {ops : Array Oper} {rest : List Oper} {o : Oper} {act : Act} {Q : Exit → Act → World → Prop} {w : World} (hgd : o.guard = none) (x : Operand) (ho : o.op = .load 38 x) {h : Nat} {q : Qy} (H : QyB w h q) (hx : act.eval x = .pointer (some ⟨h, 0, none⟩))
    (hK : wpList Tryz.prog ops Q rest (act.put o.dst (queryV q)) w) : wpList Tryz.prog ops Q (o :: rest) act w :=
  wpList_plain hgd fun _ hK' => wp_load_row 38 x ho h hx _ _ _ _ H Tryz.underlying38 rfl (by kernel_rfl) (hK' _ _ hK)

end Go.Proofs.YtkkbeobocbgmeaaGreat
