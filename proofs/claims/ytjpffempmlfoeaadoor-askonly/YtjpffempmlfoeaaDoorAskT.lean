/- What told and numbersFit of package ask answer. No conditions beyond those written. -/
import Derived.Test.YtjpffempmlfoeaaDoorAskL
import Derived.Test.YtjpffempmlfoeaaDoorBoxQ
import Derived.Laws.CopyRow
import Derived.Laws.CopyOwn
namespace Go.Proofs.YtjpffempmlfoeaaDoor
open Go.RowKit M

/-- the first spans of a region -/
def cutBx (d : Nat) (b : Bx) : Bx := ⟨b.a, if 2 ≤ d then b.b else Sp.nil, if 3 ≤ d then b.c else Sp.nil, if 4 ≤ d then b.d else Sp.nil, Sp.nil⟩
def toldI (q : Qy) (d : Nat) : Qy := ⟨q.kd, q.cl, cutBx d q.rg, if q.kd = 1 then q.lo else 0, if q.kd = 1 then q.hi else 0, if q.kd = 3 then q.f else 0, if q.kd = 3 then q.fa else false, q.bu⟩
def spansV (b : Bx) : List Value := [.int .i64 b.a.lo, .int .i64 b.a.hi, .int .i64 b.b.lo, .int .i64 b.b.hi, .int .i64 b.c.lo, .int .i64 b.c.hi, .int .i64 b.d.lo, .int .i64 b.d.hi, .int .i64 b.e.lo, .int .i64 b.e.hi]
theorem run_cutR (w : World) (h d : Nat) (h4 : d ≤ 4) : (Instr.sliceAt 25 (.pointer (some ⟨h, 2, none⟩)) none (some (.int .i64 (d : Int))) none).run Tryd.prog w = .ok (.slice (some ⟨h, 2, none⟩) d 5) w := by
  have hal : Tryd.prog.arrayLen 25 = 5 := by kernel_rfl
  have hsz : (sizeOf (Tryd.prog.elem 25)).run Tryd.prog w = .ok 2 w := by kernel_rfl
  rw [run_sliceAt_array_h (P := Tryd.prog) w 25 ⟨h, 2, none⟩ (by kernel_rfl) .i64 (d : Int) (by omega) (by rw [hal]; omega), hsz]
  simp [slicedAt, hal, add_at]
theorem grown_setRow (w : World) (h : Nat) (cs : Array Value) : w.grownBy (w.setRow h cs) (some h) := ⟨rfl, rfl, rfl, by simp [World.setRow], fun k _ hk => setRow_other w h k cs (by simpa using hk)⟩
theorem infoSp : (Tryd.prog.info? 23).map (·.size) = some 2 := by kernel_rfl
set_option maxRecDepth 100000 in
theorem copy_rg {w : World} {g h : Nat} {q t : Qy} (Hq : QyB w g q) (Ht : QyB w h t) (hn : t.rg = Bx.nil) {d : Nat} (h1 : 1 ≤ d) (h4 : d ≤ 4) (ty : TypeId) :
    ∃ w2, (Builtin.copy_ #[56, 56] ty #[.slice (some ⟨h, 2, none⟩) d 5, .slice (some ⟨g, 2, none⟩) d 5]).run Tryd.prog w = .ok (goInt d) w2 ∧ QyB w2 h { t with rg := cutBx d q.rg } ∧ w.grownBy w2 (some h) := by
  have hsz : ∀ w : World, (sizeOf 23).run Tryd.prog w = .ok 2 w := fun w => by kernel_rfl
  obtain ⟨x0, x1, x2, x3, x4, x5, x6, x7, x8, x9, x10, x11, x12, x13, x14, x15, x16⟩ := Hq.in
  have hcs : ((spansV q.rg).take (d * 2)).length = d * 2 := by
    rw [List.length_take]
    show min (d * 2) 10 = _
    omega
  have hf := run_firstCells_some (P := Tryd.prog) (w := w) 2 d ⟨g, 2, none⟩ d 5 ((spansV q.rg).take (d * 2)) hcs (fun j v hj => by
    have hlt : j < d * 2 := by
      have := (List.getElem?_eq_some_iff.1 hj).1
      omega
    rw [List.getElem?_take_of_lt hlt] at hj
    have h10 : j < 10 := by omega
    rw [add_at]
    match j, h10 with
    | 0, _ => cases hj; exact x2
    | 1, _ => cases hj; exact x3
    | 2, _ => cases hj; exact x4
    | 3, _ => cases hj; exact x5
    | 4, _ => cases hj; exact x6
    | 5, _ => cases hj; exact x7
    | 6, _ => cases hj; exact x8
    | 7, _ => cases hj; exact x9
    | 8, _ => cases hj; exact x10
    | 9, _ => cases hj; exact x11
    | j + 10, hj => omega)
  have hst := run_storeCells_at (P := Tryd.prog) h 2 27 ((spansV q.rg).take (d * 2)) 0 _ w Ht (by rw [hcs]; show 2 + 0 + d * 2 ≤ 17; omega) (fun v hv => by
    have := List.mem_of_mem_take hv
    simp [spansV] at this
    rcases this with rfl | rfl | rfl | rfl | rfl | rfl | rfl | rfl | rfl | rfl <;> rfl)
  have hR : (((#[.int .i64 t.kd, .int .i64 t.cl, .int .i64 t.rg.a.lo, .int .i64 t.rg.a.hi, .int .i64 t.rg.b.lo, .int .i64 t.rg.b.hi, .int .i64 t.rg.c.lo, .int .i64 t.rg.c.hi, .int .i64 t.rg.d.lo, .int .i64 t.rg.d.hi, .int .i64 t.rg.e.lo, .int .i64 t.rg.e.hi, .int .i64 t.lo, .int .i64 t.hi, .int .i64 t.f, .bool t.fa, .int .i64 t.bu] : Array Value).toList.take (2 + 0) ++ (spansV q.rg).take (d * 2) ++ (#[.int .i64 t.kd, .int .i64 t.cl, .int .i64 t.rg.a.lo, .int .i64 t.rg.a.hi, .int .i64 t.rg.b.lo, .int .i64 t.rg.b.hi, .int .i64 t.rg.c.lo, .int .i64 t.rg.c.hi, .int .i64 t.rg.d.lo, .int .i64 t.rg.d.hi, .int .i64 t.rg.e.lo, .int .i64 t.rg.e.hi, .int .i64 t.lo, .int .i64 t.hi, .int .i64 t.f, .bool t.fa, .int .i64 t.bu] : Array Value).toList.drop (2 + 0 + ((spansV q.rg).take (d * 2)).length)).toArray) = (queryV { t with rg := cutBx d q.rg }).cells := by
    have : d = 1 ∨ d = 2 ∨ d = 3 ∨ d = 4 := by omega
    rcases this with rfl | rfl | rfl | rfl <;> rw [hn] <;> rfl
  rw [hR] at hst
  refine ⟨w.setRow h (queryV { t with rg := cutBx d q.rg }).cells, ?_, setRow_heap w h _ _ _ _ Ht, grown_setRow w h _⟩
  simp only [Builtin.copy_, List.getElem?_toArray, List.getElem?_cons_zero, List.getElem?_cons_succ, Sem.run_bind, run_underlying Tryd.underlying56, Result.andThen_ok, hsz, Builtin.lenOf, Sem.run_pure, Nat.min_def, Nat.le_refl, if_true, hf]
  simp only [hst, Result.andThen_ok]
end Go.Proofs.YtjpffempmlfoeaaDoor
