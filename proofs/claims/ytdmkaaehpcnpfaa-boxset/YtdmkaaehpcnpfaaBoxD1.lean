/- What Cut of package box answers at place 1, for every box and every int (the runs of chapter 5 need no other). -/
import Derived.Test.YtdmkaaehpcnpfaaBoxA
import Derived.BigRegion
namespace Go.Proofs.Ytdmkaaehpcnpfaa
open Go.RowKit M

set_option maxRecDepth 100000 in
set_option maxHeartbeats 1600000 in
theorem cut_1 (x : Bx) (t : Int) (w : World) (a1 : -9223372036854775808 ≤ x.b.lo) (b2 : x.b.hi ≤ 9223372036854775807) (t1 : -9223372036854775808 ≤ t) (t2 : t ≤ 9223372036854775807) : Calls Try.prog 10 #[boxV x, .int .i64 1, .int .i64 t] w fun e w' => e = .returned (.tuple #[boxV { x with b := x.b.low t }, boxV { x with b := x.b.upp t }]) ∧ Jk w w' := by
  have C : Hid (∀ w : World, Calls Try.prog 23 #[spanV x.b.lo x.b.hi, .int .i64 t] w fun e w' => e = .returned (.tuple #[spanV (x.b.low t).lo (x.b.low t).hi, spanV (x.b.upp t).lo (x.b.upp t).hi]) ∧ Jk w w') := fun w => cut_any _ _ _ w a1 b2 t1 t2
  clear a1 b2 t1 t2
  generalize x.b.low t = l at C
  generalize x.b.upp t = u at C
  have J := rules8
  go_enter Try.func10, Try.ntmps10
  go_wp2_with fail
  go_region
  all_goals
    go_wp2_with (first | (go_at_call 23; refine (C.out _).mono ?_; rintro e w1 ⟨rfl, X1, rfl⟩))
    go_region
    all_goals
      go_wp2
      refine bodyPost_ret (v := .tuple #[boxV { x with b := l }, boxV { x with b := u }]) (by simp [results, Try.results10, go_sem, J]) rfl ⟨rfl, ?_⟩
      repeat (with_reducible first | exact Jk.refl _ | apply Jk.junk | apply Jk.alloc | apply Jk.drew)

end Go.Proofs.Ytdmkaaehpcnpfaa
