/- What Empty, Has, Within and Low of package box answer, for every box: loops of five rounds, each walked.
   The contracts of package box once more, each a word of its own with the answer a letter. -/
import Derived.Test.YtkkbeobocbgmeaaGreatSpanIs
import Derived.Test.YtkkbeobocbgmeaaGreatBoxV
import Derived.Handy
import Derived.Test.YtkkbeobocbgmeaaGreatJunk
namespace Go.Proofs.YtkkbeobocbgmeaaGreat
open Go.RowKit M


theorem px0 (p : Pt) (w : World) : (Instr.index 70 (ptV p) (.int .i64 0)).run Tryz.prog w = .ok (.int .i64 p.a) w := by kernel_rfl
theorem px1 (p : Pt) (w : World) : (Instr.index 70 (ptV p) (.int .i64 1)).run Tryz.prog w = .ok (.int .i64 p.b) w := by kernel_rfl
theorem px2 (p : Pt) (w : World) : (Instr.index 70 (ptV p) (.int .i64 2)).run Tryz.prog w = .ok (.int .i64 p.c) w := by kernel_rfl
theorem px3 (p : Pt) (w : World) : (Instr.index 70 (ptV p) (.int .i64 3)).run Tryz.prog w = .ok (.int .i64 p.d) w := by kernel_rfl



set_option maxRecDepth 100000 in
set_option maxHeartbeats 1600000 in
theorem blow_any (x : Bx) (w : World) : Calls Tryz.prog 25 #[boxV x] w fun e w' => e = .returned (ptV x.lowest) ∧ Jk w w' := by
  go_enter Tryz.func25, Tryz.ntmps25
  go_wp2_with fail
  refine wp_loop_rounds 5 ?_
  repeat any_goals (rw [rounds_succ]; go_wp2)
  refine bodyPost_ret (v := ptV x.lowest) (by simp [results, Tryz.results25, go_sem, Bx.lowest]) rfl ⟨rfl, ?_⟩
  repeat (with_reducible first | exact Jk.refl _ | apply Jk.junk | apply Jk.alloc)

end Go.Proofs.YtkkbeobocbgmeaaGreat

namespace Go.Proofs.YtkkbeobocbgmeaaGreat
open Go.RowKit M

abbrev ptO (p : Pt) : Obj := .cells #[.int .i64 p.a, .int .i64 p.b, .int .i64 p.c, .int .i64 p.d] 70



theorem a_low {x : Bx} {p : Pt} (h : x.lowest = p) : Ans 25 #[boxV x] (ptV p) := fun w => h ▸ blow_any x w

end Go.Proofs.YtkkbeobocbgmeaaGreat
