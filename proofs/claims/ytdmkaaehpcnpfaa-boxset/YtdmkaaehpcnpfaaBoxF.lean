/- What 'before' of package box and 'ahead' of the statements' package answer, for every two boxes: loops of five rounds, each walked. -/
import Derived.Test.YtdmkaaehpcnpfaaBoxA
import Derived.Test.YtdmkaaehpcnpfaaMathB5
namespace Go.Proofs.Ytdmkaaehpcnpfaa
open Go.RowKit M

set_option maxRecDepth 100000 in
set_option maxHeartbeats 4000000 in
theorem before_any (x y : Bx) (w : World) : Calls Try.prog 30 #[boxV x, boxV y] w fun e w' => e = .returned (.bool (x.bef y)) ∧ Jk w w' := by
  have J := rules20
  go_enter Try.func30, Try.ntmps30
  go_wp2_with fail
  refine wp_loop_rounds 6 ?_
  repeat any_goals
    rw [rounds_succ]
    go_wp2_with fail
    try
      refine region_junk (by kernel_rfl) (by kernel_rfl) ?_
      repeat (go_big_quiet_step (first | exact rfl))
      refine wpQuiet_nil ?_
      rintro _ ⟨X, rfl⟩
      go_wp2_with fail
  any_goals
    refine region_junk (by kernel_rfl) (by kernel_rfl) ?_
    repeat (go_big_quiet_step (first | exact rfl))
    refine wpQuiet_nil ?_
    rintro _ ⟨X, rfl⟩
    go_wp2_with fail
  any_goals
    refine wp_loop_rounds 6 ?_
  repeat any_goals
    rw [rounds_succ]
    go_wp2_with fail
    try
      refine region_junk (by kernel_rfl) (by kernel_rfl) ?_
      repeat (go_big_quiet_step (first | exact rfl))
      refine wpQuiet_nil ?_
      rintro _ ⟨X, rfl⟩
      go_wp2_with fail
  any_goals
    refine region_junk (by kernel_rfl) (by kernel_rfl) ?_
    repeat (go_big_quiet_step (first | exact rfl))
    refine wpQuiet_nil ?_
    rintro _ ⟨X, rfl⟩
    go_wp2_with fail
  all_goals
    go_ret
    clear J
    refine ⟨ret_bool (by simp_all [Bx.bef, Bx.nums, lexB]), ?_⟩
    repeat (with_reducible first | exact Jk.refl _ | apply Jk.junk | apply Jk.alloc)

set_option maxRecDepth 100000 in
set_option maxHeartbeats 4000000 in
theorem ahead_any (x y : Bx) (w : World) : Calls Try.prog 22 #[boxV x, boxV y] w fun e w' => e = .returned (.bool (x.bef y)) ∧ Jk w w' := by
  have J := rules20
  go_enter Try.func22, Try.ntmps22
  go_wp2_with fail
  refine wp_loop_rounds 6 ?_
  repeat any_goals
    rw [rounds_succ]
    go_wp2_with fail
    try
      refine region_junk (by kernel_rfl) (by kernel_rfl) ?_
      repeat (go_big_quiet_step (first | exact rfl))
      refine wpQuiet_nil ?_
      rintro _ ⟨X, rfl⟩
      go_wp2_with fail
  any_goals
    refine region_junk (by kernel_rfl) (by kernel_rfl) ?_
    repeat (go_big_quiet_step (first | exact rfl))
    refine wpQuiet_nil ?_
    rintro _ ⟨X, rfl⟩
    go_wp2_with fail
  any_goals
    refine wp_loop_rounds 6 ?_
  repeat any_goals
    rw [rounds_succ]
    go_wp2_with fail
    try
      refine region_junk (by kernel_rfl) (by kernel_rfl) ?_
      repeat (go_big_quiet_step (first | exact rfl))
      refine wpQuiet_nil ?_
      rintro _ ⟨X, rfl⟩
      go_wp2_with fail
  any_goals
    refine region_junk (by kernel_rfl) (by kernel_rfl) ?_
    repeat (go_big_quiet_step (first | exact rfl))
    refine wpQuiet_nil ?_
    rintro _ ⟨X, rfl⟩
    go_wp2_with fail
  all_goals
    go_ret
    clear J
    refine ⟨ret_bool (by simp_all [Bx.bef, Bx.nums, lexB]), ?_⟩
    repeat (with_reducible first | exact Jk.refl _ | apply Jk.junk | apply Jk.alloc)

end Go.Proofs.Ytdmkaaehpcnpfaa
