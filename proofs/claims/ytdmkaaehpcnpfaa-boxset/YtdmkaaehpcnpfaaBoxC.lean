/- What Whole of package box and copsebook.Clamp answer, for every argument. -/
import Derived.Test.YtdmkaaehpcnpfaaBoxA
namespace Go.Proofs.Ytdmkaaehpcnpfaa
open Go.RowKit M

theorem clamp_any (n lo hi : Int) (w : World) (h : lo ≤ hi) : Calls Try.prog 20 #[.int .i64 n, .int .i64 lo, .int .i64 hi] w fun e w' => e = .returned (.int .i64 (max lo (min n hi))) ∧ w' = w := by
  go_enter Try.func20, Try.ntmps20
  go_wp2
  all_goals
    go_ret
    exact ⟨ret_int (by omega), rfl⟩

set_option maxRecDepth 100000 in
set_option maxHeartbeats 1600000 in
theorem whole_any (k : Int) (s : Sp) (w : World) : Calls Try.prog 9 #[.int .i64 k, spV s] w fun e w' => e = .returned (boxV (Bx.whole k s)) ∧ Jk w w' := by
  have hc : k ≤ 0 ∨ k = 1 ∨ k = 2 ∨ k = 3 ∨ k = 4 ∨ 5 ≤ k := by omega
  rcases hc with h | rfl | rfl | rfl | rfl | h
  · have hr : Bx.whole k s = Bx.nil := by simp [Bx.whole, Bx.nil, show ¬ 1 ≤ k by omega, show ¬ 2 ≤ k by omega, show ¬ 3 ≤ k by omega, show ¬ 4 ≤ k by omega]
    rw [hr]
    clear hr
    go_enter Try.func9, Try.ntmps9
    go_wp2_with fail
    refine wp_loop_rounds 1 ?_
    repeat any_goals (rw [rounds_succ]; go_wp2)
    all_goals
      refine bodyPost_ret (v := boxV Bx.nil) (by simp [results, Try.results9, go_sem, Bx.nil, Sp.nil]) rfl ⟨rfl, ?_⟩
      repeat (with_reducible first | exact Jk.refl _ | apply Jk.junk | apply Jk.alloc)
  · go_enter Try.func9, Try.ntmps9
    go_wp2_with fail
    refine wp_loop_rounds 2 ?_
    repeat any_goals (rw [rounds_succ]; go_wp2)
    all_goals
      refine bodyPost_ret (v := boxV (Bx.whole 1 s)) (by simp [results, Try.results9, go_sem, Bx.whole, Sp.nil]) rfl ⟨rfl, ?_⟩
      repeat (with_reducible first | exact Jk.refl _ | apply Jk.junk | apply Jk.alloc)
  · go_enter Try.func9, Try.ntmps9
    go_wp2_with fail
    refine wp_loop_rounds 3 ?_
    repeat any_goals (rw [rounds_succ]; go_wp2)
    all_goals
      refine bodyPost_ret (v := boxV (Bx.whole 2 s)) (by simp [results, Try.results9, go_sem, Bx.whole, Sp.nil]) rfl ⟨rfl, ?_⟩
      repeat (with_reducible first | exact Jk.refl _ | apply Jk.junk | apply Jk.alloc)
  · go_enter Try.func9, Try.ntmps9
    go_wp2_with fail
    refine wp_loop_rounds 4 ?_
    repeat any_goals (rw [rounds_succ]; go_wp2)
    all_goals
      refine bodyPost_ret (v := boxV (Bx.whole 3 s)) (by simp [results, Try.results9, go_sem, Bx.whole, Sp.nil]) rfl ⟨rfl, ?_⟩
      repeat (with_reducible first | exact Jk.refl _ | apply Jk.junk | apply Jk.alloc)
  · go_enter Try.func9, Try.ntmps9
    go_wp2_with fail
    refine wp_loop_rounds 5 ?_
    repeat any_goals (rw [rounds_succ]; go_wp2)
    all_goals
      refine bodyPost_ret (v := boxV (Bx.whole 4 s)) (by simp [results, Try.results9, go_sem, Bx.whole, Sp.nil]) rfl ⟨rfl, ?_⟩
      repeat (with_reducible first | exact Jk.refl _ | apply Jk.junk | apply Jk.alloc)
  · have hr : Bx.whole k s = ⟨s, s, s, s, Sp.nil⟩ := by simp [Bx.whole, show 1 ≤ k by omega, show 2 ≤ k by omega, show 3 ≤ k by omega, show 4 ≤ k by omega]
    rw [hr]
    clear hr
    go_enter Try.func9, Try.ntmps9
    go_wp2_with fail
    refine wp_loop_rounds 5 ?_
    repeat any_goals (rw [rounds_succ]; go_wp2)
    all_goals
      refine bodyPost_ret (v := boxV ⟨s, s, s, s, Sp.nil⟩) (by simp [results, Try.results9, go_sem, Sp.nil]) rfl ⟨rfl, ?_⟩
      repeat (with_reducible first | exact Jk.refl _ | apply Jk.junk | apply Jk.alloc)

end Go.Proofs.Ytdmkaaehpcnpfaa
