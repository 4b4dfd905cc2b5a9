/- What Empty, Has, Within and Low of package box answer, for every box: loops of five rounds, each walked. -/
import Derived.Test.YtkkbeobocbgmeaaSpanIs
import Derived.Test.YtkkbeobocbgmeaaBoxV
import Derived.Handy
namespace Go.Proofs.Ytkkbeobocbgmeaa
open Go.RowKit M

set_option maxRecDepth 100000 in
set_option maxHeartbeats 1600000 in
theorem bempty_any (x : Bx) (w : World) : Calls Try.prog 19 #[boxV x] w fun e w' => e = .returned (.bool x.em) ∧ Jk w w' := by
  have J := rules20
  have i0 := ix0 x
  have i1 := ix1 x
  have i2 := ix2 x
  have i3 := ix3 x
  have i4 := ix4 x
  go_enter Try.func19, Try.ntmps19
  go_wp2_with fail
  refine wp_loop_rounds 6 ?_
  repeat any_goals (rw [rounds_succ]; go_wp2_with (first | (go_at_call 35; refine (empty_any _ _ _).mono ?_; rintro e w1 ⟨rfl, X, rfl⟩)))
  all_goals
    go_ret
    refine ⟨ret_bool (by simp [Bx.em, Sp.em, *]), ?_⟩
    repeat (with_reducible first | exact Jk.refl _ | apply Jk.junk | apply Jk.alloc)

theorem px0 (p : Pt) (w : World) : (Instr.index 52 (ptV p) (.int .i64 0)).run Try.prog w = .ok (.int .i64 p.a) w := by kernel_rfl
theorem px1 (p : Pt) (w : World) : (Instr.index 52 (ptV p) (.int .i64 1)).run Try.prog w = .ok (.int .i64 p.b) w := by kernel_rfl
theorem px2 (p : Pt) (w : World) : (Instr.index 52 (ptV p) (.int .i64 2)).run Try.prog w = .ok (.int .i64 p.c) w := by kernel_rfl
theorem px3 (p : Pt) (w : World) : (Instr.index 52 (ptV p) (.int .i64 3)).run Try.prog w = .ok (.int .i64 p.d) w := by kernel_rfl

set_option maxRecDepth 100000 in
set_option maxHeartbeats 1600000 in
theorem bhas_any (x : Bx) (p : Pt) (t : Int) (w : World) : Calls Try.prog 20 #[boxV x, ptV p, .int .i64 t] w fun e w' => e = .returned (.bool (x.has p t)) ∧ Jk w w' := by
  have J := rules20
  have i0 := px0 p
  have i1 := px1 p
  have i2 := px2 p
  have i3 := px3 p
  go_enter Try.func20, Try.ntmps20
  go_wp2_with fail
  refine wp_loop_rounds 5 ?_
  repeat any_goals (rw [rounds_succ]; go_wp2_with (first | (go_at_call 36; refine (has_any _ _ _ _).mono ?_; rintro e w1 ⟨rfl, X, rfl⟩)))
  all_goals
    go_ret
    refine ⟨ret_bool (by simp_all [Bx.has, Sp.has]), ?_⟩
    repeat (with_reducible first | exact Jk.refl _ | apply Jk.junk | apply Jk.alloc)

set_option maxRecDepth 100000 in
set_option maxHeartbeats 1600000 in
theorem bwithin_any (x y : Bx) (w : World) : Calls Try.prog 18 #[boxV x, boxV y] w fun e w' => e = .returned (.bool (x.inn y)) ∧ Jk w w' := by
  have J := rules20
  cases he : x.em with
  | true =>
    have hr : x.inn y = true := by simp [Bx.inn, he]
    rw [hr]
    go_enter Try.func18, Try.ntmps18
    go_wp2_with (first | (go_at_call 19; refine (bempty_any _ _).mono ?_; rintro e w1 ⟨rfl, X, rfl⟩; simp only [he]))
    go_ret
    refine ⟨rfl, ?_⟩
    repeat (with_reducible first | exact Jk.refl _ | apply Jk.junk | apply Jk.alloc)
  | false =>
    have hr : x.inn y = (x.a.inn y.a && x.b.inn y.b && x.c.inn y.c && x.d.inn y.d && x.e.inn y.e) := by simp [Bx.inn, he]
    rw [hr]
    clear hr
    go_enter Try.func18, Try.ntmps18
    go_wp2_with (first | (go_at_call 19; refine (bempty_any _ _).mono ?_; rintro e w1 ⟨rfl, X, rfl⟩; simp only [he]))
    refine wp_loop_rounds 6 ?_
    repeat any_goals
      rw [rounds_succ]
      go_wp2_with fail
      try
        refine region_junk (by kernel_rfl) (by kernel_rfl) ?_
        repeat (go_big_quiet_step (first | (go_at_call 34; exact on_junk (within_span _ _ _ _) _) | exact rfl))
        refine wpQuiet_nil ?_
        rintro _ ⟨X, rfl⟩
        go_wp2_with fail
    all_goals
      go_ret
      refine ⟨ret_bool (by simp_all [Sp.inn]), ?_⟩
      repeat (with_reducible first | exact Jk.refl _ | apply Jk.junk | apply Jk.alloc)

set_option maxRecDepth 100000 in
set_option maxHeartbeats 1600000 in
theorem blow_any (x : Bx) (w : World) : Calls Try.prog 28 #[boxV x] w fun e w' => e = .returned (ptV x.lowest) ∧ Jk w w' := by
  go_enter Try.func28, Try.ntmps28
  go_wp2_with fail
  refine wp_loop_rounds 5 ?_
  repeat any_goals (rw [rounds_succ]; go_wp2)
  refine bodyPost_ret (v := ptV x.lowest) (by simp [results, Try.results28, go_sem, Bx.lowest]) rfl ⟨rfl, ?_⟩
  repeat (with_reducible first | exact Jk.refl _ | apply Jk.junk | apply Jk.alloc)

end Go.Proofs.Ytkkbeobocbgmeaa
