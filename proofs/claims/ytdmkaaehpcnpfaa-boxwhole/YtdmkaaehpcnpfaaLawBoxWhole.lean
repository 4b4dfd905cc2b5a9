/- The law BoxWhole of chapter 5 answers true for every int and every span: as many places as there are features have the span, all others nought. -/
import Derived.Test.YtdmkaaehpcnpfaaLawBoxRuns
namespace Go.Proofs.Ytdmkaaehpcnpfaa
open Go.RowKit M

/-- the walk, once it is known how many places have the span -/
theorem whole_0 (k : Int) (s : Sp) (w : World) (hw : Hid (∀ w, Calls Try.prog 9 #[.int .i64 k, spV s] w fun e w' => e = .returned (boxV ⟨Sp.nil, Sp.nil, Sp.nil, Sp.nil, Sp.nil⟩) ∧ Jk w w'))
    (hc : Hid (∀ w, Calls Try.prog 20 #[.int .i64 k, .int .i64 0, .int .i64 4] w fun e w' => e = .returned (.int .i64 0) ∧ w' = w)) :
    Calls Try.prog 6 #[.int .i64 k, spV s] w fun e w' => e = .returned (.bool true) ∧ Jk w w' := by
  have J := rules8
  go_enter Try.func6, Try.ntmps6
  go_wp2_with (first | (go_at_call 9; refine (hw.out _).mono ?_; rintro e w1 ⟨rfl, X1, rfl⟩; simp only [Sp.nil]) | (go_at_call 20; refine (hc.out _).mono ?_; rintro e w1 ⟨rfl, rfl⟩))
  refine wp_loop_rounds 6 ?_
  repeat any_goals
    rw [rounds_succ]
    go_wp2_with (first | (go_at_call 3; refine (boxRuns_any _).mono ?_; rintro e w1 ⟨rfl, X, rfl⟩))
    try
      refine region_junk (by kernel_rfl) (by kernel_rfl) ?_
      repeat (go_big_quiet_step (first | exact rfl))
      refine wpQuiet_nil ?_
      rintro _ ⟨X, rfl⟩
      go_wp2_with fail
  all_goals
    go_ret
    refine ⟨rfl, ?_⟩
    repeat (with_reducible first | exact Jk.refl _ | apply Jk.junk | apply Jk.alloc)

theorem whole_1 (k : Int) (s : Sp) (w : World) (hw : Hid (∀ w, Calls Try.prog 9 #[.int .i64 k, spV s] w fun e w' => e = .returned (boxV ⟨s, Sp.nil, Sp.nil, Sp.nil, Sp.nil⟩) ∧ Jk w w'))
    (hc : Hid (∀ w, Calls Try.prog 20 #[.int .i64 k, .int .i64 0, .int .i64 4] w fun e w' => e = .returned (.int .i64 1) ∧ w' = w)) :
    Calls Try.prog 6 #[.int .i64 k, spV s] w fun e w' => e = .returned (.bool true) ∧ Jk w w' := by
  have J := rules8
  go_enter Try.func6, Try.ntmps6
  go_wp2_with (first | (go_at_call 9; refine (hw.out _).mono ?_; rintro e w1 ⟨rfl, X1, rfl⟩; simp only [Sp.nil]) | (go_at_call 20; refine (hc.out _).mono ?_; rintro e w1 ⟨rfl, rfl⟩))
  refine wp_loop_rounds 6 ?_
  repeat any_goals
    rw [rounds_succ]
    go_wp2_with (first | (go_at_call 3; refine (boxRuns_any _).mono ?_; rintro e w1 ⟨rfl, X, rfl⟩))
    try
      refine region_junk (by kernel_rfl) (by kernel_rfl) ?_
      repeat (go_big_quiet_step (first | exact rfl))
      refine wpQuiet_nil ?_
      rintro _ ⟨X, rfl⟩
      go_wp2_with fail
  all_goals
    go_ret
    refine ⟨rfl, ?_⟩
    repeat (with_reducible first | exact Jk.refl _ | apply Jk.junk | apply Jk.alloc)

theorem whole_2 (k : Int) (s : Sp) (w : World) (hw : Hid (∀ w, Calls Try.prog 9 #[.int .i64 k, spV s] w fun e w' => e = .returned (boxV ⟨s, s, Sp.nil, Sp.nil, Sp.nil⟩) ∧ Jk w w'))
    (hc : Hid (∀ w, Calls Try.prog 20 #[.int .i64 k, .int .i64 0, .int .i64 4] w fun e w' => e = .returned (.int .i64 2) ∧ w' = w)) :
    Calls Try.prog 6 #[.int .i64 k, spV s] w fun e w' => e = .returned (.bool true) ∧ Jk w w' := by
  have J := rules8
  go_enter Try.func6, Try.ntmps6
  go_wp2_with (first | (go_at_call 9; refine (hw.out _).mono ?_; rintro e w1 ⟨rfl, X1, rfl⟩; simp only [Sp.nil]) | (go_at_call 20; refine (hc.out _).mono ?_; rintro e w1 ⟨rfl, rfl⟩))
  refine wp_loop_rounds 6 ?_
  repeat any_goals
    rw [rounds_succ]
    go_wp2_with (first | (go_at_call 3; refine (boxRuns_any _).mono ?_; rintro e w1 ⟨rfl, X, rfl⟩))
    try
      refine region_junk (by kernel_rfl) (by kernel_rfl) ?_
      repeat (go_big_quiet_step (first | exact rfl))
      refine wpQuiet_nil ?_
      rintro _ ⟨X, rfl⟩
      go_wp2_with fail
  all_goals
    go_ret
    refine ⟨rfl, ?_⟩
    repeat (with_reducible first | exact Jk.refl _ | apply Jk.junk | apply Jk.alloc)

theorem whole_3 (k : Int) (s : Sp) (w : World) (hw : Hid (∀ w, Calls Try.prog 9 #[.int .i64 k, spV s] w fun e w' => e = .returned (boxV ⟨s, s, s, Sp.nil, Sp.nil⟩) ∧ Jk w w'))
    (hc : Hid (∀ w, Calls Try.prog 20 #[.int .i64 k, .int .i64 0, .int .i64 4] w fun e w' => e = .returned (.int .i64 3) ∧ w' = w)) :
    Calls Try.prog 6 #[.int .i64 k, spV s] w fun e w' => e = .returned (.bool true) ∧ Jk w w' := by
  have J := rules8
  go_enter Try.func6, Try.ntmps6
  go_wp2_with (first | (go_at_call 9; refine (hw.out _).mono ?_; rintro e w1 ⟨rfl, X1, rfl⟩; simp only [Sp.nil]) | (go_at_call 20; refine (hc.out _).mono ?_; rintro e w1 ⟨rfl, rfl⟩))
  refine wp_loop_rounds 6 ?_
  repeat any_goals
    rw [rounds_succ]
    go_wp2_with (first | (go_at_call 3; refine (boxRuns_any _).mono ?_; rintro e w1 ⟨rfl, X, rfl⟩))
    try
      refine region_junk (by kernel_rfl) (by kernel_rfl) ?_
      repeat (go_big_quiet_step (first | exact rfl))
      refine wpQuiet_nil ?_
      rintro _ ⟨X, rfl⟩
      go_wp2_with fail
  all_goals
    go_ret
    refine ⟨rfl, ?_⟩
    repeat (with_reducible first | exact Jk.refl _ | apply Jk.junk | apply Jk.alloc)

theorem whole_4 (k : Int) (s : Sp) (w : World) (hw : Hid (∀ w, Calls Try.prog 9 #[.int .i64 k, spV s] w fun e w' => e = .returned (boxV ⟨s, s, s, s, Sp.nil⟩) ∧ Jk w w'))
    (hc : Hid (∀ w, Calls Try.prog 20 #[.int .i64 k, .int .i64 0, .int .i64 4] w fun e w' => e = .returned (.int .i64 4) ∧ w' = w)) :
    Calls Try.prog 6 #[.int .i64 k, spV s] w fun e w' => e = .returned (.bool true) ∧ Jk w w' := by
  have J := rules8
  go_enter Try.func6, Try.ntmps6
  go_wp2_with (first | (go_at_call 9; refine (hw.out _).mono ?_; rintro e w1 ⟨rfl, X1, rfl⟩; simp only [Sp.nil]) | (go_at_call 20; refine (hc.out _).mono ?_; rintro e w1 ⟨rfl, rfl⟩))
  refine wp_loop_rounds 6 ?_
  repeat any_goals
    rw [rounds_succ]
    go_wp2_with (first | (go_at_call 3; refine (boxRuns_any _).mono ?_; rintro e w1 ⟨rfl, X, rfl⟩))
    try
      refine region_junk (by kernel_rfl) (by kernel_rfl) ?_
      repeat (go_big_quiet_step (first | exact rfl))
      refine wpQuiet_nil ?_
      rintro _ ⟨X, rfl⟩
      go_wp2_with fail
  all_goals
    go_ret
    refine ⟨rfl, ?_⟩
    repeat (with_reducible first | exact Jk.refl _ | apply Jk.junk | apply Jk.alloc)

theorem clamp_to (k d : Int) (h : max 0 (min k 4) = d) (w : World) : Calls Try.prog 20 #[.int .i64 k, .int .i64 0, .int .i64 4] w fun e w' => e = .returned (.int .i64 d) ∧ w' = w := by
  subst h
  exact clamp_any k 0 4 w (by decide)
theorem whole_to (k : Int) (s : Sp) (x : Bx) (h : Bx.whole k s = x) (w : World) : Calls Try.prog 9 #[.int .i64 k, spV s] w fun e w' => e = .returned (boxV x) ∧ Jk w w' := by
  subst h
  exact whole_any k s w

theorem boxWhole_walk (k x y : Int) (_w1 : (Lit.int .i64 k).wf = true) (_w2 : (Lit.int .i64 x).wf = true) (_w3 : (Lit.int .i64 y).wf = true) (w : World) :
    Calls Try.prog 6 #[.int .i64 k, spanV x y] w fun e w' => e = .returned (.bool true) ∧ Jk w w' := by
  have hc : k ≤ 0 ∨ k = 1 ∨ k = 2 ∨ k = 3 ∨ 4 ≤ k := by omega
  rcases hc with h | h | h | h | h
  · exact whole_0 k ⟨x, y⟩ w (whole_to _ _ _ (by simp [Bx.whole, show ¬ 1 ≤ k by omega, show ¬ 2 ≤ k by omega, show ¬ 3 ≤ k by omega, show ¬ 4 ≤ k by omega])) (clamp_to k 0 (by omega))
  · exact whole_1 k ⟨x, y⟩ w (whole_to _ _ _ (by simp [Bx.whole, h])) (clamp_to k 1 (by omega))
  · exact whole_2 k ⟨x, y⟩ w (whole_to _ _ _ (by simp [Bx.whole, h])) (clamp_to k 2 (by omega))
  · exact whole_3 k ⟨x, y⟩ w (whole_to _ _ _ (by simp [Bx.whole, h])) (clamp_to k 3 (by omega))
  · exact whole_4 k ⟨x, y⟩ w (whole_to _ _ _ (by simp [Bx.whole, show 1 ≤ k by omega, show 2 ≤ k by omega, show 3 ≤ k by omega, h])) (clamp_to k 4 (by omega))

end Go.Proofs.Ytdmkaaehpcnpfaa
