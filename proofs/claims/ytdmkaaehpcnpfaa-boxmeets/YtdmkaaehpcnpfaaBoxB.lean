/- What Meet of package box and the document's own MeetBox and Empty (copseref1) answer, for every two boxes. -/
import Derived.Test.YtdmkaaehpcnpfaaBoxA
import Derived.Test.YtdmkaaehpcnpfaaRefSpan
import Derived.Deep.LoopGhost
namespace Go.Proofs.Ytdmkaaehpcnpfaa
open Go.RowKit M

/-- the first j places of z, the rest of y -/
def upTo (z y : Bx) : Nat → Bx
  | 0 => y
  | 1 => ⟨z.a, y.b, y.c, y.d, y.e⟩
  | 2 => ⟨z.a, z.b, y.c, y.d, y.e⟩
  | 3 => ⟨z.a, z.b, z.c, y.d, y.e⟩
  | 4 => ⟨z.a, z.b, z.c, z.d, y.e⟩
  | _ => z

set_option maxRecDepth 100000 in
set_option maxHeartbeats 1600000 in
theorem bmeet_any (x y : Bx) (w : World) : Calls Try.prog 15 #[boxV x, boxV y] w fun e w' => e = .returned (boxV (x.meet y)) ∧ Jk w w' := by
  have J := rules8
  go_enter Try.func15, Try.ntmps15
  go_wp2_with fail
  go_loopg [7] 5 (fun k i wr => ∃ j : Nat, j + k = 5 ∧ i = .int .i64 (j : Int) ∧ ∃ X, wr = junk ((((w.alloc (boxC x)).alloc (boxC y)).alloc (boxC Bx.nil)).alloc (boxC (upTo (x.meet y) Bx.nil j))) X)
  case atStart => exact ⟨0, by omega, rfl, Jk.refl _⟩
  case round =>
    obtain ⟨j, hj, rfl, X, rfl⟩ := hrel
    have hc : j = 0 ∨ j = 1 ∨ j = 2 ∨ j = 3 ∨ j = 4 ∨ j = 5 := by omega
    rcases hc with rfl | rfl | rfl | rfl | rfl | rfl
    · simp only [upTo]
      go_wp2_with fail
      go_region_with (first | (go_at_call 27; refine (meet_any _ _ _ _ _).mono ?_; rintro e w1 ⟨rfl, X1, rfl⟩))
      all_goals
        go_wp2_with fail
        go_roundg (gk - 1)
        case measure => omega
        case rel => exact ⟨1, by omega, by go_num, ((Jk.refl _).junk _).junk _⟩
    · simp only [upTo]
      go_wp2_with fail
      go_region_with (first | (go_at_call 27; refine (meet_any _ _ _ _ _).mono ?_; rintro e w1 ⟨rfl, X1, rfl⟩))
      all_goals
        go_wp2_with fail
        go_roundg (gk - 1)
        case measure => omega
        case rel => exact ⟨2, by omega, by go_num, ((Jk.refl _).junk _).junk _⟩
    · simp only [upTo]
      go_wp2_with fail
      go_region_with (first | (go_at_call 27; refine (meet_any _ _ _ _ _).mono ?_; rintro e w1 ⟨rfl, X1, rfl⟩))
      all_goals
        go_wp2_with fail
        go_roundg (gk - 1)
        case measure => omega
        case rel => exact ⟨3, by omega, by go_num, ((Jk.refl _).junk _).junk _⟩
    · simp only [upTo]
      go_wp2_with fail
      go_region_with (first | (go_at_call 27; refine (meet_any _ _ _ _ _).mono ?_; rintro e w1 ⟨rfl, X1, rfl⟩))
      all_goals
        go_wp2_with fail
        go_roundg (gk - 1)
        case measure => omega
        case rel => exact ⟨4, by omega, by go_num, ((Jk.refl _).junk _).junk _⟩
    · simp only [upTo]
      go_wp2_with fail
      go_region_with (first | (go_at_call 27; refine (meet_any _ _ _ _ _).mono ?_; rintro e w1 ⟨rfl, X1, rfl⟩))
      all_goals
        go_wp2_with fail
        go_roundg (gk - 1)
        case measure => omega
        case rel => exact ⟨5, by omega, by go_num, ((Jk.refl _).junk _).junk _⟩
    · simp only [upTo]
      go_wp2_with fail
      refine bodyPost_ret (v := boxV (x.meet y)) (by simp [results, Try.results15, go_sem, J]) rfl ⟨rfl, ?_⟩
      repeat (with_reducible first | exact Jk.refl _ | apply Jk.junk | apply Jk.alloc)

set_option maxRecDepth 100000 in
set_option maxHeartbeats 1600000 in
theorem refmeetbox_any (x y : Bx) (w : World) : Calls Try.prog 16 #[boxV x, boxV y] w fun e w' => e = .returned (boxV (x.meet y)) ∧ Jk w w' := by
  have J := rules8
  go_enter Try.func16, Try.ntmps16
  go_wp2_with fail
  go_loopg [6] 5 (fun k i wr => ∃ j : Nat, j + k = 5 ∧ i = .int .i64 (j : Int) ∧ ∃ X, wr = junk (((w.alloc (boxC (upTo (x.meet y) x j))).alloc (boxC y)).alloc (boxC Bx.nil)) X)
  case atStart => exact ⟨0, by omega, rfl, Jk.refl _⟩
  case round =>
    obtain ⟨j, hj, rfl, X, rfl⟩ := hrel
    have hc : j = 0 ∨ j = 1 ∨ j = 2 ∨ j = 3 ∨ j = 4 ∨ j = 5 := by omega
    rcases hc with rfl | rfl | rfl | rfl | rfl | rfl
    · simp only [upTo]
      go_wp2_with fail
      go_region_with (first | (go_at_call 28; refine (refmeet_any _ _ _ _ _).mono ?_; rintro e w1 ⟨rfl, X1, rfl⟩))
      all_goals
        go_wp2_with fail
        go_roundg (gk - 1)
        case measure => omega
        case rel => exact ⟨1, by omega, by go_num, ((Jk.refl _).junk _).junk _⟩
    · simp only [upTo]
      go_wp2_with fail
      go_region_with (first | (go_at_call 28; refine (refmeet_any _ _ _ _ _).mono ?_; rintro e w1 ⟨rfl, X1, rfl⟩))
      all_goals
        go_wp2_with fail
        go_roundg (gk - 1)
        case measure => omega
        case rel => exact ⟨2, by omega, by go_num, ((Jk.refl _).junk _).junk _⟩
    · simp only [upTo]
      go_wp2_with fail
      go_region_with (first | (go_at_call 28; refine (refmeet_any _ _ _ _ _).mono ?_; rintro e w1 ⟨rfl, X1, rfl⟩))
      all_goals
        go_wp2_with fail
        go_roundg (gk - 1)
        case measure => omega
        case rel => exact ⟨3, by omega, by go_num, ((Jk.refl _).junk _).junk _⟩
    · simp only [upTo]
      go_wp2_with fail
      go_region_with (first | (go_at_call 28; refine (refmeet_any _ _ _ _ _).mono ?_; rintro e w1 ⟨rfl, X1, rfl⟩))
      all_goals
        go_wp2_with fail
        go_roundg (gk - 1)
        case measure => omega
        case rel => exact ⟨4, by omega, by go_num, ((Jk.refl _).junk _).junk _⟩
    · simp only [upTo]
      go_wp2_with fail
      go_region_with (first | (go_at_call 28; refine (refmeet_any _ _ _ _ _).mono ?_; rintro e w1 ⟨rfl, X1, rfl⟩))
      all_goals
        go_wp2_with fail
        go_roundg (gk - 1)
        case measure => omega
        case rel => exact ⟨5, by omega, by go_num, ((Jk.refl _).junk _).junk _⟩
    · simp only [upTo]
      go_wp2_with fail
      refine bodyPost_ret (v := boxV (x.meet y)) (by simp [results, Try.results16, go_sem, J]) rfl ⟨rfl, ?_⟩
      repeat (with_reducible first | exact Jk.refl _ | apply Jk.junk | apply Jk.alloc)

set_option maxRecDepth 100000 in
set_option maxHeartbeats 1600000 in
theorem refempty_any (x : Bx) (w : World) : Calls Try.prog 18 #[boxV x] w fun e w' => e = .returned (.bool x.em) ∧ Jk w w' := by
  have J := rules20
  have i0 := ix0 x
  have i1 := ix1 x
  have i2 := ix2 x
  have i3 := ix3 x
  have i4 := ix4 x
  go_enter Try.func18, Try.ntmps18
  go_wp2_with fail
  refine wp_loop_rounds 6 ?_
  repeat any_goals (rw [rounds_succ]; go_wp2)
  all_goals
    go_ret
    refine ⟨ret_bool (by simp [Bx.em, Sp.em, emB]; omega), ?_⟩
    repeat (with_reducible first | exact Jk.refl _ | apply Jk.junk | apply Jk.alloc)

end Go.Proofs.Ytdmkaaehpcnpfaa
