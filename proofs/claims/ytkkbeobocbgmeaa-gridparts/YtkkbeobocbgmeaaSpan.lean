/- What each function of package span answers, for every argument: the contracts of chapter 4's code. A span comes as a value and is laid into memory by the code: nothing that was there before is changed. -/
import Derived.Test.YtkkbeobocbgmeaaFix1
import Derived.Test.YtkkbeobocbgmeaaMathB
import Derived.Test.YtkkbeobocbgmeaaJunk
import Derived.Deep.RegionWith
namespace Go.Proofs.Ytkkbeobocbgmeaa
open Go.RowKit M

abbrev spanV (x y : Int) : Value := .agg #[.int .i64 x, .int .i64 y]

theorem wrap_i64_in {n : Int} (h1 : -9223372036854775808 ≤ n) (h2 : n ≤ 9223372036854775807) : IntKind.i64.wrap n = n := by
  rw [IntKind.wrap_i64]; omega

theorem none_any (w : World) : Calls Try.prog 57 #[] w fun e w' => e = .returned (spanV 1 0) ∧ Jk w w' := by
  go_enter Try.func57, Try.ntmps57
  go_wp2
  exact bodyPost_ret (v := spanV 1 0) (by simp [results, Try.results57, go_sem]) rfl ⟨rfl, (Jk.refl _).alloc _⟩

theorem empty_any (x y : Int) (w : World) : Calls Try.prog 35 #[spanV x y] w fun e w' => e = .returned (.bool (emB x y)) ∧ Jk w w' := by
  go_enter Try.func35, Try.ntmps35
  go_wp2
  go_ret
  exact ⟨rfl, (Jk.refl _).alloc _⟩

theorem one_yes (x y : Int) (w : World) (h : y < x) : Calls Try.prog 66 #[spanV x y] w fun e w' => e = .returned (spanV 1 0) ∧ Jk w w' := by
  have he := em_yes h
  have J := rules8
  go_enter Try.func66, Try.ntmps66
  go_wp2_with (first | (go_at_call 35; refine (empty_any _ _ _).mono ?_; rintro e w1 ⟨rfl, X1, rfl⟩; simp only [he]) | (go_at_call 57; refine (none_any _).mono ?_; rintro e w2 ⟨rfl, X2, rfl⟩))
  refine bodyPost_ret (v := spanV 1 0) (by simp [results, Try.results66, go_sem, J]) rfl ⟨rfl, ?_⟩
  exact ((((Jk.refl _).alloc _).alloc _).junk _).junk _

theorem one_no (x y : Int) (w : World) (h : ¬ y < x) : Calls Try.prog 66 #[spanV x y] w fun e w' => e = .returned (spanV x y) ∧ Jk w w' := by
  have he := em_no h
  have J := rules8
  go_enter Try.func66, Try.ntmps66
  go_wp2_with (first | (go_at_call 35; refine (empty_any _ _ _).mono ?_; rintro e w1 ⟨rfl, X1, rfl⟩; simp only [he]))
  refine bodyPost_ret (v := spanV x y) (by simp [results, Try.results66, go_sem, J]) rfl ⟨rfl, ?_⟩
  exact (((Jk.refl _).alloc _).alloc _).junk _

theorem one_any (x y : Int) (w : World) : Calls Try.prog 66 #[spanV x y] w fun e w' => e = .returned (spanV (oLo x y) (oHi x y)) ∧ Jk w w' := by
  by_cases h : y < x
  · simpa [oLo, oHi, h] using one_yes x y w h
  · simpa [oLo, oHi, h] using one_no x y w h

theorem meet_any (a b c d : Int) (w : World) : Calls Try.prog 56 #[spanV a b, spanV c d] w fun e w' => e = .returned (spanV (mLo a b c d) (mHi a b c d)) ∧ Jk w w' := by
  have J := rules8
  go_enter Try.func56, Try.ntmps56
  go_wp2_with (first | (go_at_call 66; refine (one_any _ _ _).mono ?_; rintro e w1 ⟨rfl, X1, rfl⟩))
  all_goals
    refine bodyPost_ret (v := spanV (mLo a b c d) (mHi a b c d)) (by simp [results, Try.results56, go_sem, J]; exact o_m _ _ _ _ _ _ (by omega) (by omega)) rfl ⟨rfl, ?_⟩
    exact (((((Jk.refl _).alloc _).alloc _).alloc _)).junk _

theorem has_any (x y n : Int) (w : World) : Calls Try.prog 36 #[spanV x y, .int .i64 n] w fun e w' => e = .returned (.bool (hasB x y n)) ∧ Jk w w' := by
  by_cases h : x ≤ n
  · by_cases h2 : n ≤ y
    all_goals
      have hr : hasB x y n = decide (n ≤ y) := by simp [hasB, h]
      rw [hr]
      go_enter Try.func36, Try.ntmps36
      go_wp2
      go_ret
      exact ⟨by simp [h2], (Jk.refl _).alloc _⟩
  · have hr : hasB x y n = false := by simp [hasB, h]
    rw [hr]
    go_enter Try.func36, Try.ntmps36
    go_wp2
    go_ret
    exact ⟨rfl, (Jk.refl _).alloc _⟩

theorem within_span (a b c d : Int) (w : World) : Calls Try.prog 34 #[spanV a b, spanV c d] w fun e w' => e = .returned (.bool (inB a b c d)) ∧ Jk w w' := by
  have J := rules8
  by_cases h : b < a
  · have he := em_yes h
    have hr : inB a b c d = true := by simp [inB, h]
    rw [hr]
    go_enter Try.func34, Try.ntmps34
    go_wp2_with (first | (go_at_call 35; refine (empty_any _ _ _).mono ?_; rintro e w1 ⟨rfl, X1, rfl⟩; simp only [he]))
    go_ret
    exact ⟨rfl, (((Jk.refl _).alloc _).alloc _).junk _⟩
  · have he := em_no h
    by_cases h1 : c ≤ a
    · by_cases h2 : b ≤ d
      all_goals
        have hr : inB a b c d = decide (b ≤ d) := by simp [inB, h, h1]
        rw [hr]
        clear hr
        go_enter Try.func34, Try.ntmps34
        go_wp2_with (first | (go_at_call 35; refine (empty_any _ _ _).mono ?_; rintro e w1 ⟨rfl, X1, rfl⟩; simp only [he]))
        go_ret
        exact ⟨by simp [h2], (((Jk.refl _).alloc _).alloc _).junk _⟩
    · have hr : inB a b c d = false := by simp [inB, h, h1]
      rw [hr]
      clear hr
      go_enter Try.func34, Try.ntmps34
      go_wp2_with (first | (go_at_call 35; refine (empty_any _ _ _).mono ?_; rintro e w1 ⟨rfl, X1, rfl⟩; simp only [he]))
      go_ret
      exact ⟨rfl, (((Jk.refl _).alloc _).alloc _).junk _⟩


theorem cut_far (a b : Int) (w : World) : Calls Try.prog 43 #[spanV a b, .int .i64 9223372036854775807] w fun e w' =>
    e = .returned (.tuple #[spanV (mLo a b (-9223372036854775808) 9223372036854775807) (mHi a b (-9223372036854775808) 9223372036854775807), spanV 1 0]) ∧ Jk w w' := by
  have J := rules8
  go_enter Try.func43, Try.ntmps43
  go_wp2_with (first | (go_at_call 56; refine (meet_any _ _ _ _ _).mono ?_; rintro e w1 ⟨rfl, X1, rfl⟩))
  go_region_with (first | (go_at_call 57; refine (none_any _).mono ?_; rintro e w1 ⟨rfl, X2, rfl⟩))
  all_goals
    go_wp2
    refine bodyPost_ret (v := .tuple #[spanV (mLo a b (-9223372036854775808) 9223372036854775807) (mHi a b (-9223372036854775808) 9223372036854775807), spanV 1 0]) (by simp [results, Try.results43, go_sem, J]) rfl ⟨rfl, ?_⟩
    exact ((((((Jk.refl _).alloc _).alloc _).alloc _).junk _).alloc _).junk _

theorem cut_near (a b t : Int) (w : World) (t1 : -9223372036854775808 ≤ t) (t2 : t < 9223372036854775807) : Calls Try.prog 43 #[spanV a b, .int .i64 t] w fun e w' =>
    e = .returned (.tuple #[spanV (mLo a b (-9223372036854775808) t) (mHi a b (-9223372036854775808) t), spanV (mLo a b (t + 1) 9223372036854775807) (mHi a b (t + 1) 9223372036854775807)]) ∧ Jk w w' := by
  have J := rules8
  have ht : (t == 9223372036854775807) = false := by simp; omega
  have hw : IntKind.i64.wrap (t + 1) = t + 1 := wrap_i64_in (by omega) (by omega)
  go_enter Try.func43, Try.ntmps43
  go_wp2_with (first | (go_at_call 56; refine (meet_any _ _ _ _ _).mono ?_; rintro e w1 ⟨rfl, X1, rfl⟩))
  go_region_with (first | (go_at_call 56; refine (meet_any _ _ _ _ _).mono ?_; rintro e w1 ⟨rfl, X2, rfl⟩))
  all_goals
    go_wp2
    refine bodyPost_ret (v := .tuple #[spanV (mLo a b (-9223372036854775808) t) (mHi a b (-9223372036854775808) t), spanV (mLo a b (t + 1) 9223372036854775807) (mHi a b (t + 1) 9223372036854775807)]) (by simp [results, Try.results43, go_sem, J]) rfl ⟨rfl, ?_⟩
    exact ((((((Jk.refl _).alloc _).alloc _).alloc _).junk _).alloc _).junk _

theorem cut_any (a b t : Int) (w : World) (a1 : -9223372036854775808 ≤ a) (b2 : b ≤ 9223372036854775807) (t1 : -9223372036854775808 ≤ t) (t2 : t ≤ 9223372036854775807) : Calls Try.prog 43 #[spanV a b, .int .i64 t] w fun e w' =>
    e = .returned (.tuple #[spanV (lLo a b t) (lHi a b t), spanV (uLo a b t) (uHi a b t)]) ∧ Jk w w' := by
  obtain ⟨e1, e2, e3, e4⟩ := cut_told a b t a1 b2
  by_cases h : t = 9223372036854775807
  · subst h
    obtain ⟨e5, e6⟩ := cut_told_far a b b2
    rw [e1, e2, e5, e6]
    exact cut_far a b w
  · rw [e1, e2, e3, e4]
    exact cut_near a b t w t1 (by omega)

end Go.Proofs.Ytkkbeobocbgmeaa
