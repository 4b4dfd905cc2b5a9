/- What Add and Sub of package fix answer, for every argument (package fix's contracts, for a program that holds these two alone).
   What each function of package span answers, for every argument: the contracts of chapter 4's code. A span comes as a value and is laid into memory by the code: nothing that was there before is changed.
   The contracts of package span once more, the answer a letter: for regions that draw their order. -/
import Derived.Test.YtkkbeobocbgmeaaGreatBase
import Derived.Test.YtkkbeobocbgmeaaGreatMathF
import Derived.Test.YtkkbeobocbgmeaaGreatMathB
import Derived.Test.YtkkbeobocbgmeaaGreatJunk
import Derived.Deep.RegionWith
namespace Go.Proofs.YtkkbeobocbgmeaaGreat
open Go.RowKit M



end Go.Proofs.YtkkbeobocbgmeaaGreat

namespace Go.Proofs.YtkkbeobocbgmeaaGreat
open Go.RowKit M

abbrev spanV (x y : Int) : Value := .agg #[.int .i64 x, .int .i64 y]

theorem wrap_i64_in {n : Int} (h1 : -9223372036854775808 ≤ n) (h2 : n ≤ 9223372036854775807) : IntKind.i64.wrap n = n := by
  rw [IntKind.wrap_i64]; omega

theorem none_any (w : World) : Calls Tryz.prog 66 #[] w fun e w' => e = .returned (spanV 1 0) ∧ Jk w w' := by
  go_enter Tryz.func66, Tryz.ntmps66
  go_wp2
  exact bodyPost_ret (v := spanV 1 0) (by simp [results, Tryz.results66, go_sem]) rfl ⟨rfl, (Jk.refl _).alloc _⟩

theorem empty_any (x y : Int) (w : World) : Calls Tryz.prog 67 #[spanV x y] w fun e w' => e = .returned (.bool (emB x y)) ∧ Jk w w' := by
  go_enter Tryz.func67, Tryz.ntmps67
  go_wp2
  go_ret
  exact ⟨rfl, (Jk.refl _).alloc _⟩

theorem one_yes (x y : Int) (w : World) (h : y < x) : Calls Tryz.prog 86 #[spanV x y] w fun e w' => e = .returned (spanV 1 0) ∧ Jk w w' := by
  have he := em_yes h
  have J := rules8
  go_enter Tryz.func86, Tryz.ntmps86
  go_wp2_with (first | (go_at_call 67; refine (empty_any _ _ _).mono ?_; rintro e w1 ⟨rfl, X1, rfl⟩; simp only [he]) | (go_at_call 66; refine (none_any _).mono ?_; rintro e w2 ⟨rfl, X2, rfl⟩))
  refine bodyPost_ret (v := spanV 1 0) (by simp [results, Tryz.results86, go_sem, J]) rfl ⟨rfl, ?_⟩
  exact ((((Jk.refl _).alloc _).alloc _).junk _).junk _

theorem one_no (x y : Int) (w : World) (h : ¬ y < x) : Calls Tryz.prog 86 #[spanV x y] w fun e w' => e = .returned (spanV x y) ∧ Jk w w' := by
  have he := em_no h
  have J := rules8
  go_enter Tryz.func86, Tryz.ntmps86
  go_wp2_with (first | (go_at_call 67; refine (empty_any _ _ _).mono ?_; rintro e w1 ⟨rfl, X1, rfl⟩; simp only [he]))
  refine bodyPost_ret (v := spanV x y) (by simp [results, Tryz.results86, go_sem, J]) rfl ⟨rfl, ?_⟩
  exact (((Jk.refl _).alloc _).alloc _).junk _

theorem one_any (x y : Int) (w : World) : Calls Tryz.prog 86 #[spanV x y] w fun e w' => e = .returned (spanV (oLo x y) (oHi x y)) ∧ Jk w w' := by
  by_cases h : y < x
  · simpa [oLo, oHi, h] using one_yes x y w h
  · simpa [oLo, oHi, h] using one_no x y w h

theorem meet_any (a b c d : Int) (w : World) : Calls Tryz.prog 65 #[spanV a b, spanV c d] w fun e w' => e = .returned (spanV (mLo a b c d) (mHi a b c d)) ∧ Jk w w' := by
  have J := rules8
  go_enter Tryz.func65, Tryz.ntmps65
  go_wp2_with (first | (go_at_call 86; refine (one_any _ _ _).mono ?_; rintro e w1 ⟨rfl, X1, rfl⟩))
  all_goals
    refine bodyPost_ret (v := spanV (mLo a b c d) (mHi a b c d)) (by simp [results, Tryz.results65, go_sem, J]; exact o_m _ _ _ _ _ _ (by omega) (by omega)) rfl ⟨rfl, ?_⟩
    exact (((((Jk.refl _).alloc _).alloc _).alloc _)).junk _

theorem has_any (x y n : Int) (w : World) : Calls Tryz.prog 36 #[spanV x y, .int .i64 n] w fun e w' => e = .returned (.bool (hasB x y n)) ∧ Jk w w' := by
  by_cases h : x ≤ n
  · by_cases h2 : n ≤ y
    all_goals
      have hr : hasB x y n = decide (n ≤ y) := by simp [hasB, h]
      rw [hr]
      go_enter Tryz.func36, Tryz.ntmps36
      go_wp2
      go_ret
      exact ⟨by simp [h2], (Jk.refl _).alloc _⟩
  · have hr : hasB x y n = false := by simp [hasB, h]
    rw [hr]
    go_enter Tryz.func36, Tryz.ntmps36
    go_wp2
    go_ret
    exact ⟨rfl, (Jk.refl _).alloc _⟩



theorem cut_far (a b : Int) (w : World) : Calls Tryz.prog 49 #[spanV a b, .int .i64 9223372036854775807] w fun e w' =>
    e = .returned (.tuple #[spanV (mLo a b (-9223372036854775808) 9223372036854775807) (mHi a b (-9223372036854775808) 9223372036854775807), spanV 1 0]) ∧ Jk w w' := by
  have J := rules8
  go_enter Tryz.func49, Tryz.ntmps49
  go_wp2_with (first | (go_at_call 65; refine (meet_any _ _ _ _ _).mono ?_; rintro e w1 ⟨rfl, X1, rfl⟩))
  go_region_with (first | (go_at_call 66; refine (none_any _).mono ?_; rintro e w1 ⟨rfl, X2, rfl⟩))
  all_goals
    go_wp2
    refine bodyPost_ret (v := .tuple #[spanV (mLo a b (-9223372036854775808) 9223372036854775807) (mHi a b (-9223372036854775808) 9223372036854775807), spanV 1 0]) (by simp [results, Tryz.results49, go_sem, J]) rfl ⟨rfl, ?_⟩
    exact ((((((Jk.refl _).alloc _).alloc _).alloc _).junk _).alloc _).junk _

theorem cut_near (a b t : Int) (w : World) (t1 : -9223372036854775808 ≤ t) (t2 : t < 9223372036854775807) : Calls Tryz.prog 49 #[spanV a b, .int .i64 t] w fun e w' =>
    e = .returned (.tuple #[spanV (mLo a b (-9223372036854775808) t) (mHi a b (-9223372036854775808) t), spanV (mLo a b (t + 1) 9223372036854775807) (mHi a b (t + 1) 9223372036854775807)]) ∧ Jk w w' := by
  have J := rules8
  have ht : (t == 9223372036854775807) = false := by simp; omega
  have hw : IntKind.i64.wrap (t + 1) = t + 1 := wrap_i64_in (by omega) (by omega)
  go_enter Tryz.func49, Tryz.ntmps49
  go_wp2_with (first | (go_at_call 65; refine (meet_any _ _ _ _ _).mono ?_; rintro e w1 ⟨rfl, X1, rfl⟩))
  go_region_with (first | (go_at_call 65; refine (meet_any _ _ _ _ _).mono ?_; rintro e w1 ⟨rfl, X2, rfl⟩))
  all_goals
    go_wp2
    refine bodyPost_ret (v := .tuple #[spanV (mLo a b (-9223372036854775808) t) (mHi a b (-9223372036854775808) t), spanV (mLo a b (t + 1) 9223372036854775807) (mHi a b (t + 1) 9223372036854775807)]) (by simp [results, Tryz.results49, go_sem, J]) rfl ⟨rfl, ?_⟩
    exact ((((((Jk.refl _).alloc _).alloc _).alloc _).junk _).alloc _).junk _

theorem cut_any (a b t : Int) (w : World) (a1 : -9223372036854775808 ≤ a) (b2 : b ≤ 9223372036854775807) (t1 : -9223372036854775808 ≤ t) (t2 : t ≤ 9223372036854775807) : Calls Tryz.prog 49 #[spanV a b, .int .i64 t] w fun e w' =>
    e = .returned (.tuple #[spanV (lLo a b t) (lHi a b t), spanV (uLo a b t) (uHi a b t)]) ∧ Jk w w' := by
  obtain ⟨e1, e2, e3, e4⟩ := cut_told a b t a1 b2
  by_cases h : t = 9223372036854775807
  · subst h
    obtain ⟨e5, e6⟩ := cut_told_far a b b2
    rw [e1, e2, e5, e6]
    exact cut_far a b w
  · rw [e1, e2, e3, e4]
    exact cut_near a b t w t1 (by omega)

end Go.Proofs.YtkkbeobocbgmeaaGreat

namespace Go.Proofs.YtkkbeobocbgmeaaGreat
open Go.RowKit M

theorem empty_is {x y : Int} {b : Bool} (h : emB x y = b) (w : World) : Calls Tryz.prog 67 #[spanV x y] w fun e w' => e = .returned (.bool b) ∧ Jk w w' := h ▸ empty_any x y w

theorem has_is {x y n : Int} {b : Bool} (h : hasB x y n = b) (w : World) : Calls Tryz.prog 36 #[spanV x y, .int .i64 n] w fun e w' => e = .returned (.bool b) ∧ Jk w w' := h ▸ has_any x y n w

theorem meet_is {a b c d u v : Int} (h : mLo a b c d = u ∧ mHi a b c d = v) (w : World) : Calls Tryz.prog 65 #[spanV a b, spanV c d] w fun e w' => e = .returned (spanV u v) ∧ Jk w w' := by
  obtain ⟨rfl, rfl⟩ := h
  exact meet_any a b c d w


end Go.Proofs.YtkkbeobocbgmeaaGreat
