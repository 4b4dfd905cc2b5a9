/- What each function of package span answers, for every argument: the contracts of chapter 4's code. A span comes as a value and is laid into memory by the code: nothing that was there before is changed. -/
import Derived.Test.YtndnijdpafcmoaaFix1
import Derived.Test.YtndnijdpafcmoaaMathS
import Derived.Test.YtndnijdpafcmoaaJunk
import Derived.Deep.RegionWith
namespace Go.Proofs.Ytndnijdpafcmoaa
open Go.RowKit M

abbrev spanV (x y : Int) : Value := .agg #[.int .i64 x, .int .i64 y]

theorem wrap_i64_in {n : Int} (h1 : -9223372036854775808 ≤ n) (h2 : n ≤ 9223372036854775807) : IntKind.i64.wrap n = n := by
  rw [IntKind.wrap_i64]; omega


theorem empty_any (x y : Int) (w : World) : Calls Try.prog 31 #[spanV x y] w fun e w' => e = .returned (.bool (emB x y)) ∧ Jk w w' := by
  go_enter Try.func31, Try.ntmps31
  go_wp2
  go_ret
  exact ⟨rfl, (Jk.refl _).alloc _⟩





theorem has_any (x y n : Int) (w : World) : Calls Try.prog 22 #[spanV x y, .int .i64 n] w fun e w' => e = .returned (.bool (hasB x y n)) ∧ Jk w w' := by
  by_cases h : x ≤ n
  · by_cases h2 : n ≤ y
    all_goals
      have hr : hasB x y n = decide (n ≤ y) := by simp [hasB, h]
      rw [hr]
      go_enter Try.func22, Try.ntmps22
      go_wp2
      go_ret
      exact ⟨by simp [h2], (Jk.refl _).alloc _⟩
  · have hr : hasB x y n = false := by simp [hasB, h]
    rw [hr]
    go_enter Try.func22, Try.ntmps22
    go_wp2
    go_ret
    exact ⟨rfl, (Jk.refl _).alloc _⟩






end Go.Proofs.Ytndnijdpafcmoaa
