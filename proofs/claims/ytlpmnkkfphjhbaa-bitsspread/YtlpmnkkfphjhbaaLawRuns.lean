/- The law BitsRuns of chapter 1 answers true: its walk through the Go text, by the contracts of package bits. -/
import Derived.Test.YtlpmnkkfphjhbaaBits
import Derived.RowKit3
namespace Go.Proofs.Ytlpmnkkfphjhbaa
open Go.RowKit M

theorem grown_drewN (w : World) (n : Nat) : Grown w (w.drewN n) := Grown.refl w

theorem r1 : wrapI 200 8 = -56 := by decide +kernel
theorem r2 : putI 0 4 8 511 = 4080 := by decide +kernel
theorem r3 : signedI 4080 4 8 = -1 := by decide +kernel
theorem r4 : roundI 5 1 = 2 := by decide +kernel
theorem r5 : roundI 7 1 = 4 := by decide +kernel
theorem r6 : roundI (-5) 1 = -2 := by decide +kernel

theorem runs_any (w : World) : Calls Try.prog 3 #[] w fun e w' => e = .returned (.bool true) ∧ ∃ n, w' = w.drewN n := by
  have e1 := r1
  have e2 := r2
  have e3 := r3
  have e4 := r4
  have e5 := r5
  have e6 := r6
  go_enter Try.func3, Try.ntmps3
  go_wp2_with (first | (go_at_call 9; refine (put_any _ _ _ _ _ (by omega) (by omega) (by omega) (by omega)).mono ?_; rintro e w' ⟨rfl, n, rfl⟩) | (go_at_call 10; refine (wrap_any _ _ _).mono ?_; rintro e w' ⟨rfl, rfl⟩) | (go_at_call 11; refine (signed_any _ _ _ _ (by omega) (by omega)).mono ?_; rintro e w' ⟨rfl, n, rfl⟩) | (go_at_call 12; refine (round_any _ _ _ (by omega) (by omega)).mono ?_; rintro e w' ⟨rfl, rfl⟩))
  go_ret
  exact ⟨rfl, _, rfl⟩

theorem bitsRuns_walk (w : World) : Calls Try.prog 3 #[] w fun e w' => e = .returned (.bool true) ∧ Grown w w' :=
  (runs_any w).mono fun _ _ ⟨he, n, hw⟩ => ⟨he, hw ▸ grown_drewN w n⟩

end Go.Proofs.Ytlpmnkkfphjhbaa
