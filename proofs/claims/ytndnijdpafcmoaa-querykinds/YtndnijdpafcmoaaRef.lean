/- What each function of the document's own answer to chapter 1 answers, for every argument: the same words as the contracts of the code. -/
import Derived.Test.YtndnijdpafcmoaaBits
namespace Go.Proofs.Ytndnijdpafcmoaa
open Go.RowKit M

theorem rfits_any (n k : Int) (w : World) :
    Calls Try.prog 38 #[.int .i64 n, .int .i64 k] w fun e w' => e = .returned (.bool (fitsB n k)) ∧ w' = w := by
  by_cases h1 : k < 1
  · have e : fitsB n k = false := by simp [fitsB]; omega
    rw [e]; clear e
    go_enter Try.func38, Try.ntmps38
    go_wp2
    go_ret
    exact ⟨rfl, rfl⟩
  · by_cases h2 : 64 < k
    · have e : fitsB n k = false := by simp [fitsB]; omega
      rw [e]; clear e
      go_enter Try.func38, Try.ntmps38
      go_wp2
      go_ret
      exact ⟨rfl, rfl⟩
    · by_cases h3 : k = 64
      · subst h3
        have e : fitsB n 64 = true := by simp [fitsB, wrapI]
        rw [e]; clear e
        go_enter Try.func38, Try.ntmps38
        go_wp2
        go_ret
        exact ⟨rfl, rfl⟩
      · go_enter Try.func38, Try.ntmps38
        go_wp2
        all_goals
          go_ret
          refine ⟨ret_bool ?_, rfl⟩
          simp only [pow_in (k.toNat - 1) (by omega), neg_in (k.toNat - 1) (by omega), less_in (k.toNat - 1) (by omega)] at *
          first
            | exact fits_yes n k (by omega) (by omega) ‹_›
            | exact fits_no n k (by omega) (by omega) ‹_›









end Go.Proofs.Ytndnijdpafcmoaa
