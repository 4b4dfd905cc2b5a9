/- What each function of the document's own answer to chapter 1 answers, for every argument: the same words as the contracts of the code. -/
import Derived.Test.YtmfmiflifebflaaBits
namespace Go.Proofs.Ytmfmiflifebflaa
open Go.RowKit M

theorem rfits_any (n k : Int) (w : World) :
    Calls Try.prog 35 #[.int .i64 n, .int .i64 k] w fun e w' => e = .returned (.bool (fitsB n k)) ∧ w' = w := by
  by_cases h1 : k < 1
  · have e : fitsB n k = false := by simp [fitsB]; omega
    rw [e]; clear e
    go_enter Try.func35, Try.ntmps35
    go_wp2
    go_ret
    exact ⟨rfl, rfl⟩
  · by_cases h2 : 64 < k
    · have e : fitsB n k = false := by simp [fitsB]; omega
      rw [e]; clear e
      go_enter Try.func35, Try.ntmps35
      go_wp2
      go_ret
      exact ⟨rfl, rfl⟩
    · by_cases h3 : k = 64
      · subst h3
        have e : fitsB n 64 = true := by simp [fitsB, wrapI]
        rw [e]; clear e
        go_enter Try.func35, Try.ntmps35
        go_wp2
        go_ret
        exact ⟨rfl, rfl⟩
      · go_enter Try.func35, Try.ntmps35
        go_wp2
        all_goals
          go_ret
          refine ⟨ret_bool ?_, rfl⟩
          simp only [pow_in (k.toNat - 1) (by omega), neg_in (k.toNat - 1) (by omega), less_in (k.toNat - 1) (by omega)] at *
          first
            | exact fits_yes n k (by omega) (by omega) ‹_›
            | exact fits_no n k (by omega) (by omega) ‹_›

theorem rwrap_any (n k : Int) (w : World) :
    Calls Try.prog 53 #[.int .i64 n, .int .i64 k] w fun e w' => e = .returned (.int .i64 (wrapI n k)) ∧ w' = w := by
  by_cases h1 : k < 1
  · rw [wrapI_out n k (Or.inl h1)]
    go_enter Try.func53, Try.ntmps53
    go_wp2
    go_ret
    exact ⟨rfl, rfl⟩
  · by_cases h2 : 63 < k
    · rw [wrapI_out n k (Or.inr (by omega))]
      go_enter Try.func53, Try.ntmps53
      go_wp2
      go_ret
      exact ⟨rfl, rfl⟩
    · go_enter Try.func53, Try.ntmps53
      go_wp2
      all_goals
        go_ret
        refine ⟨ret_int ?_, rfl⟩
        simp only [u_low n k.toNat (by omega), beq_iff_eq, beq_eq_false_iff_ne] at *
        first
          | exact wrap_neg n k (by omega) (by omega) ‹_›
          | exact wrap_pos n k (by omega) (by omega) ‹_›








end Go.Proofs.Ytmfmiflifebflaa
