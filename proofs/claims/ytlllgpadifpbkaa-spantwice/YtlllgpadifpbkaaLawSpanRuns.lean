/- The law SpanRuns of chapter 4 answers true: its walk through the Go text, by the contracts of package span. -/
import Derived.Test.YtlllgpadifpbkaaSpan
namespace Go.Proofs.Ytlllgpadifpbkaa
open Go.RowKit M

theorem q1 : lLo 1 9 4 = 1 ∧ lHi 1 9 4 = 4 ∧ uLo 1 9 4 = 5 ∧ uHi 1 9 4 = 9 := by decide +kernel
theorem q2 : lLo 1 9 9 = 1 ∧ lHi 1 9 9 = 9 ∧ uLo 1 9 9 = 1 ∧ uHi 1 9 9 = 0 := by decide +kernel
theorem q3 : mLo 1 4 3 9 = 3 ∧ mHi 1 4 3 9 = 4 := by decide +kernel
theorem q4 : valI (szI 1 9) = 9 ∧ okB (szI 1 9) = true := by decide +kernel

set_option maxRecDepth 100000 in
set_option maxHeartbeats 1600000 in
theorem spanRuns_any (w : World) : Calls Try.prog 3 #[] w fun e w' => e = .returned (.bool true) ∧ Jk w w' := by
  have J := rules20
  obtain ⟨e1, e2, e3, e4⟩ := q1
  obtain ⟨f1, f2, f3, f4⟩ := q2
  obtain ⟨g1, g2⟩ := q3
  obtain ⟨h1, h2⟩ := q4
  go_enter Try.func3, Try.ntmps3
  go_wp2_with (first | (go_at_call 8; refine (cut_any _ _ _ _ (by decide) (by decide) (by decide) (by decide)).mono ?_; rintro e w1 ⟨rfl, X1, rfl⟩; simp only [e1, e2, e3, e4, f1, f2, f3, f4]) | (go_at_call 9; refine (size_any _ _ _ (by decide) (by decide) (by decide) (by decide)).mono ?_; rintro e w1 ⟨rfl, X1, rfl⟩; simp only [h1, h2]) | (go_at_call 10; refine (meet_any _ _ _ _ _).mono ?_; rintro e w1 ⟨rfl, X1, rfl⟩; simp only [g1, g2]))
  go_ret
  refine ⟨rfl, ?_⟩
  repeat (with_reducible first | exact Jk.refl _ | apply Jk.junk | apply Jk.alloc)

theorem spanRuns_walk (w : World) : Calls Try.prog 3 #[] w fun e w' => e = .returned (.bool true) ∧ Jk w w' := spanRuns_any w

end Go.Proofs.Ytlllgpadifpbkaa
