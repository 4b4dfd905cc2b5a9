/- What the document's own Meet (copseref1, chapter 4) answers, for every two spans. -/
import Derived.Test.YtdmkaaehpcnpfaaSpan
namespace Go.Proofs.Ytdmkaaehpcnpfaa
open Go.RowKit M

theorem refmeet_any (a b c d : Int) (w : World) : Calls Try.prog 28 #[spanV a b, spanV c d] w fun e w' => e = .returned (spanV (mLo a b c d) (mHi a b c d)) ∧ Jk w w' := by
  have J := rules8
  have ht := m_told a b c d
  rcases ht with ⟨h, h1, h2⟩ | ⟨h, h1, h2⟩
  all_goals
    rw [h1, h2]
    go_enter Try.func28, Try.ntmps28
    go_wp2
  all_goals
    refine bodyPost_ret (v := spanV _ _) (by simp [results, Try.results28, go_sem] <;> omega) rfl ⟨rfl, ?_⟩
    repeat (with_reducible first | exact Jk.refl _ | apply Jk.junk | apply Jk.alloc)

end Go.Proofs.Ytdmkaaehpcnpfaa
