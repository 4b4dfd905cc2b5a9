/- The law BitsNearest of chapter 1 answers true for every argument: a rounded shift is as near as may be, of two as near the even one, and exact for a multiple. -/
import Derived.Test.YtlpmnkkfphjhbaaWithin
namespace Go.Proofs.Ytlpmnkkfphjhbaa
open Go.RowKit M

set_option maxHeartbeats 1000000 in
theorem bitsNearest_walk (a0 : Int) (a1 : Int) (w0 : (Lit.int .i64 a0).wf = true) (w1 : (Lit.int .i64 a1).wf = true) (w : World) :
    Calls Try.prog 7 #[.int .i64 a0, .int .i64 a1] w fun e w' => e = .returned (.bool true) ∧ Grown w w' := by
  obtain ⟨i1, i2⟩ := bdi w0
  obtain ⟨i3, i4⟩ := bdi w1
  clear w0 w1
  obtain ⟨k, hk⟩ : ∃ k, withinI a1 1 40 = k := ⟨_, rfl⟩
  obtain ⟨k1, k2⟩ : 1 ≤ k ∧ k ≤ 40 := hk ▸ within_bd a1 1 40 (by omega)
  obtain ⟨x, hx⟩ : ∃ x, withinI a0 (-1152921504606846976) 1152921504606846976 = x := ⟨_, rfl⟩
  obtain ⟨x1, x2⟩ : -1152921504606846976 ≤ x ∧ x ≤ 1152921504606846976 := hx ▸ within_bd a0 _ _ (by omega)
  obtain ⟨q, s, H, r, hq, hs, hH, hr, b0, b1, n1, n2, hm, hcase⟩ := near_facts x k k1 k2 x1 x2
  have e7 : roundI a0 0 = a0 := by simp [roundI]
  have e8 : roundI a0 63 = a0 := by simp [roundI]
  rcases hcase with ⟨hc | hc, hodd⟩ | ⟨hc, hd⟩
  all_goals
    go_enter Try.func7, Try.ntmps7
    go_wp2_with (first
      | (go_at_call 21; refine (within_any _ _ _ _ ?_ ?_ ?_ ?_ ?_).mono ?_; assumption; assumption; omega; omega; omega; rintro e w' ⟨rfl, rfl⟩)
      | (go_at_call 12; refine (round_any _ _ _ ?_ ?_).mono ?_; omega; omega; rintro e w' ⟨rfl, rfl⟩)
      | (go_at_call 3; refine (runs_any _).mono ?_; rintro e w' ⟨rfl, n, rfl⟩))
    go_ret
    exact ⟨rfl, grown_drewN _ _⟩

end Go.Proofs.Ytlpmnkkfphjhbaa
