/- The law BitsWraps of chapter 1 answers true for every argument: what is wrapped fits and differs by a multiple; sums and products may be wrapped ahead or behind. -/
import Derived.Test.YtlpmnkkfphjhbaaWithin
namespace Go.Proofs.Ytlpmnkkfphjhbaa
open Go.RowKit M

theorem bitsWraps_walk (a0 : Int) (a1 : Int) (a2 : Int) (_w0 : (Lit.int .i64 a0).wf = true) (_w1 : (Lit.int .i64 a1).wf = true) (w2 : (Lit.int .i64 a2).wf = true) (w : World) :
    Calls Try.prog 6 #[.int .i64 a0, .int .i64 a1, .int .i64 a2] w fun e w' => e = .returned (.bool true) ∧ Grown w w' := by
  obtain ⟨i5, i6⟩ := bdi w2
  clear _w0 _w1 w2
  obtain ⟨k, hk⟩ : ∃ k, withinI a2 1 63 = k := ⟨_, rfl⟩
  obtain ⟨k1, k2⟩ : 1 ≤ k ∧ k ≤ 63 := hk ▸ within_bd a2 1 63 (by omega)
  have e1 := wraps_fit a0 k k1 k2
  have e2 := fits_is a0 k k1 k2
  have e3 := wraps_dif a0 k k1 k2
  have e4 := wraps_add a0 a1 k k1 k2
  have e5 := wraps_mul a0 a1 k k1 k2
  have e6 : fitsB a0 64 = true := by simp [fitsB, wrapI]
  have e7 : fitsB a0 0 = false := by simp [fitsB]
  have e8 : fitsB a0 65 = false := by simp [fitsB]
  go_enter Try.func6, Try.ntmps6
  go_wp2_with (first
    | (go_at_call 21; refine (within_any _ _ _ _ ?_ ?_ ?_ ?_ ?_).mono ?_; assumption; assumption; omega; omega; omega; rintro e w' ⟨rfl, rfl⟩)
    | (go_at_call 10; refine (wrap_any _ _ _).mono ?_; rintro e w' ⟨rfl, rfl⟩)
    | (go_at_call 13; refine (fits_any _ _ _).mono ?_; rintro e w' ⟨rfl, rfl⟩)
    | (go_at_call 3; refine (runs_any _).mono ?_; rintro e w' ⟨rfl, n, rfl⟩))
  go_ret
  exact ⟨rfl, grown_drewN _ _⟩

end Go.Proofs.Ytlpmnkkfphjhbaa
