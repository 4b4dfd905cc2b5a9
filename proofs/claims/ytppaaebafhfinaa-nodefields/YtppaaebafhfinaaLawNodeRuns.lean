/- The law NodeRuns of chapter 6 answers true: its walk through the Go text, by the contracts of package node. -/
import Derived.Test.YtppaaebafhfinaaNodeD
namespace Go.Proofs.Ytppaaebafhfinaa
open Go.RowKit M

theorem runs_leaf : Nd.pack ⟨true, -1, 0, 0, 0, 0⟩ = 9223372041149743103 := by decide +kernel
theorem runs_other : Nd.pack ⟨false, 0, 2, -1, 3, 4⟩ = 1129211326627839 := by decide +kernel

set_option maxRecDepth 100000 in
set_option maxHeartbeats 1600000 in
theorem nodeRuns_ans : Ans 3 #[] (.bool true) := fun w => by
  have J := rules20
  have H0 : Hid (Ans 8 #[.int .u64 0] (.tuple #[nodeV Nd.nil, .bool false])) := by
    have := unpack_ans 0 (by decide) (by decide)
    rw [un_zero.1, un_zero.2] at this
    exact this
  have H1 := hid (pack_is runs_leaf)
  have H2 := hid (pack_is runs_other)
  go_enter Try.func3, Try.ntmps3
  go_wp2_with (first | (go_at_call 8; refine (H0.out.on _).mono ?_; rintro e w1 ⟨rfl, X1, rfl⟩) | (go_at_call 9; refine (Ans.on (by with_reducible first | exact H1.out | exact H2.out) _).mono ?_; rintro e w1 ⟨rfl, X2, rfl⟩))
  go_ret
  exact ⟨rfl, by repeat (with_reducible first | exact Jk.refl _ | apply Jk.junk | apply Jk.alloc)⟩

theorem nodeRuns_walk (w : World) : Calls Try.prog 3 #[] w fun e w' => e = .returned (.bool true) ∧ Jk w w' := nodeRuns_ans w

end Go.Proofs.Ytppaaebafhfinaa
