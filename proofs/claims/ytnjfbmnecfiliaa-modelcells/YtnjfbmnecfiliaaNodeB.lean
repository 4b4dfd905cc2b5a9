/- What Right, Pack, read and Unpack of package node answer, for every argument: the contracts of chapter 6's code. -/
import Derived.Test.YtnjfbmnecfiliaaNodeA
namespace Go.Proofs.Ytnjfbmnecfiliaa
open Go.RowKit M

set_option maxRecDepth 100000 in
set_option maxHeartbeats 1600000 in
theorem right_other (v f a l r : Int) (w : World) : Calls Try.prog 37 #[.agg #[.bool false, .int .i64 v, .int .i64 f, .int .i64 a, .int .i64 l, .int .i64 r]] w fun e w' => e = .returned (.bool (Nd.rightB ⟨false, v, f, a, l, r⟩)) ∧ Jk w w' := by
  have J := rules8
  obtain ⟨V, hV⟩ : ∃ V, (v == 0) = V := ⟨_, rfl⟩
  obtain ⟨F, hF⟩ : ∃ F, decide (0 ≤ f ∧ f < 4) = F := ⟨_, rfl⟩
  obtain ⟨A, hA⟩ : ∃ A, fit32 a = A := ⟨_, rfl⟩
  obtain ⟨L, hL⟩ : ∃ L, decide (1 ≤ l ∧ l < 31) = L := ⟨_, rfl⟩
  obtain ⟨R, hR⟩ : ∃ R, decide (1 ≤ r ∧ r < 31) = R := ⟨_, rfl⟩
  have HR : Hid (Nd.rightB ⟨false, v, f, a, l, r⟩ = (V && F && A && L && R)) := by
    show ((v == 0) && _ && _ && _ && _) = _
    rw [hV, hF, hA, hL, hR]
  rw [HR.out]
  clear HR
  have HF : Hid (Ans 49 #[.int .i64 f] (.bool F)) := hF ▸ feature_ans
  have HA : Hid (Ans 41 #[.int .i64 a, .int .i64 32] (.bool A)) := hA ▸ fits_ans
  have HL : Hid (Ans 50 #[.int .i64 l] (.bool L)) := hL ▸ side_ans
  have HS : Hid (Ans 50 #[.int .i64 r] (.bool R)) := hR ▸ side_ans
  clear hF hA hL hR
  cases V
  · go_enter Try.func37, Try.ntmps37
    go_wp2_with (fail)
    go_ret
    exact ⟨rfl, by repeat (with_reducible first | exact Jk.refl _ | apply Jk.junk | apply Jk.alloc)⟩
  cases F
  · go_enter Try.func37, Try.ntmps37
    go_wp2_with (first | (go_at_call 49; refine (HF.out.on _).mono ?_; rintro e w1 ⟨rfl, X1, rfl⟩))
    go_ret
    exact ⟨rfl, by repeat (with_reducible first | exact Jk.refl _ | apply Jk.junk | apply Jk.alloc)⟩
  cases A
  · go_enter Try.func37, Try.ntmps37
    go_wp2_with (first | (go_at_call 49; refine (HF.out.on _).mono ?_; rintro e w1 ⟨rfl, X1, rfl⟩) | (go_at_call 41; refine (HA.out.on _).mono ?_; rintro e w1 ⟨rfl, X2, rfl⟩))
    go_ret
    exact ⟨rfl, by repeat (with_reducible first | exact Jk.refl _ | apply Jk.junk | apply Jk.alloc)⟩
  cases L
  · go_enter Try.func37, Try.ntmps37
    go_wp2_with (first | (go_at_call 49; refine (HF.out.on _).mono ?_; rintro e w1 ⟨rfl, X1, rfl⟩) | (go_at_call 41; refine (HA.out.on _).mono ?_; rintro e w1 ⟨rfl, X2, rfl⟩) | (go_at_call 50; refine (Ans.on (by with_reducible first | exact HL.out | exact HS.out) _).mono ?_; rintro e w1 ⟨rfl, X3, rfl⟩))
    go_ret
    exact ⟨rfl, by repeat (with_reducible first | exact Jk.refl _ | apply Jk.junk | apply Jk.alloc)⟩
  · go_enter Try.func37, Try.ntmps37
    go_wp2_with (first | (go_at_call 49; refine (HF.out.on _).mono ?_; rintro e w1 ⟨rfl, X1, rfl⟩) | (go_at_call 41; refine (HA.out.on _).mono ?_; rintro e w1 ⟨rfl, X2, rfl⟩) | (go_at_call 50; refine (Ans.on (by with_reducible first | exact HL.out | exact HS.out) _).mono ?_; rintro e w1 ⟨rfl, X3, rfl⟩))
    go_ret
    exact ⟨rfl, by repeat (with_reducible first | exact Jk.refl _ | apply Jk.junk | apply Jk.alloc)⟩

theorem right_ans (n : Nd) : Ans 37 #[nodeV n] (.bool n.rightB) := fun w => by
  obtain ⟨leaf, v, f, a, l, r⟩ := n
  cases leaf
  · exact right_other v f a l r w
  · exact right_leaf v f a l r w
theorem right_is {n : Nd} {b : Bool} (h : n.rightB = b) : Ans 37 #[nodeV n] (.bool b) := h ▸ right_ans n

end Go.Proofs.Ytnjfbmnecfiliaa
