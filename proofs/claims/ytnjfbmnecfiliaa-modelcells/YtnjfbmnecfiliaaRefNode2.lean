/- What the document's own Pack and Unpack (copseref6, chapter 6) answer, for every argument: the same words as the contracts of the code. -/
import Derived.Test.YtnjfbmnecfiliaaRefNode
import Derived.Test.YtnjfbmnecfiliaaMathN2
namespace Go.Proofs.Ytnjfbmnecfiliaa
open Go.RowKit M

set_option maxRecDepth 100000 in
set_option maxHeartbeats 1600000 in
theorem rpack_wrong (n : Nd) (h : n.rightB = false) (w : World) : Calls Try.prog 23 #[nodeV n] w fun e w' => e = .returned (.int .u64 0) ∧ Jk w w' := by
  have J := rules8
  go_enter Try.func23, Try.ntmps23
  go_wp2_with (first | (go_at_call 40; refine ((rright_is h).on _).mono ?_; rintro e w1 ⟨rfl, X1, rfl⟩))
  go_ret
  exact ⟨rfl, by repeat (with_reducible first | exact Jk.refl _ | apply Jk.junk | apply Jk.alloc)⟩

set_option maxRecDepth 100000 in
set_option maxHeartbeats 1600000 in
theorem rpack_leaf (v f a l r : Int) (h : Nd.rightB ⟨true, v, f, a, l, r⟩ = true) (w : World) : Calls Try.prog 23 #[nodeV ⟨true, v, f, a, l, r⟩] w fun e w' => e = .returned (.int .u64 (9223372036854775808 + v % 4294967296)) ∧ Jk w w' := by
  have J := rules8
  have HR := hid (rright_is h)
  have HV := hid (ref_leaf v)
  clear h
  go_enter Try.func23, Try.ntmps23
  go_wp2_with (first | (go_at_call 40; refine (HR.out.on _).mono ?_; rintro e w1 ⟨rfl, X1, rfl⟩))
  go_ret
  exact ⟨ret_int HV.out, by repeat (with_reducible first | exact Jk.refl _ | apply Jk.junk | apply Jk.alloc)⟩

set_option maxRecDepth 100000 in
set_option maxHeartbeats 1600000 in
theorem rpack_other (v f a l r z : Int) (h : Nd.rightB ⟨false, v, f, a, l, r⟩ = true) (HV : Hid (bits .or .u64 (bits .or .u64 (bits .or .u64 (bits .and .u64 (IntKind.u64.wrap a) 4294967295) (IntKind.u64.wrap (IntKind.u64.wrap f * 4294967296))) (IntKind.u64.wrap (IntKind.u64.wrap l * 1099511627776))) (IntKind.u64.wrap (IntKind.u64.wrap r * 281474976710656)) = z)) (w : World) : Calls Try.prog 23 #[nodeV ⟨false, v, f, a, l, r⟩] w fun e w' => e = .returned (.int .u64 z) ∧ Jk w w' := by
  have J := rules8
  have HR := hid (rright_is h)
  clear h
  go_enter Try.func23, Try.ntmps23
  go_wp2_with (first | (go_at_call 40; refine (HR.out.on _).mono ?_; rintro e w1 ⟨rfl, X1, rfl⟩))
  go_ret
  refine ⟨ret_int ?_, by repeat (with_reducible first | exact Jk.refl _ | apply Jk.junk | apply Jk.alloc)⟩
  have := HV.out
  with_reducible exact this

theorem rpack_ans (n : Nd) : Ans 23 #[nodeV n] (.int .u64 n.pack) := fun w => by
  cases h : n.rightB
  · rw [Nd.pack_no h]; exact rpack_wrong n h w
  · rw [Nd.pack_of h]
    obtain ⟨leaf, v, f, a, l, r⟩ := n
    cases leaf
    · have hR := Nd.right_iff.1 h
      simp only [Nd.Right, Bool.false_eq_true, false_and, false_or, true_and] at hR
      obtain ⟨_, f0, f1, a0, a1, l0, l1, r0, r1⟩ := hR
      rw [word_other]
      exact rpack_other v f a l r _ h (ref_other f a l r f0 f1 l0 l1 r0 r1) w
    · exact rpack_leaf v f a l r h w

end Go.Proofs.Ytnjfbmnecfiliaa
