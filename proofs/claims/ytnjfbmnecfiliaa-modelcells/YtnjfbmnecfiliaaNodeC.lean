/- What Pack of package node answers, for every node: its word, or 0. -/
import Derived.Test.YtnjfbmnecfiliaaNodeB
import Derived.Deep.DeepCutAuto
namespace Go.Proofs.Ytnjfbmnecfiliaa
open Go.RowKit M

set_option maxRecDepth 100000 in
set_option maxHeartbeats 1600000 in
theorem pack_wrong (n : Nd) (h : n.rightB = false) (w : World) : Calls Try.prog 38 #[nodeV n] w fun e w' => e = .returned (.int .u64 0) ∧ Jk w w' := by
  have J := rules8
  go_enter Try.func38, Try.ntmps38
  go_wp2_with (first | (go_at_call 37; refine ((right_is h).on _).mono ?_; rintro e w1 ⟨rfl, X1, rfl⟩))
  go_ret
  exact ⟨rfl, by repeat (with_reducible first | exact Jk.refl _ | apply Jk.junk | apply Jk.alloc)⟩

set_option maxRecDepth 100000 in
set_option maxHeartbeats 1600000 in
theorem pack_leaf (v f a l r : Int) (h : Nd.rightB ⟨true, v, f, a, l, r⟩ = true) (w : World) : Calls Try.prog 38 #[nodeV ⟨true, v, f, a, l, r⟩] w fun e w' => e = .returned (.int .u64 (Nd.word ⟨true, v, f, a, l, r⟩)) ∧ Jk w w' := by
  have J := rules8
  have hu := u64_mod v
  have H1 : Hid (Ans 51 #[.int .u64 0, .int .i64 63, .int .i64 1, .int .u64 1] (.int .u64 9223372036854775808)) := put_ans (by decide) (by decide) (by decide) (by decide) put_one
  have H2 : Hid (Ans 51 #[.int .u64 9223372036854775808, .int .i64 0, .int .i64 32, .int .u64 (IntKind.u64.wrap v)] (.int .u64 (Nd.word ⟨true, v, f, a, l, r⟩))) :=
    put_ans (by decide) (by decide) hu.1 hu.2.1 (by rw [put_leaf _ hu.1, hu.2.2]; rfl)
  generalize Nd.word ⟨true, v, f, a, l, r⟩ = z at H2 ⊢
  clear hu
  go_enter Try.func38, Try.ntmps38
  go_upto_region 4 with (first | (go_at_call 37; refine ((right_is h).on _).mono ?_; rintro e w1 ⟨rfl, X1, rfl⟩))
  refine region_junk (by kernel_rfl) (by kernel_rfl) ?_
  repeat (go_big_quiet_step (first | (go_at_call 51; exact Ans.junk (by with_reducible first | exact H1.out | exact H2.out) _) | exact rfl))
  refine wpQuiet_nil ?_
  rintro _ ⟨X, rfl⟩
  go_wp2_with fail
  go_ret
  exact ⟨rfl, by repeat (with_reducible first | exact Jk.refl _ | apply Jk.junk | apply Jk.alloc)⟩

theorem word_other (v f a l r : Int) : Nd.word ⟨false, v, f, a, l, r⟩ = a % 4294967296 + f * 4294967296 + l * 1099511627776 + r * 281474976710656 := rfl
theorem puts_other (v f a l r : Int) (h : Nd.rightB ⟨false, v, f, a, l, r⟩ = true) : ∃ z1 z2 z3 z4, Ans 51 #[.int .u64 0, .int .i64 0, .int .i64 32, .int .u64 (IntKind.u64.wrap a)] (.int .u64 z1) ∧
    Ans 51 #[.int .u64 z1, .int .i64 32, .int .i64 4, .int .u64 (IntKind.u64.wrap f)] (.int .u64 z2) ∧
    Ans 51 #[.int .u64 z2, .int .i64 40, .int .i64 8, .int .u64 (IntKind.u64.wrap l)] (.int .u64 z3) ∧
    Ans 51 #[.int .u64 z3, .int .i64 48, .int .i64 8, .int .u64 (IntKind.u64.wrap r)] (.int .u64 z4) ∧ Nd.word ⟨false, v, f, a, l, r⟩ = z4 := by
  have hR := Nd.right_iff.1 h
  simp only [Nd.Right, Bool.false_eq_true, false_and, false_or, true_and] at hR
  obtain ⟨_, f0, f1, a0, a1, l0, l1, r0, r1⟩ := hR
  have ha := u64_mod a
  have hf := u64_mod f
  have hl := u64_mod l
  have hr := u64_mod r
  have ham : 0 ≤ a % 4294967296 ∧ a % 4294967296 < 4294967296 := by omega
  rw [word_other]
  refine ⟨_, _, _, _, put_ans (by decide) (by decide) ha.1 ha.2.1 (code_at a), put_ans (by omega) (by omega) hf.1 hf.2.1 (code_feature _ _ (by omega) (by omega) f0 (by omega)),
    put_ans (by omega) (by omega) hl.1 hl.2.1 (code_left _ _ (by omega) (by omega) (by omega) (by omega)), put_ans (by omega) (by omega) hr.1 hr.2.1 (code_right _ _ (by omega) (by omega) (by omega) (by omega)), rfl⟩

set_option maxRecDepth 100000 in
set_option maxHeartbeats 1600000 in
theorem pack_other (v f a l r : Int) (h : Nd.rightB ⟨false, v, f, a, l, r⟩ = true) (w : World) : Calls Try.prog 38 #[nodeV ⟨false, v, f, a, l, r⟩] w fun e w' => e = .returned (.int .u64 (Nd.word ⟨false, v, f, a, l, r⟩)) ∧ Jk w w' := by
  have J := rules8
  obtain ⟨z1, z2, z3, z4, h1, h2, h3, h4, h5⟩ := puts_other v f a l r h
  rw [h5]
  have H1 := hid h1
  have H2 := hid h2
  have H3 := hid h3
  have H4 := hid h4
  have HR := hid (right_is h)
  clear h1 h2 h3 h4 h5 h
  go_enter Try.func38, Try.ntmps38
  go_wp2_with (first | (go_at_call 37; refine (HR.out.on _).mono ?_; rintro e w1 ⟨rfl, X1, rfl⟩) | (go_at_call 51; refine (Ans.on (by with_reducible first | exact H1.out | exact H2.out | exact H3.out | exact H4.out) _).mono ?_; rintro e w1 ⟨rfl, X3, rfl⟩))
  go_ret
  exact ⟨rfl, by repeat (with_reducible first | exact Jk.refl _ | apply Jk.junk | apply Jk.alloc)⟩

theorem pack_ans (n : Nd) : Ans 38 #[nodeV n] (.int .u64 n.pack) := fun w => by
  cases h : n.rightB
  · rw [Nd.pack_no h]; exact pack_wrong n h w
  · rw [Nd.pack_of h]
    obtain ⟨leaf, v, f, a, l, r⟩ := n
    cases leaf
    · exact pack_other v f a l r h w
    · exact pack_leaf v f a l r h w
theorem pack_is {n : Nd} {z : Int} (h : n.pack = z) : Ans 38 #[nodeV n] (.int .u64 z) := h ▸ pack_ans n

end Go.Proofs.Ytnjfbmnecfiliaa
