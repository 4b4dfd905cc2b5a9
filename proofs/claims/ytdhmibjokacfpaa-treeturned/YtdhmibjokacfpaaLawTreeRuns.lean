/- The law TreeRuns of chapter 7 answers true: its walk through the Go text, by the contracts of package tree. -/
import Derived.Test.YtdhmibjokacfpaaTreeC
import Derived.Test.YtdhmibjokacfpaaTreeE
import Derived.Test.YtdhmibjokacfpaaBookW
import Derived.Test.YtdhmibjokacfpaaRefNode2
namespace Go.Proofs.Ytdhmibjokacfpaa
open Go.RowKit M

abbrev runsL : List Nd := [⟨false, 0, 0, 5, 1, 2⟩, ⟨true, 10, 0, 0, 0, 0⟩, ⟨true, 20, 0, 0, 0, 0⟩]
theorem runs_shape (dim : Int) (h : 1 ≤ dim) : Shape (nA runsL) runsL.length dim := by
  refine ⟨fun i hi => ?_, fun j h1 h2 => ?_⟩
  · match i, hi with
    | 0, _ => exact .inr ⟨by show (0 : Int) < dim; omega, by decide, by decide, by decide, by decide, by decide⟩
    | 1, _ => exact .inl rfl
    | 2, _ => exact .inl rfl
    | k + 3, h => simp at h; omega
  · match j, h1, h2 with
    | 1, _, _ => decide +kernel
    | 2, _, _ => decide +kernel
    | k + 3, _, h => simp at h; omega
theorem runs_tree (dim : Int) (h : 1 ≤ dim) : TreeP (runsL.map Nd.pack) dim := by
  refine tree_of (by decide) (by decide) (fun i hi => ?_) (runs_shape dim h)
  match i, hi with
  | 0, _ => decide +kernel
  | 1, _ => decide +kernel
  | 2, _ => decide +kernel
  | k + 3, h => simp at h; omega
theorem runs_way5 : wayW (runsL.map Nd.pack) (fun i => if i = 0 then 5 else 0) 31 0 = some 1 := by decide +kernel
theorem runs_way6 : wayW (runsL.map Nd.pack) (fun i => if i = 0 then 6 else 0) 31 0 = some 2 := by decide +kernel
theorem runs_val6 : vlI (runsL.map Nd.pack) (some 2) = 20 := by decide +kernel
theorem runs_leaves : lvs (ndA (runsL.map Nd.pack)) 3 = [1, 2] := by decide +kernel
theorem runs_deep : lg (ndA (runsL.map Nd.pack)) 3 = 2 := by decide +kernel

set_option maxRecDepth 100000 in
set_option maxHeartbeats 1600000 in
theorem treeRuns_ans : Ans 3 #[] (.bool true) := fun w => by
  have J := rules20
  obtain ⟨A, hA⟩ : ∃ A, Nd.pack ⟨false, 0, 0, 5, 1, 2⟩ = A := ⟨_, rfl⟩
  obtain ⟨B, hB⟩ : ∃ B, Nd.pack ⟨true, 10, 0, 0, 0, 0⟩ = B := ⟨_, rfl⟩
  obtain ⟨C, hC⟩ : ∃ C, Nd.pack ⟨true, 20, 0, 0, 0, 0⟩ = C := ⟨_, rfl⟩
  have HA := hid (rpack_ans ⟨false, 0, 0, 5, 1, 2⟩)
  have HB := hid (rpack_ans ⟨true, 10, 0, 0, 0, 0⟩)
  have HC := hid (rpack_ans ⟨true, 20, 0, 0, 0, 0⟩)
  rw [hA] at HA
  rw [hB] at HB
  rw [hC] at HC
  have hws : runsL.map Nd.pack = [A, B, C] := by rw [← hA, ← hB, ← hC]; rfl
  have HT := hid runs_tree
  have H5 := hid runs_way5
  have H6 := hid runs_way6
  have HV := hid runs_val6
  have HLv := hid runs_leaves
  have HDp := hid runs_deep
  rw [hws] at HT H5 H6 HV HLv HDp
  have HBd : Hid (∀ i, i < 3 → 0 ≤ wd [A, B, C] i ∧ wd [A, B, C] i ≤ 18446744073709551615) := by
    intro i hi
    rw [← hws, nA_map _ i (by simpa using hi)]
    exact Nd.pack_bd _
  clear hA hB hC hws
  go_enter Try.func3, Try.ntmps3
  go_upto_region 1 with fail
  go_cut [1] (fun v wc => ∃ g, v = .slice (some ⟨g, 0, none⟩) 3 3 ∧ IsW wc (some ⟨g, 0, none⟩) 3 3 [A, B, C] ∧ Jk w wc)
  case first =>
    go_wp2_with (first | (go_at_call 8; refine (Ans.on (by with_reducible first | exact HA.out | exact HB.out | exact HC.out) _).mono ?_; rintro e w1 ⟨rfl, X2, rfl⟩))
    go_meet
    case rel =>
      refine ⟨_, rfl, ⟨rfl, by decide, by decide, HBd.out, fun _ => ⟨_, 0, rfl, by simp [J], fun i hi => ?_⟩⟩, ?_⟩
      · match i, hi with
        | 0, _ | 1, _ | 2, _ => exact new_cells _ _ _ _ (by simp only [junk_size]) _ _ rfl
        | k + 3, h => simp at h; omega
      · repeat (with_reducible first | exact Jk.refl _ | apply Jk.junk | apply Jk.alloc)
  case rest =>
    obtain ⟨g, rfl, hI, hJ⟩ := hcut
    have HI := hid hI
    have HJ := hid hJ
    have HR := hid (right_tree hI (b := true) (dim := 1) (by simp [HT.out 1 (by decide)]))
    have HW5 : Hid (AnsW wc 10 #[.slice (some ⟨g, 0, none⟩) 3 3, .agg #[.int .i64 5, .int .i64 0, .int .i64 0, .int .i64 0]] (.int .i64 1)) := by
      have := walk_ans (fun i => if i = 0 then 5 else 0) hI
      rw [H5.out] at this
      exact this
    have HW6 : Hid (AnsW wc 10 #[.slice (some ⟨g, 0, none⟩) 3 3, .agg #[.int .i64 6, .int .i64 0, .int .i64 0, .int .i64 0]] (.int .i64 2)) := by
      have := walk_ans (fun i => if i = 0 then 6 else 0) hI
      rw [H6.out] at this
      exact this
    have HV6 : Hid (AnsW wc 14 #[.slice (some ⟨g, 0, none⟩) 3 3, .agg #[.int .i64 6, .int .i64 0, .int .i64 0, .int .i64 0]] (.int .i64 20)) := by
      have := value_ans (fun i => if i = 0 then 6 else 0) hI
      rw [H6.out, HV.out] at this
      exact this
    have HD : Hid (AnsW wc 13 #[.slice (some ⟨g, 0, none⟩) 3 3] (.int .i64 2)) := fun w1 hj => depth_yes 2 (hI.jk hj) (HT.out 4 (by decide)) HDp.out
    have HLs : Hid (∀ w1, Jk wc w1 → Calls Try.prog 12 #[.slice (some ⟨g, 0, none⟩) 3 3] w1 fun e w' => ∃ b c X, e = .returned (.slice (some ⟨b, 0, none⟩) 2 c) ∧ w' = junk w1 X ∧ b < w1.heap.size + Jn X ∧ AtO .i64 (junk w1 X) (some ⟨b, 0, none⟩) [1, 2]) := by
      intro w1 hj
      refine (leaves_yes (hI.jk hj) (HT.out 4 (by decide))).mono ?_
      rintro e w2 ⟨v, m, rfl, hO, X, rfl⟩
      rw [HLv.out] at hO
      obtain ⟨a, c, rfl, _, _, h3⟩ := row_form hO.2
      have hm : m = 2 := hO.1.symm
      subst hm
      obtain ⟨b, rfl, _, hb⟩ := h3 (by decide)
      exact ⟨b, c, X, rfl, rfl, by rw [junk_size] at hb; exact hb, fun _ => ⟨b, 0, rfl, hb, hO.at⟩⟩
    clear hI hJ HI HT H5 H6 HV HLv HDp HBd HA HB HC
    go_wp2_with (first | (go_at_call 9; refine (AnsW.on (by with_reducible exact HR.out) _ (by repeat (with_reducible first | exact Jk.refl _ | apply Jk.junk | apply Jk.alloc))).mono ?_; rintro e w1 ⟨rfl, X0, rfl⟩) | (go_at_call 10; refine (AnsW.on (by with_reducible first | exact HW5.out | exact HW6.out) _ (by repeat (with_reducible first | exact Jk.refl _ | apply Jk.junk | apply Jk.alloc))).mono ?_; rintro e w1 ⟨rfl, X1, rfl⟩) | (go_at_call 13; refine (AnsW.on (by with_reducible exact HD.out) _ (by repeat (with_reducible first | exact Jk.refl _ | apply Jk.junk | apply Jk.alloc))).mono ?_; rintro e w1 ⟨rfl, X2, rfl⟩) | (go_at_call 14; refine (AnsW.on (by with_reducible exact HV6.out) _ (by repeat (with_reducible first | exact Jk.refl _ | apply Jk.junk | apply Jk.alloc))).mono ?_; rintro e w1 ⟨rfl, X3, rfl⟩) | (go_at_call 12; refine (HLs.out _ (by repeat (with_reducible first | exact Jk.refl _ | apply Jk.junk | apply Jk.alloc))).mono ?_; rintro e w1 ⟨b, c, X5, rfl, rfl, hb, hA⟩; have HA1 := hid hA; clear hA) | (go_at_call 11; refine (same_ints (zs := [1, 2]) rfl (by decide) (HA1.out.jk (by repeat (with_reducible first | exact Jk.refl _ | apply Jk.junk | apply Jk.alloc))) (lit_atO .i64 _ [1, 2] _ _ (by simp only [J])) _ (Jk.refl _)).mono ?_; rintro e w1 ⟨rfl, X6, rfl⟩))
    go_ret
    refine ⟨rfl, ?_⟩
    repeat (with_reducible first | exact HJ.out | apply Jk.junk | apply Jk.alloc)

theorem treeRuns_walk (w : World) : Calls Try.prog 3 #[] w fun e w' => e = .returned (.bool true) ∧ Jk w w' := treeRuns_ans w

end Go.Proofs.Ytdhmibjokacfpaa
