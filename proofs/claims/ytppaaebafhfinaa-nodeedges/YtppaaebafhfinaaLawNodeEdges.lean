/- The law NodeEdges of chapter 6 answers true for every two ints: each number of a node may go to its bounds, and no further. -/
import Derived.Test.YtppaaebafhfinaaLawNodeRuns
import Derived.Test.YtppaaebafhfinaaWithinB
namespace Go.Proofs.Ytppaaebafhfinaa
open Go.RowKit M

theorem low_leaf : Nd.rightB ⟨true, -2147483648, 0, 0, 0, 0⟩ = true := by decide +kernel
theorem high_leaf : Nd.rightB ⟨true, 2147483647, 0, 0, 0, 0⟩ = true := by decide +kernel
theorem high_other : Nd.rightB ⟨false, 0, 3, 2147483647, 30, 1⟩ = true := by decide +kernel
theorem low_other : Nd.rightB ⟨false, 0, 0, -2147483648, 1, 30⟩ = true := by decide +kernel

theorem bad_0 (K : Int) (_h : 0 ≤ K) : Nd.rightB ⟨true, -2147483648 - (1 + K), 0, 0, 0, 0⟩ = false := by
  simp [Nd.rightB, fit32]
  try omega
set_option maxRecDepth 100000 in
set_option maxHeartbeats 1600000 in
theorem edges_0 (a b K : Int) (w : World) (k0 : 0 ≤ K) (k1 : K ≤ 1099511627776)
    (HK : Hid (AnsP 14 #[.int .i64 b, .int .i64 0, .int .i64 1099511627776] (.int .i64 K)))
    (HC : Hid (AnsP 14 #[.int .i64 a, .int .i64 0, .int .i64 9] (.int .i64 0))) :
    Calls Try.prog 6 #[.int .i64 a, .int .i64 b] w fun e w' => e = .returned (.bool true) ∧ Jk w w' := by
  have J := rules20
  have r1 := low_leaf
  have r2 := high_leaf
  have r3 := high_other
  have r4 := low_other
  have r5 := bad_0 K k0
  have r6 := Nd.pack_no r5
  go_enter Try.func6, Try.ntmps6
  go_wp2_with (first | (go_at_call 11; refine ((right_raw _ _ _ _ _ _).on _).mono ?_; rintro e w1 ⟨rfl, X1, rfl⟩; simp only [r1, r2, r3, r4, r5]) | (go_at_call 14; refine (AnsP.on (by with_reducible first | exact HK.out | exact HC.out) _).mono ?_; rintro e w1 ⟨rfl, rfl⟩) | (go_at_call 9; refine ((pack_raw _ _ _ _ _ _).on _).mono ?_; rintro e w1 ⟨rfl, X2, rfl⟩; simp only [r6]) | (go_at_call 3; refine (nodeRuns_ans.on _).mono ?_; rintro e w1 ⟨rfl, X3, rfl⟩))
  go_ret
  exact ⟨rfl, by repeat (with_reducible first | exact Jk.refl _ | apply Jk.junk | apply Jk.alloc)⟩

theorem bad_1 (K : Int) (_h : 0 ≤ K) : Nd.rightB ⟨true, 2147483647 + (1 + K), 0, 0, 0, 0⟩ = false := by
  simp [Nd.rightB, fit32]
  try omega
set_option maxRecDepth 100000 in
set_option maxHeartbeats 1600000 in
theorem edges_1 (a b K : Int) (w : World) (k0 : 0 ≤ K) (k1 : K ≤ 1099511627776)
    (HK : Hid (AnsP 14 #[.int .i64 b, .int .i64 0, .int .i64 1099511627776] (.int .i64 K)))
    (HC : Hid (AnsP 14 #[.int .i64 a, .int .i64 0, .int .i64 9] (.int .i64 1))) :
    Calls Try.prog 6 #[.int .i64 a, .int .i64 b] w fun e w' => e = .returned (.bool true) ∧ Jk w w' := by
  have J := rules20
  have r1 := low_leaf
  have r2 := high_leaf
  have r3 := high_other
  have r4 := low_other
  have r5 := bad_1 K k0
  have r6 := Nd.pack_no r5
  go_enter Try.func6, Try.ntmps6
  go_wp2_with (first | (go_at_call 11; refine ((right_raw _ _ _ _ _ _).on _).mono ?_; rintro e w1 ⟨rfl, X1, rfl⟩; simp only [r1, r2, r3, r4, r5]) | (go_at_call 14; refine (AnsP.on (by with_reducible first | exact HK.out | exact HC.out) _).mono ?_; rintro e w1 ⟨rfl, rfl⟩) | (go_at_call 9; refine ((pack_raw _ _ _ _ _ _).on _).mono ?_; rintro e w1 ⟨rfl, X2, rfl⟩; simp only [r6]) | (go_at_call 3; refine (nodeRuns_ans.on _).mono ?_; rintro e w1 ⟨rfl, X3, rfl⟩))
  go_ret
  exact ⟨rfl, by repeat (with_reducible first | exact Jk.refl _ | apply Jk.junk | apply Jk.alloc)⟩

theorem bad_2 (K : Int) (_h : 0 ≤ K) : Nd.rightB ⟨false, 0, 3 + (1 + K), 2147483647, 30, 1⟩ = false := by
  simp [Nd.rightB, fit32]
  try omega
set_option maxRecDepth 100000 in
set_option maxHeartbeats 1600000 in
theorem edges_2 (a b K : Int) (w : World) (k0 : 0 ≤ K) (k1 : K ≤ 1099511627776)
    (HK : Hid (AnsP 14 #[.int .i64 b, .int .i64 0, .int .i64 1099511627776] (.int .i64 K)))
    (HC : Hid (AnsP 14 #[.int .i64 a, .int .i64 0, .int .i64 9] (.int .i64 2))) :
    Calls Try.prog 6 #[.int .i64 a, .int .i64 b] w fun e w' => e = .returned (.bool true) ∧ Jk w w' := by
  have J := rules20
  have r1 := low_leaf
  have r2 := high_leaf
  have r3 := high_other
  have r4 := low_other
  have r5 := bad_2 K k0
  have r6 := Nd.pack_no r5
  go_enter Try.func6, Try.ntmps6
  go_wp2_with (first | (go_at_call 11; refine ((right_raw _ _ _ _ _ _).on _).mono ?_; rintro e w1 ⟨rfl, X1, rfl⟩; simp only [r1, r2, r3, r4, r5]) | (go_at_call 14; refine (AnsP.on (by with_reducible first | exact HK.out | exact HC.out) _).mono ?_; rintro e w1 ⟨rfl, rfl⟩) | (go_at_call 9; refine ((pack_raw _ _ _ _ _ _).on _).mono ?_; rintro e w1 ⟨rfl, X2, rfl⟩; simp only [r6]) | (go_at_call 3; refine (nodeRuns_ans.on _).mono ?_; rintro e w1 ⟨rfl, X3, rfl⟩))
  go_ret
  exact ⟨rfl, by repeat (with_reducible first | exact Jk.refl _ | apply Jk.junk | apply Jk.alloc)⟩

theorem bad_3 (K : Int) (_h : 0 ≤ K) : Nd.rightB ⟨false, 0, -(1 + K), 2147483647, 30, 1⟩ = false := by
  simp [Nd.rightB, fit32]
  try omega
set_option maxRecDepth 100000 in
set_option maxHeartbeats 1600000 in
theorem edges_3 (a b K : Int) (w : World) (k0 : 0 ≤ K) (k1 : K ≤ 1099511627776)
    (HK : Hid (AnsP 14 #[.int .i64 b, .int .i64 0, .int .i64 1099511627776] (.int .i64 K)))
    (HC : Hid (AnsP 14 #[.int .i64 a, .int .i64 0, .int .i64 9] (.int .i64 3))) :
    Calls Try.prog 6 #[.int .i64 a, .int .i64 b] w fun e w' => e = .returned (.bool true) ∧ Jk w w' := by
  have J := rules20
  have r1 := low_leaf
  have r2 := high_leaf
  have r3 := high_other
  have r4 := low_other
  have r5 := bad_3 K k0
  have r6 := Nd.pack_no r5
  go_enter Try.func6, Try.ntmps6
  go_wp2_with (first | (go_at_call 11; refine ((right_raw _ _ _ _ _ _).on _).mono ?_; rintro e w1 ⟨rfl, X1, rfl⟩; simp only [r1, r2, r3, r4, r5]) | (go_at_call 14; refine (AnsP.on (by with_reducible first | exact HK.out | exact HC.out) _).mono ?_; rintro e w1 ⟨rfl, rfl⟩) | (go_at_call 9; refine ((pack_raw _ _ _ _ _ _).on _).mono ?_; rintro e w1 ⟨rfl, X2, rfl⟩; simp only [r6]) | (go_at_call 3; refine (nodeRuns_ans.on _).mono ?_; rintro e w1 ⟨rfl, X3, rfl⟩))
  go_ret
  exact ⟨rfl, by repeat (with_reducible first | exact Jk.refl _ | apply Jk.junk | apply Jk.alloc)⟩

theorem bad_4 (K : Int) (_h : 0 ≤ K) : Nd.rightB ⟨false, 0, 3, 2147483647 + (1 + K), 30, 1⟩ = false := by
  simp [Nd.rightB, fit32]
  try omega
set_option maxRecDepth 100000 in
set_option maxHeartbeats 1600000 in
theorem edges_4 (a b K : Int) (w : World) (k0 : 0 ≤ K) (k1 : K ≤ 1099511627776)
    (HK : Hid (AnsP 14 #[.int .i64 b, .int .i64 0, .int .i64 1099511627776] (.int .i64 K)))
    (HC : Hid (AnsP 14 #[.int .i64 a, .int .i64 0, .int .i64 9] (.int .i64 4))) :
    Calls Try.prog 6 #[.int .i64 a, .int .i64 b] w fun e w' => e = .returned (.bool true) ∧ Jk w w' := by
  have J := rules20
  have r1 := low_leaf
  have r2 := high_leaf
  have r3 := high_other
  have r4 := low_other
  have r5 := bad_4 K k0
  have r6 := Nd.pack_no r5
  go_enter Try.func6, Try.ntmps6
  go_wp2_with (first | (go_at_call 11; refine ((right_raw _ _ _ _ _ _).on _).mono ?_; rintro e w1 ⟨rfl, X1, rfl⟩; simp only [r1, r2, r3, r4, r5]) | (go_at_call 14; refine (AnsP.on (by with_reducible first | exact HK.out | exact HC.out) _).mono ?_; rintro e w1 ⟨rfl, rfl⟩) | (go_at_call 9; refine ((pack_raw _ _ _ _ _ _).on _).mono ?_; rintro e w1 ⟨rfl, X2, rfl⟩; simp only [r6]) | (go_at_call 3; refine (nodeRuns_ans.on _).mono ?_; rintro e w1 ⟨rfl, X3, rfl⟩))
  go_ret
  exact ⟨rfl, by repeat (with_reducible first | exact Jk.refl _ | apply Jk.junk | apply Jk.alloc)⟩

theorem bad_5 (K : Int) (_h : 0 ≤ K) : Nd.rightB ⟨false, 0, 3, -2147483648 - (1 + K), 30, 1⟩ = false := by
  simp [Nd.rightB, fit32]
  try omega
set_option maxRecDepth 100000 in
set_option maxHeartbeats 1600000 in
theorem edges_5 (a b K : Int) (w : World) (k0 : 0 ≤ K) (k1 : K ≤ 1099511627776)
    (HK : Hid (AnsP 14 #[.int .i64 b, .int .i64 0, .int .i64 1099511627776] (.int .i64 K)))
    (HC : Hid (AnsP 14 #[.int .i64 a, .int .i64 0, .int .i64 9] (.int .i64 5))) :
    Calls Try.prog 6 #[.int .i64 a, .int .i64 b] w fun e w' => e = .returned (.bool true) ∧ Jk w w' := by
  have J := rules20
  have r1 := low_leaf
  have r2 := high_leaf
  have r3 := high_other
  have r4 := low_other
  have r5 := bad_5 K k0
  have r6 := Nd.pack_no r5
  go_enter Try.func6, Try.ntmps6
  go_wp2_with (first | (go_at_call 11; refine ((right_raw _ _ _ _ _ _).on _).mono ?_; rintro e w1 ⟨rfl, X1, rfl⟩; simp only [r1, r2, r3, r4, r5]) | (go_at_call 14; refine (AnsP.on (by with_reducible first | exact HK.out | exact HC.out) _).mono ?_; rintro e w1 ⟨rfl, rfl⟩) | (go_at_call 9; refine ((pack_raw _ _ _ _ _ _).on _).mono ?_; rintro e w1 ⟨rfl, X2, rfl⟩; simp only [r6]) | (go_at_call 3; refine (nodeRuns_ans.on _).mono ?_; rintro e w1 ⟨rfl, X3, rfl⟩))
  go_ret
  exact ⟨rfl, by repeat (with_reducible first | exact Jk.refl _ | apply Jk.junk | apply Jk.alloc)⟩

theorem bad_6 (K : Int) (_h : 0 ≤ K) : Nd.rightB ⟨false, 0, 3, 2147483647, 30 + (1 + K), 1⟩ = false := by
  simp [Nd.rightB, fit32]
  try omega
set_option maxRecDepth 100000 in
set_option maxHeartbeats 1600000 in
theorem edges_6 (a b K : Int) (w : World) (k0 : 0 ≤ K) (k1 : K ≤ 1099511627776)
    (HK : Hid (AnsP 14 #[.int .i64 b, .int .i64 0, .int .i64 1099511627776] (.int .i64 K)))
    (HC : Hid (AnsP 14 #[.int .i64 a, .int .i64 0, .int .i64 9] (.int .i64 6))) :
    Calls Try.prog 6 #[.int .i64 a, .int .i64 b] w fun e w' => e = .returned (.bool true) ∧ Jk w w' := by
  have J := rules20
  have r1 := low_leaf
  have r2 := high_leaf
  have r3 := high_other
  have r4 := low_other
  have r5 := bad_6 K k0
  have r6 := Nd.pack_no r5
  go_enter Try.func6, Try.ntmps6
  go_wp2_with (first | (go_at_call 11; refine ((right_raw _ _ _ _ _ _).on _).mono ?_; rintro e w1 ⟨rfl, X1, rfl⟩; simp only [r1, r2, r3, r4, r5]) | (go_at_call 14; refine (AnsP.on (by with_reducible first | exact HK.out | exact HC.out) _).mono ?_; rintro e w1 ⟨rfl, rfl⟩) | (go_at_call 9; refine ((pack_raw _ _ _ _ _ _).on _).mono ?_; rintro e w1 ⟨rfl, X2, rfl⟩; simp only [r6]) | (go_at_call 3; refine (nodeRuns_ans.on _).mono ?_; rintro e w1 ⟨rfl, X3, rfl⟩))
  go_ret
  exact ⟨rfl, by repeat (with_reducible first | exact Jk.refl _ | apply Jk.junk | apply Jk.alloc)⟩

theorem bad_7 (K : Int) (_h : 0 ≤ K) : Nd.rightB ⟨false, 0, 3, 2147483647, 30, 1 - (1 + K)⟩ = false := by
  simp [Nd.rightB, fit32]
  try omega
set_option maxRecDepth 100000 in
set_option maxHeartbeats 1600000 in
theorem edges_7 (a b K : Int) (w : World) (k0 : 0 ≤ K) (k1 : K ≤ 1099511627776)
    (HK : Hid (AnsP 14 #[.int .i64 b, .int .i64 0, .int .i64 1099511627776] (.int .i64 K)))
    (HC : Hid (AnsP 14 #[.int .i64 a, .int .i64 0, .int .i64 9] (.int .i64 7))) :
    Calls Try.prog 6 #[.int .i64 a, .int .i64 b] w fun e w' => e = .returned (.bool true) ∧ Jk w w' := by
  have J := rules20
  have r1 := low_leaf
  have r2 := high_leaf
  have r3 := high_other
  have r4 := low_other
  have r5 := bad_7 K k0
  have r6 := Nd.pack_no r5
  go_enter Try.func6, Try.ntmps6
  go_wp2_with (first | (go_at_call 11; refine ((right_raw _ _ _ _ _ _).on _).mono ?_; rintro e w1 ⟨rfl, X1, rfl⟩; simp only [r1, r2, r3, r4, r5]) | (go_at_call 14; refine (AnsP.on (by with_reducible first | exact HK.out | exact HC.out) _).mono ?_; rintro e w1 ⟨rfl, rfl⟩) | (go_at_call 9; refine ((pack_raw _ _ _ _ _ _).on _).mono ?_; rintro e w1 ⟨rfl, X2, rfl⟩; simp only [r6]) | (go_at_call 3; refine (nodeRuns_ans.on _).mono ?_; rintro e w1 ⟨rfl, X3, rfl⟩))
  go_ret
  exact ⟨rfl, by repeat (with_reducible first | exact Jk.refl _ | apply Jk.junk | apply Jk.alloc)⟩

theorem bad_8 (K : Int) (_h : 0 ≤ K) : Nd.rightB ⟨false, 1 + K, 3, 2147483647, 30, 1⟩ = false := by
  simp [Nd.rightB, fit32]
  try omega
set_option maxRecDepth 100000 in
set_option maxHeartbeats 1600000 in
theorem edges_8 (a b K : Int) (w : World) (k0 : 0 ≤ K) (k1 : K ≤ 1099511627776)
    (HK : Hid (AnsP 14 #[.int .i64 b, .int .i64 0, .int .i64 1099511627776] (.int .i64 K)))
    (HC : Hid (AnsP 14 #[.int .i64 a, .int .i64 0, .int .i64 9] (.int .i64 8))) :
    Calls Try.prog 6 #[.int .i64 a, .int .i64 b] w fun e w' => e = .returned (.bool true) ∧ Jk w w' := by
  have J := rules20
  have r1 := low_leaf
  have r2 := high_leaf
  have r3 := high_other
  have r4 := low_other
  have r5 := bad_8 K k0
  have r6 := Nd.pack_no r5
  go_enter Try.func6, Try.ntmps6
  go_wp2_with (first | (go_at_call 11; refine ((right_raw _ _ _ _ _ _).on _).mono ?_; rintro e w1 ⟨rfl, X1, rfl⟩; simp only [r1, r2, r3, r4, r5]) | (go_at_call 14; refine (AnsP.on (by with_reducible first | exact HK.out | exact HC.out) _).mono ?_; rintro e w1 ⟨rfl, rfl⟩) | (go_at_call 9; refine ((pack_raw _ _ _ _ _ _).on _).mono ?_; rintro e w1 ⟨rfl, X2, rfl⟩; simp only [r6]) | (go_at_call 3; refine (nodeRuns_ans.on _).mono ?_; rintro e w1 ⟨rfl, X3, rfl⟩))
  go_ret
  exact ⟨rfl, by repeat (with_reducible first | exact Jk.refl _ | apply Jk.junk | apply Jk.alloc)⟩

theorem bad_9 (K : Int) (_h : 0 ≤ K) : Nd.rightB ⟨true, -2147483648, 0, 1 + K, 0, 0⟩ = false := by
  simp [Nd.rightB, fit32]
  try omega
set_option maxRecDepth 100000 in
set_option maxHeartbeats 1600000 in
theorem edges_9 (a b K : Int) (w : World) (k0 : 0 ≤ K) (k1 : K ≤ 1099511627776)
    (HK : Hid (AnsP 14 #[.int .i64 b, .int .i64 0, .int .i64 1099511627776] (.int .i64 K)))
    (HC : Hid (AnsP 14 #[.int .i64 a, .int .i64 0, .int .i64 9] (.int .i64 9))) :
    Calls Try.prog 6 #[.int .i64 a, .int .i64 b] w fun e w' => e = .returned (.bool true) ∧ Jk w w' := by
  have J := rules20
  have r1 := low_leaf
  have r2 := high_leaf
  have r3 := high_other
  have r4 := low_other
  have r5 := bad_9 K k0
  have r6 := Nd.pack_no r5
  go_enter Try.func6, Try.ntmps6
  go_wp2_with (first | (go_at_call 11; refine ((right_raw _ _ _ _ _ _).on _).mono ?_; rintro e w1 ⟨rfl, X1, rfl⟩; simp only [r1, r2, r3, r4, r5]) | (go_at_call 14; refine (AnsP.on (by with_reducible first | exact HK.out | exact HC.out) _).mono ?_; rintro e w1 ⟨rfl, rfl⟩) | (go_at_call 9; refine ((pack_raw _ _ _ _ _ _).on _).mono ?_; rintro e w1 ⟨rfl, X2, rfl⟩; simp only [r6]) | (go_at_call 3; refine (nodeRuns_ans.on _).mono ?_; rintro e w1 ⟨rfl, X3, rfl⟩))
  go_ret
  exact ⟨rfl, by repeat (with_reducible first | exact Jk.refl _ | apply Jk.junk | apply Jk.alloc)⟩

theorem nodeEdges_walk (a b : Int) (wa : (Lit.int .i64 a).wf = true) (wb : (Lit.int .i64 b).wf = true) (w : World) :
    Calls Try.prog 6 #[.int .i64 a, .int .i64 b] w fun e w' => e = .returned (.bool true) ∧ Jk w w' := by
  have ha := bdi wa
  have hb := bdi wb
  have HK : Hid (AnsP 14 #[.int .i64 b, .int .i64 0, .int .i64 1099511627776] (.int .i64 (withinI b 0 1099511627776))) := fun w => within_any b 0 1099511627776 w hb.1 hb.2 (by decide) (by decide) (by decide)
  have HC : Hid (AnsP 14 #[.int .i64 a, .int .i64 0, .int .i64 9] (.int .i64 (withinI a 0 9))) := fun w => within_any a 0 9 w ha.1 ha.2 (by decide) (by decide) (by decide)
  have k := within_bd b 0 1099511627776 (by decide)
  have c := within_bd a 0 9 (by decide)
  generalize withinI b 0 1099511627776 = K at HK k
  generalize withinI a 0 9 = C at HC c
  obtain rfl | rfl | rfl | rfl | rfl | rfl | rfl | rfl | rfl | rfl : C = 0 ∨ C = 1 ∨ C = 2 ∨ C = 3 ∨ C = 4 ∨ C = 5 ∨ C = 6 ∨ C = 7 ∨ C = 8 ∨ C = 9 := by omega
  · exact edges_0 a b K w k.1 k.2 HK HC
  · exact edges_1 a b K w k.1 k.2 HK HC
  · exact edges_2 a b K w k.1 k.2 HK HC
  · exact edges_3 a b K w k.1 k.2 HK HC
  · exact edges_4 a b K w k.1 k.2 HK HC
  · exact edges_5 a b K w k.1 k.2 HK HC
  · exact edges_6 a b K w k.1 k.2 HK HC
  · exact edges_7 a b K w k.1 k.2 HK HC
  · exact edges_8 a b K w k.1 k.2 HK HC
  · exact edges_9 a b K w k.1 k.2 HK HC

end Go.Proofs.Ytppaaebafhfinaa
