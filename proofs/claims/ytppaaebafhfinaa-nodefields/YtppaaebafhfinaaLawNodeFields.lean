/- The law NodeFields of chapter 6 answers true for every six ints: a node's numbers stand in their fields; a leaf is one by its highest bit; a word whose other bits aren't 0 is none. -/
import Derived.Test.YtppaaebafhfinaaLawNodeRuns
import Derived.Test.YtppaaebafhfinaaWithinB
import Derived.Test.YtppaaebafhfinaaMathN2
import Derived.Deep.DeepCutAuto
namespace Go.Proofs.Ytppaaebafhfinaa
open Go.RowKit M

set_option maxRecDepth 100000 in
set_option maxHeartbeats 4000000 in
theorem fields_core (b1 b2 b3 b4 b5 b6 f a l r v p q t1 t2 t3 : Int) (k1 k2 k3 : Nat) (n1 n2 n3 : Nd) (w : World)
    (hk1 : k1 ≤ 63) (hk2 : k2 ≤ 63) (hk3 : k3 ≤ 63)
    (W1 : Hid (AnsP 14 #[.int .i64 b1, .int .i64 0, .int .i64 3] (.int .i64 f)))
    (W2 : Hid (AnsP 14 #[.int .i64 b2, .int .i64 (-2147483648), .int .i64 2147483647] (.int .i64 a)))
    (W3 : Hid (AnsP 14 #[.int .i64 b3, .int .i64 1, .int .i64 30] (.int .i64 l)))
    (W4 : Hid (AnsP 14 #[.int .i64 b4, .int .i64 1, .int .i64 30] (.int .i64 r)))
    (W5 : Hid (AnsP 14 #[.int .i64 b5, .int .i64 (-2147483648), .int .i64 2147483647] (.int .i64 v)))
    (W6 : Hid (AnsP 14 #[.int .i64 b6, .int .i64 36, .int .i64 39] (.int .i64 k1)))
    (W7 : Hid (AnsP 14 #[.int .i64 b6, .int .i64 56, .int .i64 62] (.int .i64 k2)))
    (W8 : Hid (AnsP 14 #[.int .i64 b6, .int .i64 32, .int .i64 62] (.int .i64 k3)))
    (P1 : Hid (Ans 9 #[nodeV ⟨false, 0, f, a, l, r⟩] (.int .u64 p)))
    (P2 : Hid (Ans 9 #[nodeV ⟨true, v, 0, 0, 0, 0⟩] (.int .u64 q)))
    (S1 : Hid (Ans 15 #[.int .u64 p, .int .i64 0, .int .i64 32] (.int .i64 a)))
    (G1 : Hid (Ans 16 #[.int .u64 p, .int .i64 32, .int .i64 4] (.int .u64 f))) (c1 : wrap64 f = f)
    (G2 : Hid (Ans 16 #[.int .u64 p, .int .i64 40, .int .i64 8] (.int .u64 l))) (c2 : wrap64 l = l)
    (G3 : Hid (Ans 16 #[.int .u64 p, .int .i64 48, .int .i64 8] (.int .u64 r))) (c3 : wrap64 r = r)
    (G4 : Hid (Ans 16 #[.int .u64 p, .int .i64 63, .int .i64 1] (.int .u64 0)))
    (G5 : Hid (Ans 16 #[.int .u64 q, .int .i64 63, .int .i64 1] (.int .u64 1)))
    (S2 : Hid (Ans 15 #[.int .u64 q, .int .i64 0, .int .i64 32] (.int .i64 v)))
    (G6 : Hid (Ans 16 #[.int .u64 q, .int .i64 32, .int .i64 31] (.int .u64 0)))
    (h1 : bits .or .u64 p (IntKind.u64.wrap (2 ^ k1)) = t1) (h2 : bits .or .u64 p (IntKind.u64.wrap (2 ^ k2)) = t2) (h3 : bits .or .u64 q (IntKind.u64.wrap (2 ^ k3)) = t3)
    (U1 : Hid (Ans 8 #[.int .u64 t1] (.tuple #[nodeV n1, .bool false])))
    (U2 : Hid (Ans 8 #[.int .u64 t2] (.tuple #[nodeV n2, .bool false])))
    (U3 : Hid (Ans 8 #[.int .u64 t3] (.tuple #[nodeV n3, .bool false]))) :
    Calls Try.prog 7 #[.int .i64 b1, .int .i64 b2, .int .i64 b3, .int .i64 b4, .int .i64 b5, .int .i64 b6] w fun e w' => e = .returned (.bool true) ∧ Jk w w' := by
  have J := rules20
  obtain ⟨l1, v1, f1, a1, e1, r1⟩ := n1
  obtain ⟨l2, v2, f2, a2, e2, r2⟩ := n2
  obtain ⟨l3, v3, f3, a3, e3, r3⟩ := n3
  go_enter Try.func7, Try.ntmps7
  go_upto_region 3 with (first | (go_at_call 14; refine (AnsP.on (by with_reducible first | exact W1.out | exact W2.out | exact W3.out | exact W4.out) _).mono ?_; rintro e w1 ⟨rfl, rfl⟩) | (go_at_call 9; refine (P1.out.on _).mono ?_; rintro e w1 ⟨rfl, X1, rfl⟩))
  refine region_junk (by kernel_rfl) (by kernel_rfl) ?_
  repeat (go_big_quiet_step (first | (go_at_call 15; exact S1.out.junk _) | (go_at_call 16; exact Ans.junk (by with_reducible first | exact G1.out | exact G2.out | exact G3.out | exact G4.out) _) | exact rfl))
  refine wpQuiet_nil ?_
  rintro _ ⟨X, rfl⟩
  go_upto_region 9 with (first | (go_at_call 14; refine (W5.out.on _).mono ?_; rintro e w1 ⟨rfl, rfl⟩) | (go_at_call 9; refine (P2.out.on _).mono ?_; rintro e w1 ⟨rfl, X2, rfl⟩) | (go_at_call 15; refine (S2.out.on _).mono ?_; rintro e w1 ⟨rfl, X3, rfl⟩) | (go_at_call 16; refine (Ans.on (by with_reducible first | exact G5.out | exact G6.out) _).mono ?_; rintro e w1 ⟨rfl, X4, rfl⟩))
  go_wp2_with (first | (go_at_call 14; refine (AnsP.on (by with_reducible first | exact W6.out | exact W7.out | exact W8.out) _).mono ?_; rintro e w1 ⟨rfl, rfl⟩) | (go_at_call 8; refine (Ans.on (by with_reducible first | exact U1.out | exact U2.out | exact U3.out) _).mono ?_; rintro e w1 ⟨rfl, X7, rfl⟩) | (go_at_call 3; refine (nodeRuns_ans.on _).mono ?_; rintro e w1 ⟨rfl, X8, rfl⟩))
  go_ret
  exact ⟨rfl, by repeat (with_reducible first | exact Jk.refl _ | apply Jk.junk | apply Jk.alloc)⟩

theorem or_code (x : Int) (K : Nat) (h0 : 0 ≤ x) (h : x ≤ 18446744073709551615) (hK : K ≤ 63) : bits .or .u64 x (IntKind.u64.wrap (2 ^ K)) = ((x.toNat ||| 2 ^ K : Nat) : Int) := by
  have h1 := pow_pos' K
  have h2 := pow_le63 K 63 hK
  rw [IntWalk.u64_in (2 ^ K) ⟨by omega, by omega⟩]
  exact or_u64 x K h0 h hK
theorem none_ans {x : Nat} (hx : x < 18446744073709551616) (h : unB (x : Int) = false) : Ans 8 #[.int .u64 (x : Int)] (.tuple #[nodeV Nd.nil, .bool false]) := by
  have := unpack_ans (x : Int) (by omega) (by omega)
  rw [un_no h, h] at this
  exact this
theorem at_within {b lo hi : Int} (hb : -9223372036854775808 ≤ b ∧ b ≤ 9223372036854775807) (h : 0 ≤ lo) (h1 : lo ≤ hi) (h2 : hi ≤ 63) : ∃ k : Nat, lo ≤ k ∧ k ≤ hi ∧ Hid (AnsP 14 #[.int .i64 b, .int .i64 lo, .int .i64 hi] (.int .i64 k)) := by
  have hw := within_bd b lo hi h1
  obtain ⟨K, hK⟩ := Int.eq_ofNat_of_zero_le (show 0 ≤ withinI b lo hi by omega)
  refine ⟨K, by omega, by omega, fun w => ?_⟩
  have := within_any b lo hi w hb.1 hb.2 h1 (by omega) (by omega)
  rwa [hK] at this
theorem other_facts (f a l r : Int) (f0 : 0 ≤ f ∧ f ≤ 3) (a0 : -2147483648 ≤ a ∧ a ≤ 2147483647) (l0 : 1 ≤ l ∧ l ≤ 30) (r0 : 1 ≤ r ∧ r ≤ 30) :
    ∃ p, Nd.pack ⟨false, 0, f, a, l, r⟩ = p ∧ 0 ≤ p ∧ p ≤ 18446744073709551615 ∧ sgI p = a ∧ p / 4294967296 % 16 = f ∧ p / 1099511627776 % 256 = l ∧ p / 281474976710656 % 256 = r ∧ p / 9223372036854775808 % 2 = 0 := by
  have hR : Nd.rightB ⟨false, 0, f, a, l, r⟩ = true := Nd.right_iff.2 (by simp [Nd.Right]; omega)
  refine ⟨_, rfl, (Nd.pack_bd _).1, (Nd.pack_bd _).2, ?_⟩
  rw [Nd.pack_of hR, word_other]
  have e := sg_back (x := a % 4294967296 + f * 4294967296 + l * 1099511627776 + r * 281474976710656) a0.1 a0.2 (by omega)
  exact ⟨e, by omega, by omega, by omega, by omega⟩
theorem leaf_facts (v : Int) (v0 : -2147483648 ≤ v ∧ v ≤ 2147483647) :
    ∃ q, Nd.pack ⟨true, v, 0, 0, 0, 0⟩ = q ∧ 9223372036854775808 ≤ q ∧ q ≤ 18446744073709551615 ∧ sgI q = v ∧ q / 9223372036854775808 % 2 = 1 ∧ q / 4294967296 % 2147483648 = 0 := by
  have hR : Nd.rightB ⟨true, v, 0, 0, 0, 0⟩ = true := Nd.right_iff.2 (by simp [Nd.Right]; omega)
  have e1 : Nd.word ⟨true, v, 0, 0, 0, 0⟩ = 9223372036854775808 + v % 4294967296 := rfl
  refine ⟨_, rfl, ?_⟩
  rw [Nd.pack_of hR, e1]
  have e := sg_back (x := 9223372036854775808 + v % 4294967296) v0.1 v0.2 (by omega)
  exact ⟨by omega, by omega, e, by omega, by omega⟩

theorem nodeFields_walk (b1 b2 b3 b4 b5 b6 : Int) (w1 : (Lit.int .i64 b1).wf = true) (w2 : (Lit.int .i64 b2).wf = true) (w3 : (Lit.int .i64 b3).wf = true) (w4 : (Lit.int .i64 b4).wf = true) (w5 : (Lit.int .i64 b5).wf = true) (w6 : (Lit.int .i64 b6).wf = true) (w : World) :
    Calls Try.prog 7 #[.int .i64 b1, .int .i64 b2, .int .i64 b3, .int .i64 b4, .int .i64 b5, .int .i64 b6] w fun e w' => e = .returned (.bool true) ∧ Jk w w' := by
  have W1 : Hid (AnsP 14 #[.int .i64 b1, .int .i64 0, .int .i64 3] (.int .i64 (withinI b1 0 3))) := fun w => within_any _ _ _ w (bdi w1).1 (bdi w1).2 (by decide) (by decide) (by decide)
  have W2 : Hid (AnsP 14 #[.int .i64 b2, .int .i64 (-2147483648), .int .i64 2147483647] (.int .i64 (withinI b2 (-2147483648) 2147483647))) := fun w => within_any _ _ _ w (bdi w2).1 (bdi w2).2 (by decide) (by decide) (by decide)
  have W3 : Hid (AnsP 14 #[.int .i64 b3, .int .i64 1, .int .i64 30] (.int .i64 (withinI b3 1 30))) := fun w => within_any _ _ _ w (bdi w3).1 (bdi w3).2 (by decide) (by decide) (by decide)
  have W4 : Hid (AnsP 14 #[.int .i64 b4, .int .i64 1, .int .i64 30] (.int .i64 (withinI b4 1 30))) := fun w => within_any _ _ _ w (bdi w4).1 (bdi w4).2 (by decide) (by decide) (by decide)
  have W5 : Hid (AnsP 14 #[.int .i64 b5, .int .i64 (-2147483648), .int .i64 2147483647] (.int .i64 (withinI b5 (-2147483648) 2147483647))) := fun w => within_any _ _ _ w (bdi w5).1 (bdi w5).2 (by decide) (by decide) (by decide)
  have d1 := within_bd b1 0 3 (by decide)
  have d2 := within_bd b2 (-2147483648) 2147483647 (by decide)
  have d3 := within_bd b3 1 30 (by decide)
  have d4 := within_bd b4 1 30 (by decide)
  have d5 := within_bd b5 (-2147483648) 2147483647 (by decide)
  obtain ⟨k1, i1, j1, W6⟩ := at_within (lo := 36) (hi := 39) (bdi w6) (by decide) (by decide) (by decide)
  obtain ⟨k2, i2, j2, W7⟩ := at_within (lo := 56) (hi := 62) (bdi w6) (by decide) (by decide) (by decide)
  obtain ⟨k3, i3, j3, W8⟩ := at_within (lo := 32) (hi := 62) (bdi w6) (by decide) (by decide) (by decide)
  generalize withinI b1 0 3 = f at W1 d1
  generalize withinI b2 (-2147483648) 2147483647 = a at W2 d2
  generalize withinI b3 1 30 = l at W3 d3
  generalize withinI b4 1 30 = r at W4 d4
  generalize withinI b5 (-2147483648) 2147483647 = v at W5 d5
  obtain ⟨p, hp, p0, p1, p2, p3, p4, p5, p6⟩ := other_facts f a l r d1 d2 d3 d4
  obtain ⟨q, hq, q0, q1, q2, q3, q4⟩ := leaf_facts v d5
  have S1 : Hid (Ans 15 #[.int .u64 p, .int .i64 0, .int .i64 32] (.int .i64 a)) := p2 ▸ signed_ans p0 p1
  have S2 : Hid (Ans 15 #[.int .u64 q, .int .i64 0, .int .i64 32] (.int .i64 v)) := q2 ▸ signed_ans (by omega) q1
  have G6 : getI q 32 31 = 0 := by
    have := M.get_at q 32 31 (by decide) (by omega)
    simp at this
    rw [this]; exact q4
  exact fields_core b1 b2 b3 b4 b5 b6 f a l r v p q _ _ _ k1 k2 k3 _ _ _ w (by omega) (by omega) (by omega) W1 W2 W3 W4 W5 W6 W7 W8 (pack_is hp) (pack_is hq) S1
    (get_ans p0 p1 (by rw [get_feature p p0, p3])) (wrap64_low (by omega) (by omega)) (get_ans p0 p1 (by rw [get_left p p0, p4])) (wrap64_low (by omega) (by omega)) (get_ans p0 p1 (by rw [get_right p p0, p5])) (wrap64_low (by omega) (by omega))
    (get_ans p0 p1 (by rw [get_leaf p p0, p6])) (get_ans (by omega) q1 (by rw [get_leaf q (by omega), q3])) S2 (get_ans (by omega) q1 G6)
    (or_code p k1 p0 p1 (by omega)) (or_code p k2 p0 p1 (by omega)) (or_code q k3 (by omega) q1 (by omega))
    (none_ans (set_bd _ _ (by omega) (by omega)) (set_36 _ _ (by omega) (by omega))) (none_ans (set_bd _ _ (by omega) (by omega)) (set_56 _ _ (by omega) (by omega))) (none_ans (set_bd _ _ (by omega) (by omega)) (set_leaf _ _ (by omega) (by omega) (by omega)))

end Go.Proofs.Ytppaaebafhfinaa
