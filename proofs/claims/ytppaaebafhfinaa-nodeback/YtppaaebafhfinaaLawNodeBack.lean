/- The law NodeBack of chapter 6 answers true for every two nodes, every word and every int: a right node comes back; two have one word just if they are the same; what is unpacked is packed so; a bit that is turned is another one, or none. -/
import Derived.Test.YtppaaebafhfinaaLawNodeRuns
import Derived.Test.YtppaaebafhfinaaWithinB
import Derived.Test.YtppaaebafhfinaaMathN2
import Derived.Deep.DeepCutAuto
namespace Go.Proofs.Ytppaaebafhfinaa
open Go.RowKit M

set_option maxRecDepth 100000 in
set_option maxHeartbeats 4000000 in
theorem back_yes (l1 l2 l3 l4 S G I O : Bool) (v1 f1 a1 e1 r1 v2 f2 a2 e2 r2 v3 f3 a3 e3 r3 v4 f4 a4 e4 r4 p q x b t : Int) (K : Nat) (w : World) (hK : K ≤ 63)
    (HP : Hid (Ans 9 #[nodeV ⟨l1, v1, f1, a1, e1, r1⟩] (.int .u64 p)))
    (HQ : Hid (Ans 9 #[nodeV ⟨l2, v2, f2, a2, e2, r2⟩] (.int .u64 q)))
    (HU : Hid (Ans 8 #[.int .u64 p] (.tuple #[nodeV ⟨l1, v1, f1, a1, e1, r1⟩, .bool true])))
    (HR : Hid (Ans 11 #[nodeV ⟨l1, v1, f1, a1, e1, r1⟩] (.bool true)))
    (HS : Hid (Ans 11 #[nodeV ⟨l2, v2, f2, a2, e2, r2⟩] (.bool S)))
    (hG : S = true → (p == q) = G ∧ Nd.eqB ⟨l1, v1, f1, a1, e1, r1⟩ ⟨l2, v2, f2, a2, e2, r2⟩ = G)
    (HX : Hid (Ans 8 #[.int .u64 x] (.tuple #[nodeV ⟨l3, v3, f3, a3, e3, r3⟩, .bool I])))
    (HY : Hid (I = true → Ans 9 #[nodeV ⟨l3, v3, f3, a3, e3, r3⟩] (.int .u64 x)))
    (HZ : Hid (I = true → Ans 11 #[nodeV ⟨l3, v3, f3, a3, e3, r3⟩] (.bool true)))
    (HW : Hid (AnsP 14 #[.int .i64 b, .int .i64 0, .int .i64 63] (.int .i64 K)))
    (ht : bits .xor .u64 p (IntKind.u64.wrap (2 ^ K)) = t)
    (HT : Hid (Ans 8 #[.int .u64 t] (.tuple #[nodeV ⟨l4, v4, f4, a4, e4, r4⟩, .bool O])))
    (hO : O = true → Nd.eqB ⟨l4, v4, f4, a4, e4, r4⟩ ⟨l1, v1, f1, a1, e1, r1⟩ = false) :
    Calls Try.prog 5 #[nodeV ⟨l1, v1, f1, a1, e1, r1⟩, nodeV ⟨l2, v2, f2, a2, e2, r2⟩, .int .u64 x, .int .i64 b] w fun e w' => e = .returned (.bool true) ∧ Jk w w' := by
  have J := rules20
  have hG := hid hG
  have hO := hid hO
  have E : ∀ w : World, (Op.equalIn 10000 23 (.agg #[.bool l1, .int .i64 v1, .int .i64 f1, .int .i64 a1, .int .i64 e1, .int .i64 r1]) (.agg #[.bool l1, .int .i64 v1, .int .i64 f1, .int .i64 a1, .int .i64 e1, .int .i64 r1])).run Try.prog w = .ok true w := fun w => by
    have := nodeBits ⟨l1, v1, f1, a1, e1, r1⟩ ⟨l1, v1, f1, a1, e1, r1⟩ w
    rw [Nd.eqB_self] at this
    exact this
  go_enter Try.func5, Try.ntmps5
  go_upto_region 1 with fail
  refine region_junk (by kernel_rfl) (by kernel_rfl) ?_
  repeat (go_big_quiet_step (first | (go_at_call 9; exact Ans.junk (by with_reducible first | exact HP.out | exact HQ.out) _) | exact rfl))
  refine wpQuiet_nil ?_
  rintro _ ⟨X, rfl⟩
  go_upto_region 5 with (first | (go_at_call 8; refine (HU.out.on _).mono ?_; rintro e w1 ⟨rfl, X1, rfl⟩) | (go_at_call 11; refine (HR.out.on _).mono ?_; rintro e w1 ⟨rfl, X2, rfl⟩))
  cases S
  case' false =>
    clear hG
    go_upto_region 7 with (first | (go_at_call 11; refine (Ans.on (by with_reducible first | exact HR.out | exact HS.out) _).mono ?_; rintro e w1 ⟨rfl, X3, rfl⟩))
  case' true =>
    have E2 : ∀ w : World, (Op.equalIn 10000 23 (.agg #[.bool l1, .int .i64 v1, .int .i64 f1, .int .i64 a1, .int .i64 e1, .int .i64 r1]) (.agg #[.bool l2, .int .i64 v2, .int .i64 f2, .int .i64 a2, .int .i64 e2, .int .i64 r2])).run Try.prog w = .ok G w := fun w => by
      have := nodeBits ⟨l1, v1, f1, a1, e1, r1⟩ ⟨l2, v2, f2, a2, e2, r2⟩ w
      rw [(hG.out rfl).2] at this
      exact this
    have g := (hG.out rfl).1
    clear hG
    go_upto_region 7 with (first | (go_at_call 11; refine (Ans.on (by with_reducible first | exact HR.out | exact HS.out) _).mono ?_; rintro e w1 ⟨rfl, X3, rfl⟩))
  all_goals
    cases I
    case' false =>
      clear HY HZ
      go_upto_region 10 with (first | (go_at_call 8; refine (HX.out.on _).mono ?_; rintro e w1 ⟨rfl, X4, rfl⟩))
    case' true =>
      have HY2 := hid (HY.out rfl)
      have HZ2 := hid (HZ.out rfl)
      clear HY HZ
      go_upto_region 10 with (first | (go_at_call 8; refine (HX.out.on _).mono ?_; rintro e w1 ⟨rfl, X4, rfl⟩) | (go_at_call 11; refine (HZ2.out.on _).mono ?_; rintro e w1 ⟨rfl, X5, rfl⟩) | (go_at_call 9; refine (HY2.out.on _).mono ?_; rintro e w1 ⟨rfl, X6, rfl⟩))
  all_goals
    cases O
    case' false =>
      clear hO
    case' true =>
      have E3 : ∀ w : World, (Op.equalIn 10000 23 (.agg #[.bool l4, .int .i64 v4, .int .i64 f4, .int .i64 a4, .int .i64 e4, .int .i64 r4]) (.agg #[.bool l1, .int .i64 v1, .int .i64 f1, .int .i64 a1, .int .i64 e1, .int .i64 r1])).run Try.prog w = .ok false w := fun w => by
        have := nodeBits ⟨l4, v4, f4, a4, e4, r4⟩ ⟨l1, v1, f1, a1, e1, r1⟩ w
        rw [hO.out rfl] at this
        exact this
  all_goals
    go_wp2_with (first | (go_at_call 14; refine (HW.out.on _).mono ?_; rintro e w1 ⟨rfl, rfl⟩) | (go_at_call 8; refine (Ans.on (by with_reducible exact HT.out) _).mono ?_; rintro e w1 ⟨rfl, X7, rfl⟩) | (go_at_call 3; refine (nodeRuns_ans.on _).mono ?_; rintro e w1 ⟨rfl, X8, rfl⟩))
    go_ret
    exact ⟨rfl, by repeat (with_reducible first | exact Jk.refl _ | apply Jk.junk | apply Jk.alloc)⟩

set_option maxRecDepth 100000 in
set_option maxHeartbeats 4000000 in
theorem back_no (l1 l2 l3 l4 I O : Bool) (v1 f1 a1 e1 r1 v2 f2 a2 e2 r2 v3 f3 a3 e3 r3 v4 f4 a4 e4 r4 q x b t : Int) (K : Nat) (w : World) (hK : K ≤ 63)
    (HP : Hid (Ans 9 #[nodeV ⟨l1, v1, f1, a1, e1, r1⟩] (.int .u64 0)))
    (HQ : Hid (Ans 9 #[nodeV ⟨l2, v2, f2, a2, e2, r2⟩] (.int .u64 q)))
    (HU : Hid (Ans 8 #[.int .u64 0] (.tuple #[nodeV Nd.nil, .bool false])))
    (HR : Hid (Ans 11 #[nodeV ⟨l1, v1, f1, a1, e1, r1⟩] (.bool false)))
    (HX : Hid (Ans 8 #[.int .u64 x] (.tuple #[nodeV ⟨l3, v3, f3, a3, e3, r3⟩, .bool I])))
    (HY : Hid (I = true → Ans 9 #[nodeV ⟨l3, v3, f3, a3, e3, r3⟩] (.int .u64 x)))
    (HZ : Hid (I = true → Ans 11 #[nodeV ⟨l3, v3, f3, a3, e3, r3⟩] (.bool true)))
    (HW : Hid (AnsP 14 #[.int .i64 b, .int .i64 0, .int .i64 63] (.int .i64 K)))
    (ht : bits .xor .u64 0 (IntKind.u64.wrap (2 ^ K)) = t)
    (HT : Hid (Ans 8 #[.int .u64 t] (.tuple #[nodeV ⟨l4, v4, f4, a4, e4, r4⟩, .bool O]))) :
    Calls Try.prog 5 #[nodeV ⟨l1, v1, f1, a1, e1, r1⟩, nodeV ⟨l2, v2, f2, a2, e2, r2⟩, .int .u64 x, .int .i64 b] w fun e w' => e = .returned (.bool true) ∧ Jk w w' := by
  have J := rules20
  have E : ∀ w : World, (Op.equalIn 10000 23 (.agg #[.bool false, .int .i64 0, .int .i64 0, .int .i64 0, .int .i64 0, .int .i64 0]) (.agg #[.bool false, .int .i64 0, .int .i64 0, .int .i64 0, .int .i64 0, .int .i64 0])).run Try.prog w = .ok true w := fun w => by
    have := nodeBits Nd.nil Nd.nil w
    rw [Nd.eqB_self] at this
    exact this
  go_enter Try.func5, Try.ntmps5
  go_upto_region 1 with fail
  refine region_junk (by kernel_rfl) (by kernel_rfl) ?_
  repeat (go_big_quiet_step (first | (go_at_call 9; exact Ans.junk (by with_reducible first | exact HP.out | exact HQ.out) _) | exact rfl))
  refine wpQuiet_nil ?_
  rintro _ ⟨X, rfl⟩
  go_upto_region 7 with (first | (go_at_call 8; refine (HU.out.on _).mono ?_; rintro e w1 ⟨rfl, X1, rfl⟩) | (go_at_call 11; refine (HR.out.on _).mono ?_; rintro e w1 ⟨rfl, X2, rfl⟩))
  cases I
  case' false =>
    clear HY HZ
    go_upto_region 10 with (first | (go_at_call 8; refine (HX.out.on _).mono ?_; rintro e w1 ⟨rfl, X4, rfl⟩))
  case' true =>
    have HY2 := hid (HY.out rfl)
    have HZ2 := hid (HZ.out rfl)
    clear HY HZ
    go_upto_region 10 with (first | (go_at_call 8; refine (HX.out.on _).mono ?_; rintro e w1 ⟨rfl, X4, rfl⟩) | (go_at_call 11; refine (HZ2.out.on _).mono ?_; rintro e w1 ⟨rfl, X5, rfl⟩) | (go_at_call 9; refine (HY2.out.on _).mono ?_; rintro e w1 ⟨rfl, X6, rfl⟩))
  all_goals
    cases O
  all_goals
    go_wp2_with (first | (go_at_call 14; refine (HW.out.on _).mono ?_; rintro e w1 ⟨rfl, rfl⟩) | (go_at_call 8; refine (Ans.on (by with_reducible exact HT.out) _).mono ?_; rintro e w1 ⟨rfl, X7, rfl⟩) | (go_at_call 3; refine (nodeRuns_ans.on _).mono ?_; rintro e w1 ⟨rfl, X8, rfl⟩))
    go_ret
    exact ⟨rfl, by repeat (with_reducible first | exact Jk.refl _ | apply Jk.junk | apply Jk.alloc)⟩

theorem xor_code (x : Int) (K : Nat) (h0 : 0 ≤ x) (h : x ≤ 18446744073709551615) (hK : K ≤ 63) : bits .xor .u64 x (IntKind.u64.wrap (2 ^ K)) = ((x.toNat ^^^ 2 ^ K : Nat) : Int) := by
  have h1 := pow_pos' K
  have h2 := pow_le63 K 63 hK
  rw [IntWalk.u64_in (2 ^ K) ⟨by omega, by omega⟩]
  exact xor_u64 x K h0 h hK

theorem nodeBack_walk (n m : Nd) (x b : Int) (wx : (Lit.int .u64 x).wf = true) (wb : (Lit.int .i64 b).wf = true) (w : World) :
    Calls Try.prog 5 #[nodeV n, nodeV m, .int .u64 x, .int .i64 b] w fun e w' => e = .returned (.bool true) ∧ Jk w w' := by
  have hx := bdu wx
  have hb := bdi wb
  have hw := within_bd b 0 63 (by decide)
  obtain ⟨K, hK⟩ := Int.eq_ofNat_of_zero_le hw.1
  have HW : Hid (AnsP 14 #[.int .i64 b, .int .i64 0, .int .i64 63] (.int .i64 K)) := fun w => by
    have := within_any b 0 63 w hb.1 hb.2 (by decide) (by decide) (by decide)
    rwa [hK] at this
  have hK2 : K ≤ 63 := by omega
  have HX := hid (unpack_ans x hx.1 hx.2)
  have HY : Hid (unB x = true → Ans 9 #[nodeV (unI x)] (.int .u64 x)) := fun h => pack_is (un_of h).2
  have HZ : Hid (unB x = true → Ans 11 #[nodeV (unI x)] (.bool true)) := fun h => right_is (un_of h).1
  generalize unI x = u at HX HY HZ
  generalize unB x = I at HX HY HZ
  have hp := Nd.pack_bd n
  have ht := xor_code n.pack K hp.1 hp.2 hK2
  have hbd := turned_bd n.pack.toNat K (by omega) hK2
  have HT := hid (unpack_ans ((n.pack.toNat ^^^ 2 ^ K : Nat) : Int) (by omega) (by omega))
  cases hR : n.rightB with
  | false =>
    have h0 := Nd.pack_no hR
    rw [h0] at ht HT
    have HP := hid (pack_is h0)
    have HU : Hid (Ans 8 #[.int .u64 0] (.tuple #[nodeV Nd.nil, .bool false])) := by
      have := unpack_ans 0 (by decide) (by decide)
      rw [un_zero.1, un_zero.2] at this
      exact this
    have HR := hid (right_is hR)
    have HQ := hid (pack_ans m)
    generalize unI (((0 : Int).toNat ^^^ 2 ^ K : Nat) : Int) = z at HT
    generalize unB (((0 : Int).toNat ^^^ 2 ^ K : Nat) : Int) = O at HT
    generalize m.pack = q at HQ
    clear hR h0 hp hbd
    obtain ⟨l1, v1, f1, a1, e1, r1⟩ := n
    obtain ⟨l2, v2, f2, a2, e2, r2⟩ := m
    obtain ⟨l3, v3, f3, a3, e3, r3⟩ := u
    obtain ⟨l4, v4, f4, a4, e4, r4⟩ := z
    exact back_no l1 l2 l3 l4 I O v1 f1 a1 e1 r1 v2 f2 a2 e2 r2 v3 f3 a3 e3 r3 v4 f4 a4 e4 r4 q x b _ K w hK2 HP HQ HU HR HX HY HZ HW ht HT
  | true =>
    have HP := hid (pack_ans n)
    have HQ := hid (pack_ans m)
    have HR := hid (right_is hR)
    have HS := hid (right_ans m)
    have HU : Hid (Ans 8 #[.int .u64 n.pack] (.tuple #[nodeV n, .bool true])) := by
      have := unpack_ans n.pack hp.1 hp.2
      rw [(un_pack n).1, (un_pack n).2.1 hR, hR] at this
      exact this
    have hG : m.rightB = true → (n.pack == m.pack) = n.eqB m ∧ n.eqB m = n.eqB m := fun h => ⟨pack_inj hR h, rfl⟩
    have hO : unB ((n.pack.toNat ^^^ 2 ^ K : Nat) : Int) = true → (unI ((n.pack.toNat ^^^ 2 ^ K : Nat) : Int)).eqB n = false := fun h => Nd.eqB_no (turned_other (by omega) h)
    generalize unI ((n.pack.toNat ^^^ 2 ^ K : Nat) : Int) = z at HT hO
    generalize unB ((n.pack.toNat ^^^ 2 ^ K : Nat) : Int) = O at HT hO
    generalize m.rightB = S at HS hG
    generalize m.pack = q at HQ hG
    clear hR hp hbd
    obtain ⟨l1, v1, f1, a1, e1, r1⟩ := n
    obtain ⟨l2, v2, f2, a2, e2, r2⟩ := m
    obtain ⟨l3, v3, f3, a3, e3, r3⟩ := u
    obtain ⟨l4, v4, f4, a4, e4, r4⟩ := z
    exact back_yes l1 l2 l3 l4 S _ I O v1 f1 a1 e1 r1 v2 f2 a2 e2 r2 v3 f3 a3 e3 r3 v4 f4 a4 e4 r4 _ q x b _ K w hK2 HP HQ HU HR HS hG HX HY HZ HW ht HT hO

end Go.Proofs.Ytppaaebafhfinaa
