/- What each function of package node answers, for every argument: the contracts of chapter 6's code. A node comes as a value and is laid into memory by the code: nothing that was there before is changed.
   What Right, Pack, read and Unpack of package node answer, for every argument: the contracts of chapter 6's code.
   What Pack of package node answers, for every node: its word, or 0.
   What read and Unpack of package node answer, for every word: the right node that Pack makes it of, or none. -/
import Derived.Test.YtkkbeobocbgmeaaGreatBits
import Derived.Test.YtkkbeobocbgmeaaGreatMathT
import Derived.Test.YtkkbeobocbgmeaaGreatJunk
import Derived.ChangeKeysEq
import Derived.Deep.RegionWith
import Derived.Deep.DeepCutAuto
namespace Go.Proofs.YtkkbeobocbgmeaaGreat
open Go.RowKit M

theorem hid {p : Prop} (h : p) : Hid p := h
abbrev nodeV (n : Nd) : Value := .agg #[.bool n.leaf, .int .i64 n.v, .int .i64 n.f, .int .i64 n.a, .int .i64 n.l, .int .i64 n.r]

theorem Jk.drewN {a w : World} (h : Jk a w) (n : Nat) : Jk a (w.drewN n) := h.trans ⟨⟨#[], (w.drewN n).drawn⟩, by simp [Go.Proofs.YtkkbeobocbgmeaaGreat.junk, World.drewN]⟩

theorem fits_ans {n : Int} : Ans 68 #[.int .i64 n, .int .i64 32] (.bool (fit32 n)) := fun w =>
  (fits_any n 32 w).mono fun _ _ ⟨e, h⟩ => ⟨by rw [e, fits32], h ▸ Jk.refl _⟩

theorem put_ans {x a k y z : Int} (hx : 0 ≤ x) (hx2 : x ≤ 18446744073709551615) (hy : 0 ≤ y) (hy2 : y ≤ 18446744073709551615) (h : putI x a k y = z) : Ans 105 #[.int .u64 x, .int .i64 a, .int .i64 k, .int .u64 y] (.int .u64 z) := fun w =>
  (put_any x a k y w hx hx2 hy hy2).mono fun _ _ ⟨e, n, hw⟩ => ⟨by rw [e, h], hw ▸ (Jk.refl w).drewN n⟩

theorem get_ans {x a k z : Int} (hx : 0 ≤ x) (hx2 : x ≤ 18446744073709551615) (h : getI x a k = z) : Ans 61 #[.int .u64 x, .int .i64 a, .int .i64 k] (.int .u64 z) := fun w =>
  (get_any x a k w hx hx2).mono fun _ _ ⟨e, n, hw⟩ => ⟨by rw [e, h], hw ▸ (Jk.refl w).drewN n⟩

theorem signed_ans {x : Int} (hx : 0 ≤ x) (hx2 : x ≤ 18446744073709551615) : Ans 44 #[.int .u64 x, .int .i64 0, .int .i64 32] (.int .i64 (sgI x)) := fun w =>
  (signed_any x 0 32 w hx hx2).mono fun _ _ ⟨e, n, hw⟩ => ⟨by rw [e, signed_number x hx], hw ▸ (Jk.refl w).drewN n⟩

/-! '==' of two nodes -/
theorem nodeBits (n m : Nd) (w : World) : (Op.equalIn 10000 77 (nodeV n) (nodeV m)).run Tryz.prog w = .ok (n.eqB m) w := by
  have hb : ∀ (x : Nd) (w : World), (part 4 #[.bool x.leaf, .int .i64 x.v, .int .i64 x.f, .int .i64 x.a, .int .i64 x.l, .int .i64 x.r] 0).run Tryz.prog w = .ok (.bool x.leaf) w := fun x w => by kernel_rfl
  have h1 : ∀ (x : Nd) (w : World), (part 3 #[.bool x.leaf, .int .i64 x.v, .int .i64 x.f, .int .i64 x.a, .int .i64 x.l, .int .i64 x.r] 1).run Tryz.prog w = .ok (.int .i64 x.v) w := fun x w => by kernel_rfl
  have h2 : ∀ (x : Nd) (w : World), (part 3 #[.bool x.leaf, .int .i64 x.v, .int .i64 x.f, .int .i64 x.a, .int .i64 x.l, .int .i64 x.r] 2).run Tryz.prog w = .ok (.int .i64 x.f) w := fun x w => by kernel_rfl
  have h3 : ∀ (x : Nd) (w : World), (part 3 #[.bool x.leaf, .int .i64 x.v, .int .i64 x.f, .int .i64 x.a, .int .i64 x.l, .int .i64 x.r] 3).run Tryz.prog w = .ok (.int .i64 x.a) w := fun x w => by kernel_rfl
  have h4 : ∀ (x : Nd) (w : World), (part 3 #[.bool x.leaf, .int .i64 x.v, .int .i64 x.f, .int .i64 x.a, .int .i64 x.l, .int .i64 x.r] 4).run Tryz.prog w = .ok (.int .i64 x.l) w := fun x w => by kernel_rfl
  have h5 : ∀ (x : Nd) (w : World), (part 3 #[.bool x.leaf, .int .i64 x.v, .int .i64 x.f, .int .i64 x.a, .int .i64 x.l, .int .i64 x.r] 5).run Tryz.prog w = .ok (.int .i64 x.r) w := fun x w => by kernel_rfl
  have e0 : ∀ (a b : Bool) (w : World), (Op.equalIn 9999 4 (.bool a) (.bool b)).run Tryz.prog w = .ok (a == b) w := fun a b w => by
    cases a <;> cases b <;> kernel_rfl
  have e1 := fun (a b : Int) (w : World) => run_equalIn_int (P := Tryz.prog) w 9998 3 .i64 .i64 a b Tryz.underlying3
  have hf : (Tryz.prog.fieldsOf 77).toList.map (fun f => (f.name != "_", f.type, f.offset)) = [(true, 4, 0), (true, 3, 1), (true, 3, 2), (true, 3, 3), (true, 3, 4), (true, 3, 5)] := by kernel_rfl
  rw [run_equalIn_struct w 9999 77 _ _ (by kernel_rfl) (by kernel_rfl)]
  match hl : (Tryz.prog.fieldsOf 77).toList with
  | [] | [_] | [_, _] | [_, _, _] | [_, _, _, _] | [_, _, _, _, _] | _ :: _ :: _ :: _ :: _ :: _ :: _ :: _ => rw [hl] at hf; simp at hf
  | [f0, f1, f2, f3, f4, f5] =>
    rw [hl] at hf
    simp at hf
    obtain ⟨⟨a1, a2, a3⟩, ⟨b1, b2, b3⟩, ⟨c1, c2, c3⟩, ⟨d1, d2, d3⟩, ⟨i1, i2, i3⟩, j1, j2, j3⟩ := hf
    simp [Op.eqFields, a1, a2, a3, b1, b2, b3, c1, c2, c3, d1, d2, d3, i1, i2, i3, j1, j2, j3, hb, h1, h2, h3, h4, h5, e0, e1, Nd.eqB]
    clear hb h1 h2 h3 h4 h5 e0 e1 a1 a2 a3 b1 b2 b3 c1 c2 c3 d1 d2 d3 i1 i2 i3 j1 j2 j3 hl
    by_cases k0 : n.leaf = m.leaf
    · by_cases k1 : n.v = m.v
      · by_cases k2 : n.f = m.f
        · by_cases k3 : n.a = m.a
          · by_cases k4 : n.l = m.l
            · by_cases k5 : n.r = m.r <;> simp [k0, k1, k2, k3, k4, k5]
            · simp [k0, k1, k2, k3, k4]
          · simp [k0, k1, k2, k3]
        · simp [k0, k1, k2]
      · simp [k0, k1]
    · simp [k0]

/-! Right -/
theorem feature_ans {n : Int} : Ans 103 #[.int .i64 n] (.bool (decide (0 ≤ n ∧ n < 4))) := fun w => by
  by_cases h1 : 0 ≤ n
  · by_cases h2 : n < 4
    all_goals
      have e : decide (0 ≤ n ∧ n < 4) = decide (n < 4) := by simp [h1]
      rw [e]; clear e
      go_enter Tryz.func103, Tryz.ntmps103
      go_wp2
      go_ret
      exact ⟨by simp [h2], Jk.refl _⟩
  · have e : decide (0 ≤ n ∧ n < 4) = false := by simp [h1]
    rw [e]; clear e
    go_enter Tryz.func103, Tryz.ntmps103
    go_wp2
    go_ret
    exact ⟨rfl, Jk.refl _⟩

theorem side_ans {n : Int} : Ans 104 #[.int .i64 n] (.bool (decide (1 ≤ n ∧ n < 31))) := fun w => by
  by_cases h1 : 1 ≤ n
  · by_cases h2 : n < 31
    all_goals
      have e : decide (1 ≤ n ∧ n < 31) = decide (n < 31) := by simp [h1]
      rw [e]; clear e
      go_enter Tryz.func104, Tryz.ntmps104
      go_wp2
      go_ret
      exact ⟨by simp [h2], Jk.refl _⟩
  · have e : decide (1 ≤ n ∧ n < 31) = false := by simp [h1]
    rw [e]; clear e
    go_enter Tryz.func104, Tryz.ntmps104
    go_wp2
    go_ret
    exact ⟨rfl, Jk.refl _⟩

set_option maxRecDepth 100000 in
theorem right_leaf (v f a l r : Int) (w : World) : Calls Tryz.prog 101 #[.agg #[.bool true, .int .i64 v, .int .i64 f, .int .i64 a, .int .i64 l, .int .i64 r]] w fun e w' => e = .returned (.bool (Nd.rightB ⟨true, v, f, a, l, r⟩)) ∧ Jk w w' := by
  have J := rules8
  obtain ⟨F, hF⟩ : ∃ F, fit32 v = F := ⟨_, rfl⟩
  have hE : ∀ w : World, (Op.equalIn 10000 77 (.agg #[.bool true, .int .i64 v, .int .i64 f, .int .i64 a, .int .i64 l, .int .i64 r]) (.agg #[.bool true, .int .i64 v, .int .i64 0, .int .i64 0, .int .i64 0, .int .i64 0])).run Tryz.prog w = .ok ((f == 0) && (a == 0) && (l == 0) && (r == 0)) w := fun w => by
    have := nodeBits ⟨true, v, f, a, l, r⟩ ⟨true, v, 0, 0, 0, 0⟩ w
    simpa [Nd.eqB] using this
  have HR : Hid (Nd.rightB ⟨true, v, f, a, l, r⟩ = (F && ((f == 0) && (a == 0) && (l == 0) && (r == 0)))) := by
    show (fit32 v && _) = _
    rw [hF]
  rw [HR.out]
  clear HR
  generalize hG : ((f == 0) && (a == 0) && (l == 0) && (r == 0)) = G at hE ⊢
  clear hG
  cases F
  all_goals
    go_enter Tryz.func101, Tryz.ntmps101
    go_wp2_with (first | (go_at_call 68; refine (fits_ans.on _).mono ?_; rintro e w1 ⟨rfl, X1, rfl⟩; simp only [hF]))
    go_ret
    refine ⟨rfl, ?_⟩
    repeat (with_reducible first | exact Jk.refl _ | apply Jk.junk | apply Jk.alloc)

end Go.Proofs.YtkkbeobocbgmeaaGreat

namespace Go.Proofs.YtkkbeobocbgmeaaGreat
open Go.RowKit M

set_option maxRecDepth 100000 in
set_option maxHeartbeats 1600000 in
theorem right_other (v f a l r : Int) (w : World) : Calls Tryz.prog 101 #[.agg #[.bool false, .int .i64 v, .int .i64 f, .int .i64 a, .int .i64 l, .int .i64 r]] w fun e w' => e = .returned (.bool (Nd.rightB ⟨false, v, f, a, l, r⟩)) ∧ Jk w w' := by
  have J := rules8
  obtain ⟨V, hV⟩ : ∃ V, (v == 0) = V := ⟨_, rfl⟩
  obtain ⟨F, hF⟩ : ∃ F, decide (0 ≤ f ∧ f < 4) = F := ⟨_, rfl⟩
  obtain ⟨A, hA⟩ : ∃ A, fit32 a = A := ⟨_, rfl⟩
  obtain ⟨L, hL⟩ : ∃ L, decide (1 ≤ l ∧ l < 31) = L := ⟨_, rfl⟩
  obtain ⟨R, hR⟩ : ∃ R, decide (1 ≤ r ∧ r < 31) = R := ⟨_, rfl⟩
  have HR : Hid (Nd.rightB ⟨false, v, f, a, l, r⟩ = (V && F && A && L && R)) := by
    show ((v == 0) && _ && _ && _ && _) = _
    rw [hV, hF, hA, hL, hR]
  rw [HR.out]
  clear HR
  have HF : Hid (Ans 103 #[.int .i64 f] (.bool F)) := hF ▸ feature_ans
  have HA : Hid (Ans 68 #[.int .i64 a, .int .i64 32] (.bool A)) := hA ▸ fits_ans
  have HL : Hid (Ans 104 #[.int .i64 l] (.bool L)) := hL ▸ side_ans
  have HS : Hid (Ans 104 #[.int .i64 r] (.bool R)) := hR ▸ side_ans
  clear hF hA hL hR
  cases V
  · go_enter Tryz.func101, Tryz.ntmps101
    go_wp2_with (fail)
    go_ret
    exact ⟨rfl, by repeat (with_reducible first | exact Jk.refl _ | apply Jk.junk | apply Jk.alloc)⟩
  cases F
  · go_enter Tryz.func101, Tryz.ntmps101
    go_wp2_with (first | (go_at_call 103; refine (HF.out.on _).mono ?_; rintro e w1 ⟨rfl, X1, rfl⟩))
    go_ret
    exact ⟨rfl, by repeat (with_reducible first | exact Jk.refl _ | apply Jk.junk | apply Jk.alloc)⟩
  cases A
  · go_enter Tryz.func101, Tryz.ntmps101
    go_wp2_with (first | (go_at_call 103; refine (HF.out.on _).mono ?_; rintro e w1 ⟨rfl, X1, rfl⟩) | (go_at_call 68; refine (HA.out.on _).mono ?_; rintro e w1 ⟨rfl, X2, rfl⟩))
    go_ret
    exact ⟨rfl, by repeat (with_reducible first | exact Jk.refl _ | apply Jk.junk | apply Jk.alloc)⟩
  cases L
  · go_enter Tryz.func101, Tryz.ntmps101
    go_wp2_with (first | (go_at_call 103; refine (HF.out.on _).mono ?_; rintro e w1 ⟨rfl, X1, rfl⟩) | (go_at_call 68; refine (HA.out.on _).mono ?_; rintro e w1 ⟨rfl, X2, rfl⟩) | (go_at_call 104; refine (Ans.on (by with_reducible first | exact HL.out | exact HS.out) _).mono ?_; rintro e w1 ⟨rfl, X3, rfl⟩))
    go_ret
    exact ⟨rfl, by repeat (with_reducible first | exact Jk.refl _ | apply Jk.junk | apply Jk.alloc)⟩
  · go_enter Tryz.func101, Tryz.ntmps101
    go_wp2_with (first | (go_at_call 103; refine (HF.out.on _).mono ?_; rintro e w1 ⟨rfl, X1, rfl⟩) | (go_at_call 68; refine (HA.out.on _).mono ?_; rintro e w1 ⟨rfl, X2, rfl⟩) | (go_at_call 104; refine (Ans.on (by with_reducible first | exact HL.out | exact HS.out) _).mono ?_; rintro e w1 ⟨rfl, X3, rfl⟩))
    go_ret
    exact ⟨rfl, by repeat (with_reducible first | exact Jk.refl _ | apply Jk.junk | apply Jk.alloc)⟩

theorem right_ans (n : Nd) : Ans 101 #[nodeV n] (.bool n.rightB) := fun w => by
  obtain ⟨leaf, v, f, a, l, r⟩ := n
  cases leaf
  · exact right_other v f a l r w
  · exact right_leaf v f a l r w

theorem right_is {n : Nd} {b : Bool} (h : n.rightB = b) : Ans 101 #[nodeV n] (.bool b) := h ▸ right_ans n

end Go.Proofs.YtkkbeobocbgmeaaGreat

namespace Go.Proofs.YtkkbeobocbgmeaaGreat
open Go.RowKit M

set_option maxRecDepth 100000 in
set_option maxHeartbeats 1600000 in
theorem pack_wrong (n : Nd) (h : n.rightB = false) (w : World) : Calls Tryz.prog 102 #[nodeV n] w fun e w' => e = .returned (.int .u64 0) ∧ Jk w w' := by
  have J := rules8
  go_enter Tryz.func102, Tryz.ntmps102
  go_wp2_with (first | (go_at_call 101; refine ((right_is h).on _).mono ?_; rintro e w1 ⟨rfl, X1, rfl⟩))
  go_ret
  exact ⟨rfl, by repeat (with_reducible first | exact Jk.refl _ | apply Jk.junk | apply Jk.alloc)⟩

set_option maxRecDepth 100000 in
set_option maxHeartbeats 1600000 in
theorem pack_leaf (v f a l r : Int) (h : Nd.rightB ⟨true, v, f, a, l, r⟩ = true) (w : World) : Calls Tryz.prog 102 #[nodeV ⟨true, v, f, a, l, r⟩] w fun e w' => e = .returned (.int .u64 (Nd.word ⟨true, v, f, a, l, r⟩)) ∧ Jk w w' := by
  have J := rules8
  have hu := u64_mod v
  have H1 : Hid (Ans 105 #[.int .u64 0, .int .i64 63, .int .i64 1, .int .u64 1] (.int .u64 9223372036854775808)) := put_ans (by decide) (by decide) (by decide) (by decide) put_one
  have H2 : Hid (Ans 105 #[.int .u64 9223372036854775808, .int .i64 0, .int .i64 32, .int .u64 (IntKind.u64.wrap v)] (.int .u64 (Nd.word ⟨true, v, f, a, l, r⟩))) :=
    put_ans (by decide) (by decide) hu.1 hu.2.1 (by rw [put_leaf _ hu.1, hu.2.2]; rfl)
  generalize Nd.word ⟨true, v, f, a, l, r⟩ = z at H2 ⊢
  clear hu
  go_enter Tryz.func102, Tryz.ntmps102
  go_upto_region 4 with (first | (go_at_call 101; refine ((right_is h).on _).mono ?_; rintro e w1 ⟨rfl, X1, rfl⟩))
  refine region_junk (by kernel_rfl) (by kernel_rfl) ?_
  repeat (go_big_quiet_step (first | (go_at_call 105; exact Ans.junk (by with_reducible first | exact H1.out | exact H2.out) _) | exact rfl))
  refine wpQuiet_nil ?_
  rintro _ ⟨X, rfl⟩
  go_wp2_with fail
  go_ret
  exact ⟨rfl, by repeat (with_reducible first | exact Jk.refl _ | apply Jk.junk | apply Jk.alloc)⟩

theorem word_other (v f a l r : Int) : Nd.word ⟨false, v, f, a, l, r⟩ = a % 4294967296 + f * 4294967296 + l * 1099511627776 + r * 281474976710656 := rfl
theorem puts_other (v f a l r : Int) (h : Nd.rightB ⟨false, v, f, a, l, r⟩ = true) : ∃ z1 z2 z3 z4, Ans 105 #[.int .u64 0, .int .i64 0, .int .i64 32, .int .u64 (IntKind.u64.wrap a)] (.int .u64 z1) ∧
    Ans 105 #[.int .u64 z1, .int .i64 32, .int .i64 4, .int .u64 (IntKind.u64.wrap f)] (.int .u64 z2) ∧
    Ans 105 #[.int .u64 z2, .int .i64 40, .int .i64 8, .int .u64 (IntKind.u64.wrap l)] (.int .u64 z3) ∧
    Ans 105 #[.int .u64 z3, .int .i64 48, .int .i64 8, .int .u64 (IntKind.u64.wrap r)] (.int .u64 z4) ∧ Nd.word ⟨false, v, f, a, l, r⟩ = z4 := by
  have hR := Nd.right_iff.1 h
  simp only [Nd.Right, Bool.false_eq_true, false_and, false_or, true_and] at hR
  obtain ⟨_, f0, f1, a0, a1, l0, l1, r0, r1⟩ := hR
  have ha := u64_mod a
  have hf := u64_mod f
  have hl := u64_mod l
  have hr := u64_mod r
  have ham : 0 ≤ a % 4294967296 ∧ a % 4294967296 < 4294967296 := by omega
  rw [word_other]
  refine ⟨_, _, _, _, put_ans (by decide) (by decide) ha.1 ha.2.1 (code_at a), put_ans (by omega) (by omega) hf.1 hf.2.1 (code_feature _ _ (by omega) (by omega) f0 (by omega)),
    put_ans (by omega) (by omega) hl.1 hl.2.1 (code_left _ _ (by omega) (by omega) (by omega) (by omega)), put_ans (by omega) (by omega) hr.1 hr.2.1 (code_right _ _ (by omega) (by omega) (by omega) (by omega)), rfl⟩

set_option maxRecDepth 100000 in
set_option maxHeartbeats 1600000 in
theorem pack_other (v f a l r : Int) (h : Nd.rightB ⟨false, v, f, a, l, r⟩ = true) (w : World) : Calls Tryz.prog 102 #[nodeV ⟨false, v, f, a, l, r⟩] w fun e w' => e = .returned (.int .u64 (Nd.word ⟨false, v, f, a, l, r⟩)) ∧ Jk w w' := by
  have J := rules8
  obtain ⟨z1, z2, z3, z4, h1, h2, h3, h4, h5⟩ := puts_other v f a l r h
  rw [h5]
  have H1 := hid h1
  have H2 := hid h2
  have H3 := hid h3
  have H4 := hid h4
  have HR := hid (right_is h)
  clear h1 h2 h3 h4 h5 h
  go_enter Tryz.func102, Tryz.ntmps102
  go_wp2_with (first | (go_at_call 101; refine (HR.out.on _).mono ?_; rintro e w1 ⟨rfl, X1, rfl⟩) | (go_at_call 105; refine (Ans.on (by with_reducible first | exact H1.out | exact H2.out | exact H3.out | exact H4.out) _).mono ?_; rintro e w1 ⟨rfl, X3, rfl⟩))
  go_ret
  exact ⟨rfl, by repeat (with_reducible first | exact Jk.refl _ | apply Jk.junk | apply Jk.alloc)⟩

theorem pack_ans (n : Nd) : Ans 102 #[nodeV n] (.int .u64 n.pack) := fun w => by
  cases h : n.rightB
  · rw [Nd.pack_no h]; exact pack_wrong n h w
  · rw [Nd.pack_of h]
    obtain ⟨leaf, v, f, a, l, r⟩ := n
    cases leaf
    · exact pack_other v f a l r h w
    · exact pack_leaf v f a l r h w

theorem pack_is {n : Nd} {z : Int} (h : n.pack = z) : Ans 102 #[nodeV n] (.int .u64 z) := h ▸ pack_ans n

end Go.Proofs.YtkkbeobocbgmeaaGreat

namespace Go.Proofs.YtkkbeobocbgmeaaGreat
open Go.RowKit M

theorem wrap64_low {x : Int} (h0 : 0 ≤ x) (h : x ≤ 255) : wrap64 x = x := IntWalk.wrap64_in _ ⟨by omega, by omega⟩

set_option maxRecDepth 100000 in
set_option maxHeartbeats 1600000 in
theorem read_ans (x : Int) (hx : 0 ≤ x) (hx2 : x ≤ 18446744073709551615) : Ans 100 #[.int .u64 x] (nodeV (readI x)) := fun w => by
  have J := rules8
  obtain ⟨s, hs⟩ : ∃ s, sgI x = s := ⟨_, rfl⟩
  have HS : Hid (Ans 44 #[.int .u64 x, .int .i64 0, .int .i64 32] (.int .i64 s)) := hs ▸ signed_ans hx hx2
  by_cases h : x / 9223372036854775808 % 2 = 1
  · have HL : Hid (Ans 61 #[.int .u64 x, .int .i64 63, .int .i64 1] (.int .u64 1)) := get_ans hx hx2 (by rw [get_leaf x hx, h])
    rw [read_leaf h, hs]
    clear hs h
    go_enter Tryz.func100, Tryz.ntmps100
    go_wp2_with (first | (go_at_call 44; refine (HS.out.on _).mono ?_; rintro e w1 ⟨rfl, X1, rfl⟩) | (go_at_call 61; refine (HL.out.on _).mono ?_; rintro e w1 ⟨rfl, X2, rfl⟩))
    refine bodyPost_ret (v := nodeV ⟨true, s, 0, 0, 0, 0⟩) (by simp [results, Tryz.results100, go_sem, J]) rfl ⟨rfl, ?_⟩
    repeat (with_reducible first | exact Jk.refl _ | apply Jk.junk | apply Jk.alloc)
  · have h0 : x / 9223372036854775808 % 2 = 0 := by omega
    have HL : Hid (Ans 61 #[.int .u64 x, .int .i64 63, .int .i64 1] (.int .u64 0)) := get_ans hx hx2 (by rw [get_leaf x hx, h0])
    obtain ⟨f, hf⟩ : ∃ f, x / 4294967296 % 16 = f := ⟨_, rfl⟩
    obtain ⟨l, hl⟩ : ∃ l, x / 1099511627776 % 256 = l := ⟨_, rfl⟩
    obtain ⟨r, hr⟩ : ∃ r, x / 281474976710656 % 256 = r := ⟨_, rfl⟩
    have H1 : Hid (Ans 61 #[.int .u64 x, .int .i64 32, .int .i64 4] (.int .u64 f)) := get_ans hx hx2 (by rw [get_feature x hx, hf])
    have H2 : Hid (Ans 61 #[.int .u64 x, .int .i64 40, .int .i64 8] (.int .u64 l)) := get_ans hx hx2 (by rw [get_left x hx, hl])
    have H3 : Hid (Ans 61 #[.int .u64 x, .int .i64 48, .int .i64 8] (.int .u64 r)) := get_ans hx hx2 (by rw [get_right x hx, hr])
    have k1 : wrap64 f = f := wrap64_low (by omega) (by omega)
    have k2 : wrap64 l = l := wrap64_low (by omega) (by omega)
    have k3 : wrap64 r = r := wrap64_low (by omega) (by omega)
    rw [read_other h, hs, hf, hl, hr]
    clear hs h h0 hf hl hr
    go_enter Tryz.func100, Tryz.ntmps100
    go_wp2_with (first | (go_at_call 44; refine (HS.out.on _).mono ?_; rintro e w1 ⟨rfl, X1, rfl⟩) | (go_at_call 61; refine (Ans.on (by with_reducible first | exact HL.out | exact H1.out | exact H2.out | exact H3.out) _).mono ?_; rintro e w1 ⟨rfl, X2, rfl⟩))
    refine bodyPost_ret (v := nodeV ⟨false, 0, f, s, l, r⟩) (by simp [results, Tryz.results100, go_sem, J]) rfl ⟨rfl, ?_⟩
    repeat (with_reducible first | exact Jk.refl _ | apply Jk.junk | apply Jk.alloc)

set_option maxRecDepth 100000 in
set_option maxHeartbeats 1600000 in
theorem unpack_ans (x : Int) (hx : 0 ≤ x) (hx2 : x ≤ 18446744073709551615) : Ans 95 #[.int .u64 x] (.tuple #[nodeV (unI x), .bool (unB x)]) := fun w => by
  have J := rules20
  obtain ⟨⟨leaf, v, f, a, l, r⟩, hn⟩ : ∃ n, readI x = n := ⟨_, rfl⟩
  have HN : Hid (Ans 100 #[.int .u64 x] (nodeV ⟨leaf, v, f, a, l, r⟩)) := hn ▸ read_ans x hx hx2
  have HP : Hid (Ans 102 #[nodeV ⟨leaf, v, f, a, l, r⟩] (.int .u64 (Nd.pack ⟨leaf, v, f, a, l, r⟩))) := pack_ans _
  have HR : Hid (Ans 101 #[nodeV ⟨leaf, v, f, a, l, r⟩] (.bool (Nd.rightB ⟨leaf, v, f, a, l, r⟩))) := right_ans _
  have HU : Hid (unB x = (Nd.rightB ⟨leaf, v, f, a, l, r⟩ && (Nd.pack ⟨leaf, v, f, a, l, r⟩ == x))) := by show unB x = _; rw [unB, hn]
  have HI : Hid (unB x = true → unI x = ⟨leaf, v, f, a, l, r⟩) := by
    show unB x = true → _
    intro h
    rw [unI, if_pos h, hn]
  have HZ : Hid (unB x = false → unI x = Nd.nil) := un_no
  clear hn
  generalize Nd.rightB ⟨leaf, v, f, a, l, r⟩ = R at HR HU
  generalize Nd.pack ⟨leaf, v, f, a, l, r⟩ = p at HP HU
  cases R
  · have hB : unB x = false := by rw [HU.out]; rfl
    rw [HZ.out hB, hB]
    clear HU HI HZ hB
    go_enter Tryz.func95, Tryz.ntmps95
    go_wp2_with (first | (go_at_call 100; refine (HN.out.on _).mono ?_; rintro e w1 ⟨rfl, X1, rfl⟩) | (go_at_call 101; refine (HR.out.on _).mono ?_; rintro e w1 ⟨rfl, X2, rfl⟩))
    refine bodyPost_ret (v := .tuple #[nodeV Nd.nil, .bool false]) (by simp [results, Tryz.results95, go_sem, J]) rfl ⟨rfl, ?_⟩
    repeat (with_reducible first | exact Jk.refl _ | apply Jk.junk | apply Jk.alloc)
  · by_cases hp : p = x
    · subst hp
      have hB : unB p = true := by rw [HU.out]; simp
      rw [HI.out hB, hB]
      clear HU HI HZ hB
      go_enter Tryz.func95, Tryz.ntmps95
      go_wp2_with (first | (go_at_call 100; refine (HN.out.on _).mono ?_; rintro e w1 ⟨rfl, X1, rfl⟩) | (go_at_call 101; refine (HR.out.on _).mono ?_; rintro e w1 ⟨rfl, X2, rfl⟩) | (go_at_call 102; refine (HP.out.on _).mono ?_; rintro e w1 ⟨rfl, X3, rfl⟩))
      refine bodyPost_ret (v := .tuple #[nodeV ⟨leaf, v, f, a, l, r⟩, .bool true]) (by simp [results, Tryz.results95, go_sem, J]) rfl ⟨rfl, ?_⟩
      repeat (with_reducible first | exact Jk.refl _ | apply Jk.junk | apply Jk.alloc)
    · have hp' : (p == x) = false := by simpa using hp
      have hB : unB x = false := by rw [HU.out, hp']; rfl
      rw [HZ.out hB, hB]
      clear HU HI HZ hB
      go_enter Tryz.func95, Tryz.ntmps95
      go_wp2_with (first | (go_at_call 100; refine (HN.out.on _).mono ?_; rintro e w1 ⟨rfl, X1, rfl⟩) | (go_at_call 101; refine (HR.out.on _).mono ?_; rintro e w1 ⟨rfl, X2, rfl⟩) | (go_at_call 102; refine (HP.out.on _).mono ?_; rintro e w1 ⟨rfl, X3, rfl⟩))
      refine bodyPost_ret (v := .tuple #[nodeV Nd.nil, .bool false]) (by simp [results, Tryz.results95, go_sem, J]) rfl ⟨rfl, ?_⟩
      repeat (with_reducible first | exact Jk.refl _ | apply Jk.junk | apply Jk.alloc)

/-! the contracts once more, the node's numbers spelt out -/
theorem right_raw (b : Bool) (v f a l r : Int) : Ans 101 #[.agg #[.bool b, .int .i64 v, .int .i64 f, .int .i64 a, .int .i64 l, .int .i64 r]] (.bool (Nd.rightB ⟨b, v, f, a, l, r⟩)) := right_ans ⟨b, v, f, a, l, r⟩

theorem pack_raw (b : Bool) (v f a l r : Int) : Ans 102 #[.agg #[.bool b, .int .i64 v, .int .i64 f, .int .i64 a, .int .i64 l, .int .i64 r]] (.int .u64 (Nd.pack ⟨b, v, f, a, l, r⟩)) := pack_ans ⟨b, v, f, a, l, r⟩

end Go.Proofs.YtkkbeobocbgmeaaGreat
