/- What each function of package node answers, for every argument: the contracts of chapter 6's code. A node comes as a value and is laid into memory by the code: nothing that was there before is changed. -/
import Derived.Test.YtnjfbmnecfiliaaBits
import Derived.Test.YtnjfbmnecfiliaaMathN
import Derived.Test.YtnjfbmnecfiliaaAns
import Derived.ChangeKeysEq
import Derived.Deep.RegionWith
namespace Go.Proofs.Ytnjfbmnecfiliaa
open Go.RowKit M

theorem hid {p : Prop} (h : p) : Hid p := h
abbrev nodeV (n : Nd) : Value := .agg #[.bool n.leaf, .int .i64 n.v, .int .i64 n.f, .int .i64 n.a, .int .i64 n.l, .int .i64 n.r]

theorem Jk.drewN {a w : World} (h : Jk a w) (n : Nat) : Jk a (w.drewN n) := h.trans ⟨⟨#[], (w.drewN n).drawn⟩, by simp [Go.Proofs.Ytnjfbmnecfiliaa.junk, World.drewN]⟩

theorem fits_ans {n : Int} : Ans 41 #[.int .i64 n, .int .i64 32] (.bool (fit32 n)) := fun w =>
  (fits_any n 32 w).mono fun _ _ ⟨e, h⟩ => ⟨by rw [e, fits32], h ▸ Jk.refl _⟩
theorem put_ans {x a k y z : Int} (hx : 0 ≤ x) (hx2 : x ≤ 18446744073709551615) (hy : 0 ≤ y) (hy2 : y ≤ 18446744073709551615) (h : putI x a k y = z) : Ans 51 #[.int .u64 x, .int .i64 a, .int .i64 k, .int .u64 y] (.int .u64 z) := fun w =>
  (put_any x a k y w hx hx2 hy hy2).mono fun _ _ ⟨e, n, hw⟩ => ⟨by rw [e, h], hw ▸ (Jk.refl w).drewN n⟩
theorem get_ans {x a k z : Int} (hx : 0 ≤ x) (hx2 : x ≤ 18446744073709551615) (h : getI x a k = z) : Ans 43 #[.int .u64 x, .int .i64 a, .int .i64 k] (.int .u64 z) := fun w =>
  (get_any x a k w hx hx2).mono fun _ _ ⟨e, n, hw⟩ => ⟨by rw [e, h], hw ▸ (Jk.refl w).drewN n⟩
theorem signed_ans {x : Int} (hx : 0 ≤ x) (hx2 : x ≤ 18446744073709551615) : Ans 29 #[.int .u64 x, .int .i64 0, .int .i64 32] (.int .i64 (sgI x)) := fun w =>
  (signed_any x 0 32 w hx hx2).mono fun _ _ ⟨e, n, hw⟩ => ⟨by rw [e, signed_number x hx], hw ▸ (Jk.refl w).drewN n⟩

/-! '==' of two nodes -/
theorem nodeBits (n m : Nd) (w : World) : (Op.equalIn 10000 49 (nodeV n) (nodeV m)).run Try.prog w = .ok (n.eqB m) w := by
  have hb : ∀ (x : Nd) (w : World), (part 4 #[.bool x.leaf, .int .i64 x.v, .int .i64 x.f, .int .i64 x.a, .int .i64 x.l, .int .i64 x.r] 0).run Try.prog w = .ok (.bool x.leaf) w := fun x w => by kernel_rfl
  have h1 : ∀ (x : Nd) (w : World), (part 3 #[.bool x.leaf, .int .i64 x.v, .int .i64 x.f, .int .i64 x.a, .int .i64 x.l, .int .i64 x.r] 1).run Try.prog w = .ok (.int .i64 x.v) w := fun x w => by kernel_rfl
  have h2 : ∀ (x : Nd) (w : World), (part 3 #[.bool x.leaf, .int .i64 x.v, .int .i64 x.f, .int .i64 x.a, .int .i64 x.l, .int .i64 x.r] 2).run Try.prog w = .ok (.int .i64 x.f) w := fun x w => by kernel_rfl
  have h3 : ∀ (x : Nd) (w : World), (part 3 #[.bool x.leaf, .int .i64 x.v, .int .i64 x.f, .int .i64 x.a, .int .i64 x.l, .int .i64 x.r] 3).run Try.prog w = .ok (.int .i64 x.a) w := fun x w => by kernel_rfl
  have h4 : ∀ (x : Nd) (w : World), (part 3 #[.bool x.leaf, .int .i64 x.v, .int .i64 x.f, .int .i64 x.a, .int .i64 x.l, .int .i64 x.r] 4).run Try.prog w = .ok (.int .i64 x.l) w := fun x w => by kernel_rfl
  have h5 : ∀ (x : Nd) (w : World), (part 3 #[.bool x.leaf, .int .i64 x.v, .int .i64 x.f, .int .i64 x.a, .int .i64 x.l, .int .i64 x.r] 5).run Try.prog w = .ok (.int .i64 x.r) w := fun x w => by kernel_rfl
  have e0 : ∀ (a b : Bool) (w : World), (Op.equalIn 9999 4 (.bool a) (.bool b)).run Try.prog w = .ok (a == b) w := fun a b w => by
    cases a <;> cases b <;> kernel_rfl
  have e1 := fun (a b : Int) (w : World) => run_equalIn_int (P := Try.prog) w 9998 3 .i64 .i64 a b Try.underlying3
  have hf : (Try.prog.fieldsOf 49).toList.map (fun f => (f.name != "_", f.type, f.offset)) = [(true, 4, 0), (true, 3, 1), (true, 3, 2), (true, 3, 3), (true, 3, 4), (true, 3, 5)] := by kernel_rfl
  rw [run_equalIn_struct w 9999 49 _ _ (by kernel_rfl) (by kernel_rfl)]
  match hl : (Try.prog.fieldsOf 49).toList with
  | [] | [_] | [_, _] | [_, _, _] | [_, _, _, _] | [_, _, _, _, _] | _ :: _ :: _ :: _ :: _ :: _ :: _ :: _ => rw [hl] at hf; simp at hf
  | [f0, f1, f2, f3, f4, f5] =>
    rw [hl] at hf
    simp at hf
    obtain ⟨⟨a1, a2, a3⟩, ⟨b1, b2, b3⟩, ⟨c1, c2, c3⟩, ⟨d1, d2, d3⟩, ⟨i1, i2, i3⟩, j1, j2, j3⟩ := hf
    simp [Op.eqFields, a1, a2, a3, b1, b2, b3, c1, c2, c3, d1, d2, d3, i1, i2, i3, j1, j2, j3, hb, h1, h2, h3, h4, h5, e0, e1, Nd.eqB]
    clear hb h1 h2 h3 h4 h5 e0 e1 a1 a2 a3 b1 b2 b3 c1 c2 c3 d1 d2 d3 i1 i2 i3 j1 j2 j3 hl
    by_cases k0 : n.leaf = m.leaf
    · by_cases k1 : n.v = m.v
      · by_cases k2 : n.f = m.f
        · by_cases k3 : n.a = m.a
          · by_cases k4 : n.l = m.l
            · by_cases k5 : n.r = m.r <;> simp [k0, k1, k2, k3, k4, k5]
            · simp [k0, k1, k2, k3, k4]
          · simp [k0, k1, k2, k3]
        · simp [k0, k1, k2]
      · simp [k0, k1]
    · simp [k0]

/-! Right -/
theorem feature_ans {n : Int} : Ans 49 #[.int .i64 n] (.bool (decide (0 ≤ n ∧ n < 4))) := fun w => by
  by_cases h1 : 0 ≤ n
  · by_cases h2 : n < 4
    all_goals
      have e : decide (0 ≤ n ∧ n < 4) = decide (n < 4) := by simp [h1]
      rw [e]; clear e
      go_enter Try.func49, Try.ntmps49
      go_wp2
      go_ret
      exact ⟨by simp [h2], Jk.refl _⟩
  · have e : decide (0 ≤ n ∧ n < 4) = false := by simp [h1]
    rw [e]; clear e
    go_enter Try.func49, Try.ntmps49
    go_wp2
    go_ret
    exact ⟨rfl, Jk.refl _⟩
theorem side_ans {n : Int} : Ans 50 #[.int .i64 n] (.bool (decide (1 ≤ n ∧ n < 31))) := fun w => by
  by_cases h1 : 1 ≤ n
  · by_cases h2 : n < 31
    all_goals
      have e : decide (1 ≤ n ∧ n < 31) = decide (n < 31) := by simp [h1]
      rw [e]; clear e
      go_enter Try.func50, Try.ntmps50
      go_wp2
      go_ret
      exact ⟨by simp [h2], Jk.refl _⟩
  · have e : decide (1 ≤ n ∧ n < 31) = false := by simp [h1]
    rw [e]; clear e
    go_enter Try.func50, Try.ntmps50
    go_wp2
    go_ret
    exact ⟨rfl, Jk.refl _⟩

set_option maxRecDepth 100000 in
theorem right_leaf (v f a l r : Int) (w : World) : Calls Try.prog 37 #[.agg #[.bool true, .int .i64 v, .int .i64 f, .int .i64 a, .int .i64 l, .int .i64 r]] w fun e w' => e = .returned (.bool (Nd.rightB ⟨true, v, f, a, l, r⟩)) ∧ Jk w w' := by
  have J := rules8
  obtain ⟨F, hF⟩ : ∃ F, fit32 v = F := ⟨_, rfl⟩
  have hE : ∀ w : World, (Op.equalIn 10000 49 (.agg #[.bool true, .int .i64 v, .int .i64 f, .int .i64 a, .int .i64 l, .int .i64 r]) (.agg #[.bool true, .int .i64 v, .int .i64 0, .int .i64 0, .int .i64 0, .int .i64 0])).run Try.prog w = .ok ((f == 0) && (a == 0) && (l == 0) && (r == 0)) w := fun w => by
    have := nodeBits ⟨true, v, f, a, l, r⟩ ⟨true, v, 0, 0, 0, 0⟩ w
    simpa [Nd.eqB] using this
  have HR : Hid (Nd.rightB ⟨true, v, f, a, l, r⟩ = (F && ((f == 0) && (a == 0) && (l == 0) && (r == 0)))) := by
    show (fit32 v && _) = _
    rw [hF]
  rw [HR.out]
  clear HR
  generalize hG : ((f == 0) && (a == 0) && (l == 0) && (r == 0)) = G at hE ⊢
  clear hG
  cases F
  all_goals
    go_enter Try.func37, Try.ntmps37
    go_wp2_with (first | (go_at_call 41; refine (fits_ans.on _).mono ?_; rintro e w1 ⟨rfl, X1, rfl⟩; simp only [hF]))
    go_ret
    refine ⟨rfl, ?_⟩
    repeat (with_reducible first | exact Jk.refl _ | apply Jk.junk | apply Jk.alloc)

end Go.Proofs.Ytnjfbmnecfiliaa
