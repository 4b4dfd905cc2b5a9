/- What each function of package bits answers, for every argument: the contracts of chapter 1's code. -/
import Derived.Test.YtkkbeobocbgmeaaGreatMath
import Derived.Test.YtkkbeobocbgmeaaGreatBase
namespace Go.Proofs.YtkkbeobocbgmeaaGreat
open Go.RowKit M

theorem isField_any (a k : Int) (w : World) :
    Calls Tryz.prog 73 #[.int .i64 a, .int .i64 k] w fun e w' => e = .returned (.bool (fieldB a k)) ∧ w' = w := by
  by_cases h1 : 0 ≤ a
  · by_cases h2 : a < 64
    · by_cases h3 : 1 ≤ k
      · by_cases h4 : k ≤ 64 - a
        · have e : fieldB a k = true := by simp [fieldB, h1, h2, h3, h4]
          rw [e]; clear e
          go_enter Tryz.func73, Tryz.ntmps73
          go_wp2
          go_ret
          exact ⟨rfl, rfl⟩
        · have e : fieldB a k = false := by simp [fieldB, h4]
          rw [e]; clear e
          go_enter Tryz.func73, Tryz.ntmps73
          go_wp2
          go_ret
          exact ⟨rfl, rfl⟩
      · have e : fieldB a k = false := by simp [fieldB, h3]
        rw [e]; clear e
        go_enter Tryz.func73, Tryz.ntmps73
        go_wp2
        go_ret
        exact ⟨rfl, rfl⟩
    · have e : fieldB a k = false := by simp [fieldB, h2]
      rw [e]; clear e
      go_enter Tryz.func73, Tryz.ntmps73
      go_wp2
      go_ret
      exact ⟨rfl, rfl⟩
  · have e : fieldB a k = false := by simp [fieldB, h1]
    rw [e]; clear e
    go_enter Tryz.func73, Tryz.ntmps73
    go_wp2
    go_ret
    exact ⟨rfl, rfl⟩

theorem lowest_any (k : Int) (w : World) (h1 : 1 ≤ k) (h2 : k ≤ 64) :
    Calls Tryz.prog 74 #[.int .i64 k] w fun e w' => e = .returned (.int .u64 (lowI k)) ∧ w' = w := by
  rw [← low_of k h1 h2]
  go_enter Tryz.func74, Tryz.ntmps74
  go_wp2
  go_ret
  exact ⟨rfl, rfl⟩

theorem wrap_any (n k : Int) (w : World) :
    Calls Tryz.prog 62 #[.int .i64 n, .int .i64 k] w fun e w' => e = .returned (.int .i64 (wrapI n k)) ∧ w' = w := by
  by_cases h1 : k < 1
  · rw [wrapI_out n k (Or.inl h1)]
    go_enter Tryz.func62, Tryz.ntmps62
    go_wp2
    go_ret
    exact ⟨rfl, rfl⟩
  · by_cases h2 : 64 ≤ k
    · rw [wrapI_out n k (Or.inr h2)]
      go_enter Tryz.func62, Tryz.ntmps62
      go_wp2
      go_ret
      exact ⟨rfl, rfl⟩
    · rw [← wrapI_in n k (by omega) (by omega)]
      go_enter Tryz.func62, Tryz.ntmps62
      go_wp2
      go_ret
      exact ⟨rfl, rfl⟩

theorem field_of {a k : Int} (h : fieldB a k = true) : 0 ≤ a ∧ a < 64 ∧ 1 ≤ k ∧ k ≤ 64 - a := by simpa [fieldB] using h

theorem get_val {x a k : Int} (hx : 0 ≤ x) (hx2 : x ≤ 18446744073709551615) (h : fieldB a k = true) :
    bits .and .u64 (x / 2 ^ a.toNat) (lowI k) = getI x a k := by
  have hf := field_of h
  obtain ⟨X, rfl⟩ := Int.eq_ofNat_of_zero_le hx
  rw [getI, if_pos h, lowI_nat, get_code X _ _ (by omega) (by omega)]
  rfl

theorem put_val {x y a k : Int} (hx : 0 ≤ x) (hx2 : x ≤ 18446744073709551615) (hy : 0 ≤ y) (hy2 : y ≤ 18446744073709551615) (h : fieldB a k = true) :
    bits .or .u64 (bits .andNot .u64 x (IntKind.u64.wrap (lowI k * 2 ^ a.toNat))) (IntKind.u64.wrap (bits .and .u64 y (lowI k) * 2 ^ a.toNat)) = putI x a k y := by
  have hf := field_of h
  obtain ⟨X, rfl⟩ := Int.eq_ofNat_of_zero_le hx
  obtain ⟨Y, rfl⟩ := Int.eq_ofNat_of_zero_le hy
  have hl := mul_low a.toNat k.toNat (by omega)
  have e1 : IntKind.u64.wrap (lowI k * 2 ^ a.toNat) = (((2 ^ k.toNat - 1) * 2 ^ a.toNat : Nat) : Int) := by
    have e : lowI k * 2 ^ a.toNat = (((2 ^ k.toNat - 1) * 2 ^ a.toNat : Nat) : Int) := by rw [lowI_nat]; simp
    rw [e]; exact IntWalk.u64_in _ ⟨by omega, by omega⟩
  have e2 := get_val (x := (Y : Int)) (a := 0) (k := k) hy hy2 (by simp [fieldB]; omega)
  have e3 : getI (Y : Int) 0 k = ((Y % 2 ^ k.toNat : Nat) : Int) := by
    rw [getI, if_pos (by simp [fieldB]; omega)]
    simp [getN]
  rw [e3] at e2
  have e4 : (Y : Int) / 2 ^ (0 : Int).toNat = Y := by simp
  rw [e4] at e2
  have hm : Y % 2 ^ k.toNat * 2 ^ a.toNat < 18446744073709551616 := by
    have h1 : Y % 2 ^ k.toNat ≤ 2 ^ k.toNat - 1 := by have := Nat.mod_lt Y (Nat.two_pow_pos k.toNat); omega
    exact Nat.lt_of_le_of_lt (Nat.mul_le_mul_right _ h1) hl
  have e5 : IntKind.u64.wrap (bits .and .u64 (Y : Int) (lowI k) * 2 ^ a.toNat) = ((Y % 2 ^ k.toNat * 2 ^ a.toNat : Nat) : Int) := by
    have e : bits .and .u64 (Y : Int) (lowI k) * 2 ^ a.toNat = ((Y % 2 ^ k.toNat * 2 ^ a.toNat : Nat) : Int) := by rw [e2]; simp
    rw [e]; exact IntWalk.u64_in _ ⟨by omega, by omega⟩
  rw [e1, e5, put_code X _ _ Y (by omega) (by omega), putI, if_pos h]
  rfl

theorem get_any (x a k : Int) (w : World) (hx : 0 ≤ x) (hx2 : x ≤ 18446744073709551615) :
    Calls Tryz.prog 61 #[.int .u64 x, .int .i64 a, .int .i64 k] w fun e w' => e = .returned (.int .u64 (getI x a k)) ∧ ∃ n, w' = w.drewN n := by
  by_cases h : fieldB a k = true
  · have hf := field_of h
    obtain ⟨f1, f2, f3, f4⟩ := hf
    rw [← get_val hx hx2 h]
    go_enter Tryz.func61, Tryz.ntmps61
    go_wp2_with (go_at_call 73; refine (isField_any _ _ _).mono ?_; rintro e w' ⟨rfl, rfl⟩)
    go_quiet ((go_at_call 74; exact Calls.quiet_of_same (lowest_any _ _ (by omega) (by omega))))
    go_wp2
    go_ret
    exact ⟨rfl, _, rfl⟩
  · have h' : fieldB a k = false := by simpa using h
    have e : getI x a k = 0 := by simp [getI, h']
    rw [e]; clear e
    go_enter Tryz.func61, Tryz.ntmps61
    go_wp2_with (go_at_call 73; refine (isField_any _ _ _).mono ?_; rintro e w' ⟨rfl, rfl⟩)
    go_ret
    exact ⟨rfl, 0, rfl⟩

theorem put_any (x a k y : Int) (w : World) (hx : 0 ≤ x) (hx2 : x ≤ 18446744073709551615) (hy : 0 ≤ y) (hy2 : y ≤ 18446744073709551615) :
    Calls Tryz.prog 105 #[.int .u64 x, .int .i64 a, .int .i64 k, .int .u64 y] w fun e w' => e = .returned (.int .u64 (putI x a k y)) ∧ ∃ n, w' = w.drewN n := by
  by_cases h : fieldB a k = true
  · have hf := field_of h
    obtain ⟨f1, f2, f3, f4⟩ := hf
    rw [← put_val hx hx2 hy hy2 h]
    go_enter Tryz.func105, Tryz.ntmps105
    go_wp2_with (first | (go_at_call 73; refine (isField_any _ _ _).mono ?_; rintro e w' ⟨rfl, rfl⟩) | (go_at_call 74; refine (lowest_any _ _ ?_ ?_).mono ?_; omega; omega; rintro e w' ⟨rfl, rfl⟩))
    go_quiet (fail)
    go_wp2
    go_ret
    exact ⟨rfl, _, rfl⟩
  · have h' : fieldB a k = false := by simpa using h
    have e : putI x a k y = x := by simp [putI, h']
    rw [e]; clear e
    go_enter Tryz.func105, Tryz.ntmps105
    go_wp2_with (go_at_call 73; refine (isField_any _ _ _).mono ?_; rintro e w' ⟨rfl, rfl⟩)
    go_ret
    exact ⟨rfl, 0, rfl⟩

theorem getI_bd (x a k : Int) : 0 ≤ getI x a k ∧ getI x a k ≤ 18446744073709551615 := by
  by_cases h : fieldB a k = true
  · have hf := field_of h
    rw [getI, if_pos h]
    have h1 := getN_lt x.toNat a.toNat k.toNat
    have h2 : 2 ^ k.toNat ≤ 2 ^ 64 := Nat.pow_le_pow_right (by decide) (by omega)
    omega
  · rw [getI, if_neg h]; omega

theorem signed_any (x a k : Int) (w : World) (hx : 0 ≤ x) (hx2 : x ≤ 18446744073709551615) :
    Calls Tryz.prog 44 #[.int .u64 x, .int .i64 a, .int .i64 k] w fun e w' => e = .returned (.int .i64 (signedI x a k)) ∧ ∃ n, w' = w.drewN n := by
  unfold signedI
  go_enter Tryz.func44, Tryz.ntmps44
  go_wp2_with (first | (go_at_call 61; refine (get_any _ _ _ _ ?_ ?_).mono ?_; assumption; assumption; rintro e w' ⟨rfl, n, rfl⟩) | (go_at_call 62; refine (wrap_any _ _ _).mono ?_; rintro e w' ⟨rfl, rfl⟩))
  go_ret
  exact ⟨rfl, _, rfl⟩

theorem fits_any (n k : Int) (w : World) :
    Calls Tryz.prog 68 #[.int .i64 n, .int .i64 k] w fun e w' => e = .returned (.bool (fitsB n k)) ∧ w' = w := by
  by_cases h1 : 1 ≤ k
  · by_cases h2 : k ≤ 64
    · have e : fitsB n k = (wrapI n k == n) := by simp [fitsB, h1, h2]
      rw [e]; clear e
      go_enter Tryz.func68, Tryz.ntmps68
      go_wp2_with (go_at_call 62; refine (wrap_any _ _ _).mono ?_; rintro e w' ⟨rfl, rfl⟩)
      go_ret
      exact ⟨rfl, rfl⟩
    · have e : fitsB n k = false := by simp [fitsB, h2]
      rw [e]; clear e
      go_enter Tryz.func68, Tryz.ntmps68
      go_wp2
      go_ret
      exact ⟨rfl, rfl⟩
  · have e : fitsB n k = false := by simp [fitsB, h1]
    rw [e]; clear e
    go_enter Tryz.func68, Tryz.ntmps68
    go_wp2
    go_ret
    exact ⟨rfl, rfl⟩


end Go.Proofs.YtkkbeobocbgmeaaGreat
