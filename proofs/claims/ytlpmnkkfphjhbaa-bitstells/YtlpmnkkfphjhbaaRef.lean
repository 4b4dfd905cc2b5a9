/- What each function of the document's own answer to chapter 1 answers, for every argument: the same words as the contracts of the code. -/
import Derived.Test.YtlpmnkkfphjhbaaBits
namespace Go.Proofs.Ytlpmnkkfphjhbaa
open Go.RowKit M

theorem rfits_any (n k : Int) (w : World) :
    Calls Try.prog 14 #[.int .i64 n, .int .i64 k] w fun e w' => e = .returned (.bool (fitsB n k)) ∧ w' = w := by
  by_cases h1 : k < 1
  · have e : fitsB n k = false := by simp [fitsB]; omega
    rw [e]; clear e
    go_enter Try.func14, Try.ntmps14
    go_wp2
    go_ret
    exact ⟨rfl, rfl⟩
  · by_cases h2 : 64 < k
    · have e : fitsB n k = false := by simp [fitsB]; omega
      rw [e]; clear e
      go_enter Try.func14, Try.ntmps14
      go_wp2
      go_ret
      exact ⟨rfl, rfl⟩
    · by_cases h3 : k = 64
      · subst h3
        have e : fitsB n 64 = true := by simp [fitsB, wrapI]
        rw [e]; clear e
        go_enter Try.func14, Try.ntmps14
        go_wp2
        go_ret
        exact ⟨rfl, rfl⟩
      · go_enter Try.func14, Try.ntmps14
        go_wp2
        all_goals
          go_ret
          refine ⟨ret_bool ?_, rfl⟩
          simp only [pow_in (k.toNat - 1) (by omega), neg_in (k.toNat - 1) (by omega), less_in (k.toNat - 1) (by omega)] at *
          first
            | exact fits_yes n k (by omega) (by omega) ‹_›
            | exact fits_no n k (by omega) (by omega) ‹_›

theorem rwrap_any (n k : Int) (w : World) :
    Calls Try.prog 15 #[.int .i64 n, .int .i64 k] w fun e w' => e = .returned (.int .i64 (wrapI n k)) ∧ w' = w := by
  by_cases h1 : k < 1
  · rw [wrapI_out n k (Or.inl h1)]
    go_enter Try.func15, Try.ntmps15
    go_wp2
    go_ret
    exact ⟨rfl, rfl⟩
  · by_cases h2 : 63 < k
    · rw [wrapI_out n k (Or.inr (by omega))]
      go_enter Try.func15, Try.ntmps15
      go_wp2
      go_ret
      exact ⟨rfl, rfl⟩
    · go_enter Try.func15, Try.ntmps15
      go_wp2
      all_goals
        go_ret
        refine ⟨ret_int ?_, rfl⟩
        simp only [u_low n k.toNat (by omega), beq_iff_eq, beq_eq_false_iff_ne] at *
        first
          | exact wrap_neg n k (by omega) (by omega) ‹_›
          | exact wrap_pos n k (by omega) (by omega) ‹_›

theorem rround_any (n b : Int) (w : World) (hn1 : -9223372036854775808 ≤ n) (hn2 : n ≤ 9223372036854775807) :
    Calls Try.prog 20 #[.int .i64 n, .int .i64 b] w fun e w' => e = .returned (.int .i64 (roundI n b)) ∧ w' = w := by
  by_cases h1 : b < 1
  · have e : roundI n b = n := by rw [roundI, if_neg (by omega)]
    rw [e]; clear e
    go_enter Try.func20, Try.ntmps20
    go_wp2
    go_ret
    exact ⟨rfl, rfl⟩
  · by_cases h2 : 62 < b
    · have e : roundI n b = n := by rw [roundI, if_neg (by omega)]
      rw [e]; clear e
      go_enter Try.func20, Try.ntmps20
      go_wp2
      go_ret
      exact ⟨rfl, rfl⟩
    · go_enter Try.func20, Try.ntmps20
      go_wp2
      all_goals
        go_ret
        refine ⟨ret_int ?_, rfl⟩
        simp only [rest_ref n b.toNat (by omega), pow_in (b.toNat - 1) (by omega), odd_i64, beq_iff_eq, beq_eq_false_iff_ne] at *
        first
          | exact round_up n b (by omega) (by omega) hn1 hn2 (by omega)
          | exact round_dn n b (by omega) (by omega) (by omega)

theorem mask_no (a k : Int) (w : World) (h : fieldB a k = false) :
    Calls Try.prog 24 #[.int .i64 a, .int .i64 k] w fun e w' => e = .returned (.int .u64 0) ∧ w' = w := by
  have h : ¬ (0 ≤ a ∧ a < 64 ∧ 1 ≤ k ∧ k ≤ 64 - a) := by simpa only [fieldB, decide_eq_false_iff_not] using h
  by_cases h1 : a < 0
  · clear h
    go_enter Try.func24, Try.ntmps24
    go_wp2
    go_ret
    exact ⟨rfl, rfl⟩
  · by_cases h2 : 63 < a
    · clear h
      go_enter Try.func24, Try.ntmps24
      go_wp2
      go_ret
      exact ⟨rfl, rfl⟩
    · by_cases h3 : k < 1
      · clear h
        go_enter Try.func24, Try.ntmps24
        go_wp2
        go_ret
        exact ⟨rfl, rfl⟩
      · have h4 : 64 - a < k := by omega
        clear h
        go_enter Try.func24, Try.ntmps24
        go_wp2
        go_ret
        exact ⟨rfl, rfl⟩

theorem mask_step (p i : Nat) (h : p + i < 64) : bits .or .u64 (maskN p i : Int) (IntKind.u64.wrap (2 ^ (p + i))) = (maskN p (i + 1) : Int) := by
  have h1 := pow_pos' (p + i)
  have h2 := pow_le63 (p + i) 63 (by omega)
  have hm : maskN p i < 18446744073709551616 := mul_low p i (by omega)
  have hp : 2 ^ (p + i) < 18446744073709551616 := Nat.lt_of_le_of_lt (Nat.pow_le_pow_right (by decide) (by omega : p + i ≤ 63)) (by decide)
  rw [IntWalk.u64_in (2 ^ (p + i)) ⟨by omega, by omega⟩, ← cast_pow, u64_or_nat _ _ hm hp, maskN_succ]

theorem mask_yes (a k : Int) (w : World) (h : fieldB a k = true) :
    Calls Try.prog 24 #[.int .i64 a, .int .i64 k] w fun e w' => e = .returned (.int .u64 (maskN a.toNat k.toNat : Int)) ∧ w' = w := by
  obtain ⟨f1, f2, f3, f4⟩ := field_of h
  clear h
  obtain ⟨p, rfl⟩ := Int.eq_ofNat_of_zero_le f1
  obtain ⟨q, rfl⟩ := Int.eq_ofNat_of_zero_le (by omega : 0 ≤ k)
  simp only [Int.toNat_natCast]
  go_enter Try.func24, Try.ntmps24
  go_wp2
  go_loop [5, 24] (fun m i => ∃ j : Nat, j ≤ q ∧ i = .int .i64 j ∧ m = .int .u64 (maskN p j : Int)) (fun _ i => q - (intOf i).toNat)
  case atStart => exact ⟨0, Nat.zero_le _, rfl, by simp [maskN]⟩
  case round =>
    obtain ⟨j, hj, rfl, rfl⟩ := hrel
    by_cases hlt : j < q
    · go_wp2
      go_round
      case rel => exact ⟨j + 1, by omega, by go_num, by rw [mask_step p j (by omega)]⟩
      case measure => simp [intOf]; omega
    · go_wp2
      go_ret
      have e : j = q := by omega
      exact ⟨ret_int (by rw [e]), rfl⟩

theorem rget_any (x a k : Int) (w : World) (hx : 0 ≤ x) (hx2 : x ≤ 18446744073709551615) :
    Calls Try.prog 17 #[.int .u64 x, .int .i64 a, .int .i64 k] w fun e w' => e = .returned (.int .u64 (getI x a k)) ∧ w' = w := by
  by_cases h : fieldB a k = true
  · obtain ⟨f1, f2, f3, f4⟩ := field_of h
    have HV : Hid (bits .and .u64 x (maskN a.toNat k.toNat : Int) / 2 ^ a.toNat = getI x a k) := by
      obtain ⟨X, rfl⟩ := Int.eq_ofNat_of_zero_le hx
      exact (by rw [getI, if_pos h, get_ref X _ _ (by omega) (by omega)]; rfl)
    have hz : ((maskN a.toNat k.toNat : Int) == 0) = false := by
      have := maskN_pos a.toNat k.toNat (by omega)
      simpa using this
    go_enter Try.func17, Try.ntmps17
    go_wp2_with (go_at_call 24; refine (mask_yes _ _ _ h).mono ?_; rintro e w' ⟨rfl, rfl⟩)
    go_ret
    exact ⟨ret_int HV.out, rfl⟩
  · have h' : fieldB a k = false := by simpa using h
    have e : getI x a k = 0 := by simp [getI, h']
    rw [e]; clear e
    go_enter Try.func17, Try.ntmps17
    go_wp2_with (go_at_call 24; refine (mask_no _ _ _ h').mono ?_; rintro e w' ⟨rfl, rfl⟩)
    go_ret
    exact ⟨rfl, rfl⟩

theorem rput_any (x a k y : Int) (w : World) (hx : 0 ≤ x) (hx2 : x ≤ 18446744073709551615) (hy : 0 ≤ y) (hy2 : y ≤ 18446744073709551615) :
    Calls Try.prog 18 #[.int .u64 x, .int .i64 a, .int .i64 k, .int .u64 y] w fun e w' => e = .returned (.int .u64 (putI x a k y)) ∧ w' = w := by
  by_cases h : fieldB a k = true
  · obtain ⟨f1, f2, f3, f4⟩ := field_of h
    have HV : Hid (bits .or .u64 (bits .andNot .u64 x (maskN a.toNat k.toNat : Int)) (bits .and .u64 (IntKind.u64.wrap (y * 2 ^ a.toNat)) (maskN a.toNat k.toNat : Int)) = putI x a k y) := by
      obtain ⟨X, rfl⟩ := Int.eq_ofNat_of_zero_le hx
      obtain ⟨Y, rfl⟩ := Int.eq_ofNat_of_zero_le hy
      exact (by rw [putI, if_pos h, put_ref X _ _ Y (by omega) (by omega)]; rfl)
    have hz : ((maskN a.toNat k.toNat : Int) == 0) = false := by
      have := maskN_pos a.toNat k.toNat (by omega)
      simpa using this
    go_enter Try.func18, Try.ntmps18
    go_wp2_with (go_at_call 24; refine (mask_yes _ _ _ h).mono ?_; rintro e w' ⟨rfl, rfl⟩)
    go_ret
    exact ⟨ret_int HV.out, rfl⟩
  · have h' : fieldB a k = false := by simpa using h
    have e : putI x a k y = x := by simp [putI, h']
    rw [e]; clear e
    go_enter Try.func18, Try.ntmps18
    go_wp2_with (go_at_call 24; refine (mask_no _ _ _ h').mono ?_; rintro e w' ⟨rfl, rfl⟩)
    go_ret
    exact ⟨rfl, rfl⟩

theorem rsigned_any (x a k : Int) (w : World) (hx : 0 ≤ x) (hx2 : x ≤ 18446744073709551615) :
    Calls Try.prog 19 #[.int .u64 x, .int .i64 a, .int .i64 k] w fun e w' => e = .returned (.int .i64 (signedI x a k)) ∧ w' = w := by
  unfold signedI
  go_enter Try.func19, Try.ntmps19
  go_wp2_with (first | (go_at_call 17; refine (rget_any _ _ _ _ ?_ ?_).mono ?_; assumption; assumption; rintro e w' ⟨rfl, rfl⟩) | (go_at_call 15; refine (rwrap_any _ _ _).mono ?_; rintro e w' ⟨rfl, rfl⟩))
  go_ret
  exact ⟨rfl, rfl⟩

end Go.Proofs.Ytlpmnkkfphjhbaa
