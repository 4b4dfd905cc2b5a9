/- More plain mathematics of chapter 1: what is put is got; wraps of sums and products; a rounded shift is the nearest. -/
import Derived.Test.YtlpmnkkfphjhbaaMath
namespace Go.Proofs.Ytlpmnkkfphjhbaa.M
open Go.RowKit (wrap64)

theorem field_iff (a k : Int) : fieldB a k = true ↔ 0 ≤ a ∧ a < 64 ∧ 1 ≤ k ∧ k ≤ 64 - a := by simp [fieldB]

theorem putI_in {p k : Int} (x y : Int) (h : fieldB p k = true) : putI x p k y = (putN x.toNat p.toNat k.toNat y.toNat : Int) := by rw [putI, if_pos h]
theorem getI_in {p k : Int} (x : Int) (h : fieldB p k = true) : getI x p k = (getN x.toNat p.toNat k.toNat : Int) := by rw [getI, if_pos h]

theorem putI_bd (x p k y : Int) (hx : 0 ≤ x) (hx2 : x ≤ 18446744073709551615) : 0 ≤ putI x p k y ∧ putI x p k y ≤ 18446744073709551615 := by
  by_cases h : fieldB p k = true
  · have hf := (field_iff p k).1 h
    rw [putI_in x y h]
    have := putN_lt x.toNat p.toNat k.toNat y.toNat (by omega) (by omega)
    omega
  · rw [putI, if_neg h]; exact ⟨hx, hx2⟩

theorem getI_bd' (x a k : Int) : 0 ≤ getI x a k ∧ getI x a k ≤ 18446744073709551615 := by
  by_cases h : fieldB a k = true
  · have hf := (field_iff a k).1 h
    rw [getI, if_pos h]
    have h1 := getN_lt x.toNat a.toNat k.toNat
    have h2 : 2 ^ k.toNat ≤ 2 ^ 64 := Nat.pow_le_pow_right (by decide) (by omega)
    omega
  · rw [getI, if_neg h]; omega

theorem get_put (x y p k : Int) (h : fieldB p k = true) : getI (putI x p k y) p k = getI y 0 k := by
  have hf := (field_iff p k).1 h
  have h0 : fieldB 0 k = true := (field_iff 0 k).2 (by omega)
  rw [getI_in _ h, getI_in _ h0, putI_in x y h]
  congr 1
  apply Nat.eq_of_testBit_eq
  intro i
  rw [Int.toNat_natCast, getN_bit, getN_bit, putN_bit]
  by_cases hi : i < k.toNat
  · have h1 : p.toNat ≤ i + p.toNat ∧ i + p.toNat < p.toNat + k.toNat := by omega
    rw [if_pos h1]
    have e : i + p.toNat - p.toNat = i + (0 : Int).toNat := by omega
    rw [e]
  · simp [hi]

theorem put_back (x y p k : Int) (h : fieldB p k = true) (hx : 0 ≤ x) : putI (putI x p k y) p k (getI x p k) = x := by
  rw [putI_in _ _ h, putI_in x y h, getI_in x h, Int.toNat_natCast, Int.toNat_natCast]
  have e : putN (putN x.toNat p.toNat k.toNat y.toNat) p.toNat k.toNat (getN x.toNat p.toNat k.toNat) = x.toNat := by
    apply Nat.eq_of_testBit_eq
    intro i
    rw [putN_bit]
    by_cases hi : p.toNat ≤ i ∧ i < p.toNat + k.toNat
    · rw [if_pos hi, getN_bit]
      have e1 : i - p.toNat + p.toNat = i := by omega
      have e2 : i - p.toNat < k.toNat := by omega
      simp [e1, e2]
    · rw [if_neg hi, putN_bit, if_neg hi]
  rw [e]; omega

theorem get_other (x y p k q j : Int) (h : fieldB p k = true) (h' : fieldB q j = true) (hd : q + j ≤ p ∨ p + k ≤ q) : getI (putI x p k y) q j = getI x q j := by
  have hf := (field_iff p k).1 h
  have hf' := (field_iff q j).1 h'
  rw [getI_in _ h', getI_in _ h', putI_in x y h]
  congr 1
  apply Nat.eq_of_testBit_eq
  intro i
  rw [Int.toNat_natCast, getN_bit, getN_bit, putN_bit]
  by_cases hi : i < j.toNat
  · rw [if_neg (by omega)]
  · simp [hi]

theorem get_none (x a k : Int) (h : fieldB a k = false) : getI x a k = 0 := by simp [getI, h]
theorem put_none (x a k y : Int) (h : fieldB a k = false) : putI x a k y = x := by simp [putI, h]
theorem get_all (x : Int) (hx : 0 ≤ x) (hx2 : x ≤ 18446744073709551615) : getI x 0 64 = x := by
  rw [getI_in x (by decide)]
  have : getN x.toNat (0 : Int).toNat (64 : Int).toNat = x.toNat := by
    show x.toNat / 2 ^ 0 % 2 ^ 64 = x.toNat
    rw [Nat.pow_zero, Nat.div_one]
    exact Nat.mod_eq_of_lt (by omega)
  omega

/-! Within -/
def withinI (n lo hi : Int) : Int := lo + n % (hi - lo + 1)
theorem within_bd (n lo hi : Int) (h : lo ≤ hi) : lo ≤ withinI n lo hi ∧ withinI n lo hi ≤ hi := by
  have h1 := Int.emod_nonneg n (show hi - lo + 1 ≠ 0 by omega)
  have h2 := Int.emod_lt_of_pos n (show 0 < hi - lo + 1 by omega)
  unfold withinI
  omega

/-! wraps -/
theorem wrapI_congr (x y k : Int) (h1 : 1 ≤ k) (h2 : k ≤ 63) (h : x.bmod (2 ^ k.toNat) = y.bmod (2 ^ k.toNat)) : wrapI x k = wrapI y k := by
  rw [wrapI, wrapI, if_pos ⟨h1, by omega⟩, if_pos ⟨h1, by omega⟩, h]
theorem pow_dvd64 (k : Nat) (h : k ≤ 64) : 2 ^ k ∣ 2 ^ 64 := Nat.pow_dvd_pow 2 h
theorem wrapI_in' (n k : Int) (h1 : 1 ≤ k) (h2 : k ≤ 63) : wrapI n k = n.bmod (2 ^ k.toNat) := by rw [wrapI, if_pos ⟨h1, by omega⟩]
theorem wrap64_mod (x : Int) (k : Nat) (h : k ≤ 64) : (wrap64 x).bmod (2 ^ k) = x.bmod (2 ^ k) := by
  rw [wrap64_bmod, Int.bmod_bmod_of_dvd (pow_dvd64 k h)]
theorem wraps_fit (n k : Int) (h1 : 1 ≤ k) (h2 : k ≤ 63) : fitsB (wrapI n k) k = true := by
  have : wrapI (wrapI n k) k = wrapI n k := by
    rw [wrapI_in' _ k h1 h2, wrapI_in' n k h1 h2, Int.bmod_bmod]
  simp [fitsB, this]; omega
theorem fits_is (n k : Int) (h1 : 1 ≤ k) (h2 : k ≤ 63) : fitsB n k = (wrapI n k == n) := by
  have : 1 ≤ k ∧ k ≤ 64 := by omega
  simp [fitsB, this]
theorem wraps_add (n m k : Int) (h1 : 1 ≤ k) (h2 : k ≤ 63) : wrapI (wrap64 (wrapI n k + wrapI m k)) k = wrapI (wrap64 (n + m)) k := by
  apply wrapI_congr _ _ _ h1 h2
  rw [wrap64_mod _ _ (by omega), wrap64_mod _ _ (by omega), wrapI_in' n k h1 h2, wrapI_in' m k h1 h2, Int.bmod_add_bmod, Int.add_bmod_bmod]
theorem wraps_mul (n m k : Int) (h1 : 1 ≤ k) (h2 : k ≤ 63) : wrapI (wrap64 (wrapI n k * wrapI m k)) k = wrapI (wrap64 (n * m)) k := by
  apply wrapI_congr _ _ _ h1 h2
  rw [wrap64_mod _ _ (by omega), wrap64_mod _ _ (by omega), wrapI_in' n k h1 h2, wrapI_in' m k h1 h2, Int.bmod_mul_bmod, Int.mul_comm n, Int.bmod_mul_bmod, Int.mul_comm]
theorem wraps_dif (n k : Int) (h1 : 1 ≤ k) (h2 : k ≤ 63) : bits .and .i64 (wrap64 (n - wrapI n k)) (wrap64 (wrap64 (2 ^ k.toNat) - 1)) = 0 := by
  rw [rest_i64 _ _ (by omega)]
  have e : ((2 ^ k.toNat : Nat) : Int) = 2 ^ k.toNat := cast_pow _
  have h3 : (wrap64 (n - wrapI n k)).bmod (2 ^ k.toNat) = 0 := by
    rw [wrap64_mod _ _ (by omega), wrapI_in' n k h1 h2, Int.sub_eq_add_neg, ← Int.add_bmod_bmod, Int.bmod_neg_bmod, Int.add_bmod_bmod, ← Int.sub_eq_add_neg, Int.sub_self, Int.zero_bmod]
  have h4 := Int.bmod_emod (x := wrap64 (n - wrapI n k)) (m := 2 ^ k.toNat)
  rw [h3, e] at h4
  simpa using h4.symm

/-! rounding -/
theorem near (x k : Int) (h1 : 1 ≤ k) (h2 : k ≤ 62) :
    -(2 ^ (k.toNat - 1)) ≤ x - roundI x k * 2 ^ k.toNat ∧ x - roundI x k * 2 ^ k.toNat ≤ 2 ^ (k.toNat - 1) ∧
    ((x - roundI x k * 2 ^ k.toNat = 2 ^ (k.toNat - 1) ∨ x - roundI x k * 2 ^ k.toNat = -(2 ^ (k.toNat - 1))) → roundI x k % 2 = 0) := by
  have e1 : (k - 1).toNat = k.toNat - 1 := by omega
  have hp := pow_pos' (k.toNat - 1)
  have e := half_pow k.toNat (by omega)
  have b1 : 0 ≤ x % 2 ^ k.toNat := Int.emod_nonneg _ (by omega)
  have b2 : x % 2 ^ k.toNat < 2 ^ k.toNat := Int.emod_lt_of_pos _ (by omega)
  have hd := Int.mul_ediv_add_emod x (2 ^ k.toNat)
  rw [roundI, if_pos ⟨h1, h2⟩, e1]
  rw [Int.mul_comm] at hd
  split
  · rename_i h
    rw [Int.add_mul, Int.one_mul]
    generalize x / 2 ^ k.toNat * 2 ^ k.toNat = m at *
    generalize x % 2 ^ k.toNat = r at *
    generalize x / 2 ^ k.toNat = q at *
    generalize (2 : Int) ^ (k.toNat - 1) = H at *
    generalize (2 : Int) ^ k.toNat = P at *
    omega
  · rename_i h
    generalize x / 2 ^ k.toNat * 2 ^ k.toNat = m at *
    generalize x % 2 ^ k.toNat = r at *
    generalize x / 2 ^ k.toNat = q at *
    generalize (2 : Int) ^ (k.toNat - 1) = H at *
    generalize (2 : Int) ^ k.toNat = P at *
    omega

theorem round_mul (q k : Int) (h1 : 1 ≤ k) (h2 : k ≤ 62) : roundI (q * 2 ^ k.toNat) k = q := by
  have hp := pow_pos' (k.toNat - 1)
  have hp' := pow_pos' k.toNat
  have e1 : (k - 1).toNat = k.toNat - 1 := by omega
  rw [roundI, if_pos ⟨h1, h2⟩, e1, Int.mul_emod_left, Int.mul_ediv_cancel _ (by omega)]
  rw [if_neg (by omega)]

theorem near_facts (x k : Int) (h1 : 1 ≤ k) (h2 : k ≤ 40) (x1 : -1152921504606846976 ≤ x) (x2 : x ≤ 1152921504606846976) :
    ∃ q s H r, roundI x k = q ∧ wrap64 (q * 2 ^ k.toNat) = s ∧ wrap64 (2 ^ (k.toNat - 1)) = H ∧ x - s = r ∧ 0 < H ∧ H ≤ 549755813888 ∧ -H ≤ r ∧ r ≤ H ∧ roundI s k = q ∧
      ((H ≤ r ∨ r ≤ -H) ∧ bits .and .i64 q 1 = 0 ∨ r < H ∧ -H < r) := by
  obtain ⟨n1, n2, n3⟩ := near x k h1 (by omega)
  have hm := round_mul (roundI x k) k h1 (by omega)
  have hH := pow_in (k.toNat - 1) (by omega)
  have hb := pow_le63 (k.toNat - 1) 39 (by omega)
  have hb0 := pow_pos' (k.toNat - 1)
  have e39 : (2 : Int) ^ 39 = 549755813888 := by decide
  rw [e39] at hb
  have ho := odd_i64 (roundI x k)
  rw [← ho] at n3
  generalize roundI x k = q at *
  have hs : wrap64 (q * 2 ^ k.toNat) = q * 2 ^ k.toNat := by
    clear hm hH n3 ho
    generalize q * 2 ^ k.toNat = s at *
    generalize (2 : Int) ^ (k.toNat - 1) = H at *
    exact IntWalk.wrap64_in _ ⟨by omega, by omega⟩
  refine ⟨q, q * 2 ^ k.toNat, 2 ^ (k.toNat - 1), x - q * 2 ^ k.toNat, rfl, hs, hH, rfl, hb0, hb, n1, n2, hm, ?_⟩
  clear hm hH hs ho
  generalize bits .and .i64 q 1 = o at *
  generalize q * 2 ^ k.toNat = s at *
  generalize (2 : Int) ^ (k.toNat - 1) = H at *
  by_cases he : x - s = H ∨ x - s = -H
  · exact Or.inl ⟨by clear n3; omega, n3 he⟩
  · clear n3; exact Or.inr (by omega)

end Go.Proofs.Ytlpmnkkfphjhbaa.M
