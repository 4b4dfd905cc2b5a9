/- What each function of package bits answers, for every argument: the contracts of chapter 1's code. -/
import Derived.Test.YtjpffempmlfoeaaDoorMath
import Derived.Test.YtjpffempmlfoeaaDoorBase
namespace Go.Proofs.YtjpffempmlfoeaaDoor
open Go.RowKit M




theorem field_of {a k : Int} (h : fieldB a k = true) : 0 ≤ a ∧ a < 64 ∧ 1 ≤ k ∧ k ≤ 64 - a := by simpa [fieldB] using h

theorem get_val {x a k : Int} (hx : 0 ≤ x) (hx2 : x ≤ 18446744073709551615) (h : fieldB a k = true) :
    bits .and .u64 (x / 2 ^ a.toNat) (lowI k) = getI x a k := by
  have hf := field_of h
  obtain ⟨X, rfl⟩ := Int.eq_ofNat_of_zero_le hx
  rw [getI, if_pos h, lowI_nat, get_code X _ _ (by omega) (by omega)]
  rfl

theorem put_val {x y a k : Int} (hx : 0 ≤ x) (hx2 : x ≤ 18446744073709551615) (hy : 0 ≤ y) (hy2 : y ≤ 18446744073709551615) (h : fieldB a k = true) :
    bits .or .u64 (bits .andNot .u64 x (IntKind.u64.wrap (lowI k * 2 ^ a.toNat))) (IntKind.u64.wrap (bits .and .u64 y (lowI k) * 2 ^ a.toNat)) = putI x a k y := by
  have hf := field_of h
  obtain ⟨X, rfl⟩ := Int.eq_ofNat_of_zero_le hx
  obtain ⟨Y, rfl⟩ := Int.eq_ofNat_of_zero_le hy
  have hl := mul_low a.toNat k.toNat (by omega)
  have e1 : IntKind.u64.wrap (lowI k * 2 ^ a.toNat) = (((2 ^ k.toNat - 1) * 2 ^ a.toNat : Nat) : Int) := by
    have e : lowI k * 2 ^ a.toNat = (((2 ^ k.toNat - 1) * 2 ^ a.toNat : Nat) : Int) := by rw [lowI_nat]; simp
    rw [e]; exact IntWalk.u64_in _ ⟨by omega, by omega⟩
  have e2 := get_val (x := (Y : Int)) (a := 0) (k := k) hy hy2 (by simp [fieldB]; omega)
  have e3 : getI (Y : Int) 0 k = ((Y % 2 ^ k.toNat : Nat) : Int) := by
    rw [getI, if_pos (by simp [fieldB]; omega)]
    simp [getN]
  rw [e3] at e2
  have e4 : (Y : Int) / 2 ^ (0 : Int).toNat = Y := by simp
  rw [e4] at e2
  have hm : Y % 2 ^ k.toNat * 2 ^ a.toNat < 18446744073709551616 := by
    have h1 : Y % 2 ^ k.toNat ≤ 2 ^ k.toNat - 1 := by have := Nat.mod_lt Y (Nat.two_pow_pos k.toNat); omega
    exact Nat.lt_of_le_of_lt (Nat.mul_le_mul_right _ h1) hl
  have e5 : IntKind.u64.wrap (bits .and .u64 (Y : Int) (lowI k) * 2 ^ a.toNat) = ((Y % 2 ^ k.toNat * 2 ^ a.toNat : Nat) : Int) := by
    have e : bits .and .u64 (Y : Int) (lowI k) * 2 ^ a.toNat = ((Y % 2 ^ k.toNat * 2 ^ a.toNat : Nat) : Int) := by rw [e2]; simp
    rw [e]; exact IntWalk.u64_in _ ⟨by omega, by omega⟩
  rw [e1, e5, put_code X _ _ Y (by omega) (by omega), putI, if_pos h]
  rfl



theorem getI_bd (x a k : Int) : 0 ≤ getI x a k ∧ getI x a k ≤ 18446744073709551615 := by
  by_cases h : fieldB a k = true
  · have hf := field_of h
    rw [getI, if_pos h]
    have h1 := getN_lt x.toNat a.toNat k.toNat
    have h2 : 2 ^ k.toNat ≤ 2 ^ 64 := Nat.pow_le_pow_right (by decide) (by omega)
    omega
  · rw [getI, if_neg h]; omega




end Go.Proofs.YtjpffempmlfoeaaDoor
