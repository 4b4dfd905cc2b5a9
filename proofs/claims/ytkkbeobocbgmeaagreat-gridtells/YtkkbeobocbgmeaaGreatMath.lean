/- Plain mathematics of chapter 1 (fields, wraps, rounding): no program is spoken of here, so this text has no conditions on one. -/
import Derived.WalkKit
namespace Go.Proofs.YtkkbeobocbgmeaaGreat.M
open Go.RowKit (wrap64)

/-! wraps -/
theorem wrap64_bmod (n : Int) : wrap64 n = n.bmod (2 ^ 64) := by
  unfold wrap64
  rw [Int.bmod_def]
  have e : (((2 ^ 64 : Nat) : Nat) : Int) = 18446744073709551616 := by decide
  rw [e]
  split <;> omega

def wrapI (n w : Int) : Int := if 1 ≤ w ∧ w < 64 then n.bmod (2 ^ w.toNat) else n
def fitsB (n w : Int) : Bool := decide (1 ≤ w ∧ w ≤ 64) && (wrapI n w == n)

theorem pow_pos' (k : Nat) : (0 : Int) < 2 ^ k := by
  have := Nat.two_pow_pos k
  have e : ((2 ^ k : Nat) : Int) = (2 : Int) ^ k := by simp
  omega

theorem shl_shr (n : Int) (k g : Nat) (h : k + g = 64) (hk : 1 ≤ k) : wrap64 (n * 2 ^ g) / 2 ^ g = n.bmod (2 ^ k) := by
  have hp := pow_pos' g
  obtain ⟨j, rfl⟩ : ∃ j, k = j + 1 := ⟨k - 1, by omega⟩
  have e64 : (2 ^ 64 : Nat) = 2 ^ (j + 1) * 2 ^ g := by rw [← Nat.pow_add, h]
  have key : (n * 2 ^ g).bmod (2 ^ 64) = n.bmod (2 ^ (j + 1)) * 2 ^ g := by
    rw [Int.bmod_eq_iff (by decide)]
    have hq := Int.bmod_add_bdiv n (2 ^ (j + 1))
    have h1 := Int.le_bmod (x := n) (m := 2 ^ (j + 1)) (Nat.two_pow_pos _)
    have h2 := Int.bmod_lt (x := n) (m := 2 ^ (j + 1)) (Nat.two_pow_pos _)
    generalize hr : n.bmod (2 ^ (j + 1)) = r at *
    generalize n.bdiv (2 ^ (j + 1)) = q at *
    have ej : ((2 ^ (j + 1) : Nat) : Int) = 2 * 2 ^ j := by simp [Int.pow_succ]; omega
    have e64i : ((2 ^ 64 : Nat) : Int) = 2 * (2 ^ j * 2 ^ g) := by
      rw [e64, Int.natCast_mul, ej]; simp [Int.mul_assoc]
    have hpj := pow_pos' j
    rw [ej] at h1 h2 hq
    rw [e64i]
    have b1 : -(2 : Int) ^ j ≤ r := by omega
    have b2 : r ≤ (2 : Int) ^ j - 1 := by omega
    have m1 : -(2 : Int) ^ j * 2 ^ g ≤ r * 2 ^ g := Int.mul_le_mul_of_nonneg_right b1 (by omega)
    have m2 : r * 2 ^ g ≤ ((2 : Int) ^ j - 1) * 2 ^ g := Int.mul_le_mul_of_nonneg_right b2 (by omega)
    rw [Int.neg_mul] at m1
    rw [Int.sub_mul] at m2
    refine ⟨by omega, by omega, ?_⟩
    refine ⟨-q, ?_⟩
    rw [← hq, Int.add_mul]
    have : 2 * (2 : Int) ^ j * q * 2 ^ g = 2 * (2 ^ j * 2 ^ g) * q := by
      rw [Int.mul_assoc, Int.mul_assoc, Int.mul_assoc, Int.mul_assoc, Int.mul_comm q]
    rw [this, Int.mul_neg]
    omega
  rw [wrap64_bmod, key]
  exact Int.mul_ediv_cancel _ (by omega)

theorem wrapI_in (n w : Int) (h1 : 1 ≤ w) (h2 : w < 64) : wrap64 (n * 2 ^ (64 - w).toNat) / 2 ^ (64 - w).toNat = wrapI n w := by
  rw [shl_shr n w.toNat (64 - w).toNat (by omega) (by omega)]
  simp [wrapI, h1, h2]
theorem wrapI_out (n w : Int) (h : w < 1 ∨ 64 ≤ w) : wrapI n w = n := by
  unfold wrapI; rw [if_neg (by omega)]

/-! fields -/
def fieldB (a w : Int) : Bool := decide (0 ≤ a ∧ a < 64 ∧ 1 ≤ w ∧ w ≤ 64 - a)
def getN (word p k : Nat) : Nat := word / 2 ^ p % 2 ^ k
def putN (word p k x : Nat) : Nat := word ^^^ (((word / 2 ^ p ^^^ x) % 2 ^ k) * 2 ^ p)
def getI (word a w : Int) : Int := if fieldB a w = true then (getN word.toNat a.toNat w.toNat : Int) else 0
def putI (word a w x : Int) : Int := if fieldB a w = true then (putN word.toNat a.toNat w.toNat x.toNat : Int) else word
def signedI (word a w : Int) : Int := wrapI (wrap64 (getI word a w)) w
def lowI (w : Int) : Int := 2 ^ w.toNat - 1

theorem low_of (w : Int) (h1 : 1 ≤ w) (h2 : w ≤ 64) : 18446744073709551615 / 2 ^ (64 - w).toNat = lowI w := by
  have key : ∀ k : Fin 65, (18446744073709551615 : Int) / 2 ^ (64 - k.val) = 2 ^ k.val - 1 := by decide +kernel
  have := key ⟨w.toNat, by omega⟩
  unfold lowI
  have e : (64 - w).toNat = 64 - w.toNat := by omega
  rw [e]; exact this

theorem lowI_nat (w : Int) : lowI w = ((2 ^ w.toNat - 1 : Nat) : Int) := by
  unfold lowI
  rw [Int.natCast_sub (Nat.two_pow_pos _)]; simp

theorem getN_bit (word p k i : Nat) : (getN word p k).testBit i = (decide (i < k) && word.testBit (i + p)) := by
  unfold getN; rw [Nat.testBit_mod_two_pow, Nat.testBit_div_two_pow]
theorem putN_bit (word p k x i : Nat) : (putN word p k x).testBit i = if p ≤ i ∧ i < p + k then x.testBit (i - p) else word.testBit i := by
  unfold putN
  rw [Nat.testBit_xor, Nat.testBit_mul_two_pow, Nat.testBit_mod_two_pow, Nat.testBit_xor, Nat.testBit_div_two_pow]
  by_cases h1 : p ≤ i
  · have e : i - p + p = i := by omega
    rw [e]
    by_cases h2 : i < p + k
    · have h3 : i - p < k := by omega
      simp [h1, h2, h3]
    · have h3 : ¬ i - p < k := by omega
      simp [h1, h2, h3]
  · simp [h1]
theorem getN_lt (word p k : Nat) : getN word p k < 2 ^ k := Nat.mod_lt _ (Nat.two_pow_pos _)
theorem putN_lt (word p k x : Nat) (h : p + k ≤ 64) (hw : word < 2 ^ 64) : putN word p k x < 2 ^ 64 := by
  apply Nat.lt_pow_two_of_testBit
  intro i hi
  rw [putN_bit, if_neg (by omega)]
  exact Nat.testBit_lt_two_pow (Nat.lt_of_lt_of_le hw (Nat.pow_le_pow_right (by decide) hi))

theorem lt64 {x : Nat} (h : x < 18446744073709551616) : x < 2 ^ 64 := h
theorem bit_out {x i : Nat} (h : x < 2 ^ 64) (hi : 64 ≤ i) : x.testBit i = false :=
  Nat.testBit_lt_two_pow (Nat.lt_of_lt_of_le h (Nat.pow_le_pow_right (by decide) hi))
theorem sub_bit (b i : Nat) (hb : b < 2 ^ 64) (hi : i < 64) : (18446744073709551615 - b).testBit i = !b.testBit i := by
  have := Nat.testBit_two_pow_sub_succ hb i
  have e : (2 ^ 64 - (b + 1) : Nat) = 18446744073709551615 - b := by omega
  rw [e] at this
  rw [this]; simp [hi]

/-- the code's way of a field's number -/
theorem get_code (word p k : Nat) (hw : word < 18446744073709551616) (hk : k ≤ 64) :
    bits .and .u64 ((word : Int) / 2 ^ p) ((2 ^ k - 1 : Nat) : Int) = (getN word p k : Int) := by
  have e : ((word : Int) / 2 ^ p) = ((word / 2 ^ p : Nat) : Int) := by simp
  have h1 : word / 2 ^ p < 18446744073709551616 := Nat.lt_of_le_of_lt (Nat.div_le_self _ _) hw
  have h2 : 2 ^ k - 1 < 18446744073709551616 := by
    have : 2 ^ k ≤ 2 ^ 64 := Nat.pow_le_pow_right (by decide) hk
    have := Nat.two_pow_pos k
    omega
  rw [e, u64_and_nat _ _ h1 h2, Nat.and_two_pow_sub_one_eq_mod]
  rfl

theorem mul_low (p k : Nat) (h : p + k ≤ 64) : (2 ^ k - 1) * 2 ^ p < 18446744073709551616 := by
  have h1 := Nat.two_pow_pos k
  have h2 := Nat.two_pow_pos p
  have h3 : 2 ^ k * 2 ^ p ≤ 2 ^ 64 := by rw [← Nat.pow_add]; exact Nat.pow_le_pow_right (by decide) (by omega)
  have h4 : (2 ^ k - 1) * 2 ^ p < 2 ^ k * 2 ^ p := Nat.mul_lt_mul_of_pos_right (by omega) h2
  omega

theorem put_code (word p k x : Nat) (hw : word < 18446744073709551616) (h : p + k ≤ 64) :
    bits .or .u64 (bits .andNot .u64 (word : Int) (((2 ^ k - 1) * 2 ^ p : Nat) : Int)) (((x % 2 ^ k) * 2 ^ p : Nat) : Int) = (putN word p k x : Int) := by
  have hl := mul_low p k h
  have hx2 : (x % 2 ^ k) * 2 ^ p < 18446744073709551616 := by
    have h1 : x % 2 ^ k ≤ 2 ^ k - 1 := by have := Nat.mod_lt x (Nat.two_pow_pos k); omega
    exact Nat.lt_of_le_of_lt (Nat.mul_le_mul_right _ h1) hl
  have ha : word &&& (18446744073709551615 - (2 ^ k - 1) * 2 ^ p) < 2 ^ 64 := Nat.and_lt_two_pow _ (by omega)
  rw [u64_andNot_nat _ _ hw hl, u64_or_nat _ _ ha hx2]
  congr 1
  apply Nat.eq_of_testBit_eq
  intro i
  rw [putN_bit, Nat.testBit_or, Nat.testBit_and, Nat.testBit_mul_two_pow, Nat.testBit_mod_two_pow]
  by_cases hi : i < 64
  · rw [sub_bit _ _ hl hi, Nat.testBit_mul_two_pow, Nat.testBit_two_pow_sub_one]
    by_cases h1 : p ≤ i
    · by_cases h2 : i < p + k
      · have h3 : i - p < k := by omega
        simp [h1, h2, h3]
      · have h3 : ¬ i - p < k := by omega
        simp [h1, h2, h3]
    · simp [h1]
  · have h3 : ¬ i - p < k := by omega
    have h4 : ¬ i < p + k := by omega
    simp [bit_out (lt64 hw) (by omega : 64 ≤ i), h3, h4]

/-- a mask by its bits -/
def maskN (p k : Nat) : Nat := (2 ^ k - 1) * 2 ^ p
theorem maskN_bit (p k i : Nat) : (maskN p k).testBit i = decide (p ≤ i ∧ i < p + k) := by
  unfold maskN
  rw [Nat.testBit_mul_two_pow, Nat.testBit_two_pow_sub_one]
  by_cases h1 : p ≤ i
  · by_cases h2 : i < p + k
    · have h3 : i - p < k := by omega
      simp [h1, h2, h3]
    · have h3 : ¬ i - p < k := by omega
      simp [h1, h2, h3]
  · simp [h1]
theorem maskN_succ (p k : Nat) : maskN p k ||| 2 ^ (p + k) = maskN p (k + 1) := by
  apply Nat.eq_of_testBit_eq
  intro i
  rw [Nat.testBit_or, maskN_bit, maskN_bit, Nat.testBit_two_pow]
  by_cases h1 : p ≤ i <;> by_cases h2 : i < p + k <;> by_cases h3 : p + k = i <;> simp [h1, h2, h3] <;> omega
theorem maskN_pos (p k : Nat) (hk : 1 ≤ k) : maskN p k ≠ 0 := by
  intro h
  have := maskN_bit p k p
  rw [h] at this
  simp at this
  omega

theorem get_ref (word p k : Nat) (hw : word < 18446744073709551616) (h : p + k ≤ 64) :
    bits .and .u64 (word : Int) (maskN p k : Int) / 2 ^ p = (getN word p k : Int) := by
  have hl : maskN p k < 18446744073709551616 := mul_low p k h
  rw [u64_and_nat _ _ hw hl]
  have e : (((word &&& maskN p k : Nat) : Int) / 2 ^ p) = (((word &&& maskN p k) / 2 ^ p : Nat) : Int) := by simp
  rw [e]
  congr 1
  apply Nat.eq_of_testBit_eq
  intro i
  rw [getN_bit, Nat.testBit_div_two_pow, Nat.testBit_and, maskN_bit]
  by_cases h1 : i < k
  · have h2 : i + p < p + k := by omega
    simp [h1, h2]
  · have h2 : ¬ i + p < p + k := by omega
    simp [h1, h2]

theorem put_ref (word p k x : Nat) (hw : word < 18446744073709551616) (h : p + k ≤ 64) :
    bits .or .u64 (bits .andNot .u64 (word : Int) (maskN p k : Int)) (bits .and .u64 (IntKind.u64.wrap ((x : Int) * 2 ^ p)) (maskN p k : Int)) = (putN word p k x : Int) := by
  have hl : maskN p k < 18446744073709551616 := mul_low p k h
  have ha : word &&& (18446744073709551615 - maskN p k) < 2 ^ 64 := Nat.and_lt_two_pow _ (by omega)
  have e : IntKind.u64.wrap ((x : Int) * 2 ^ p) = ((x * 2 ^ p % 2 ^ 64 : Nat) : Int) := by
    rw [IntKind.wrap_u64]; simp
  have h2 : x * 2 ^ p % 2 ^ 64 < 18446744073709551616 := Nat.mod_lt _ (by decide)
  have h3 : x * 2 ^ p % 2 ^ 64 &&& maskN p k < 2 ^ 64 := Nat.and_lt_two_pow _ hl
  rw [e, u64_andNot_nat _ _ hw hl, u64_and_nat _ _ h2 hl, u64_or_nat _ _ ha h3]
  congr 1
  apply Nat.eq_of_testBit_eq
  intro i
  rw [putN_bit, Nat.testBit_or, Nat.testBit_and, Nat.testBit_and, Nat.testBit_mod_two_pow, Nat.testBit_mul_two_pow, maskN_bit]
  by_cases hi : i < 64
  · rw [sub_bit _ _ hl hi, maskN_bit]
    by_cases h1 : p ≤ i <;> by_cases h4 : i < p + k <;> simp [h1, h4, hi]
  · have h4 : ¬ i < p + k := by omega
    simp [bit_out (lt64 hw) (by omega : 64 ≤ i), h4]

/-! rounding -/
theorem and_low_i64 (n : Int) (k : Nat) (hk : k ≤ 63) : bits .and .i64 n (2 ^ k - 1) = n % 2 ^ k := by
  have hp := Nat.two_pow_pos k
  have hle : 2 ^ k ≤ 2 ^ 63 := Nat.pow_le_pow_right (by decide) hk
  have e0 : ((2 : Int) ^ k - 1) = ((2 ^ k - 1 : Nat) : Int) := by rw [Int.natCast_sub hp]; simp
  show IntKind.i64.wrap ((BitVec.ofInt 64 n &&& BitVec.ofInt 64 (2 ^ k - 1)).toNat : Int) = _
  rw [BitVec.toNat_and, e0, ofInt_u64 _ (by omega), BitVec.toNat_ofInt, Nat.and_two_pow_sub_one_eq_mod]
  have e1 : (((n % ((2 ^ 64 : Nat) : Int)).toNat % 2 ^ k : Nat) : Int) = n % 2 ^ k := by
    have h0 : 0 ≤ n % ((2 ^ 64 : Nat) : Int) := Int.emod_nonneg _ (by decide)
    rw [Int.natCast_emod, Int.toNat_of_nonneg h0]
    have ek : ((2 ^ k : Nat) : Int) = (2 : Int) ^ k := by simp
    rw [ek]
    apply Int.emod_emod_of_dvd
    have : (2 ^ k : Nat) ∣ 2 ^ 64 := Nat.pow_dvd_pow 2 (by omega)
    rw [← ek]
    exact Int.natCast_dvd_natCast.2 this
  rw [e1]
  have hpi := pow_pos' k
  have h1 : 0 ≤ n % 2 ^ k := Int.emod_nonneg _ (by omega)
  have h2 : n % 2 ^ k < 2 ^ k := Int.emod_lt_of_pos _ hpi
  have h3 : (2 : Int) ^ k ≤ 2 ^ 63 := by
    have : ((2 ^ k : Nat) : Int) ≤ ((2 ^ 63 : Nat) : Int) := by exact_mod_cast hle
    simpa using this
  exact IntWalk.i64_in _ ⟨by omega, by omega⟩

def roundI (n b : Int) : Int :=
  if 1 ≤ b ∧ b ≤ 62 then
    if 2 ^ (b - 1).toNat < n % 2 ^ b.toNat ∨ n % 2 ^ b.toNat = 2 ^ (b - 1).toNat ∧ n / 2 ^ b.toNat % 2 = 1 then n / 2 ^ b.toNat + 1 else n / 2 ^ b.toNat
  else n

theorem pow_le63 (k j : Nat) (hk : k ≤ j) : (2 : Int) ^ k ≤ 2 ^ j := by
  have hle : 2 ^ k ≤ 2 ^ j := Nat.pow_le_pow_right (by decide) hk
  have : ((2 ^ k : Nat) : Int) ≤ ((2 ^ j : Nat) : Int) := by exact_mod_cast hle
  simpa using this
theorem pow_in (k : Nat) (hk : k ≤ 62) : wrap64 (2 ^ k) = 2 ^ k := by
  have h1 := pow_pos' k
  have h2 := pow_le63 k 62 hk
  exact IntWalk.wrap64_in _ ⟨by omega, by omega⟩
/-- '1<<k - 1', of a k up to 63 -/
theorem low_i64 (k : Nat) (hk : k ≤ 63) : wrap64 (wrap64 (2 ^ k) - 1) = 2 ^ k - 1 := by
  by_cases h : k = 63
  · subst h; unfold wrap64; decide
  · rw [pow_in k (by omega)]
    have h1 := pow_pos' k
    have h2 := pow_le63 k 62 (by omega)
    exact IntWalk.wrap64_in _ ⟨by omega, by omega⟩
theorem rest_i64 (n : Int) (k : Nat) (hk : k ≤ 63) : bits .and .i64 n (wrap64 (wrap64 (2 ^ k) - 1)) = n % 2 ^ k := by
  rw [low_i64 k hk, and_low_i64 n k hk]
theorem odd_i64 (n : Int) : bits .and .i64 n 1 = n % 2 := by
  have := and_low_i64 n 1 (by decide)
  simpa using this
theorem div_bd (n : Int) (k : Nat) (hk : 1 ≤ k) (h1 : -9223372036854775808 ≤ n) (h2 : n ≤ 9223372036854775807) : -4611686018427387904 ≤ n / 2 ^ k ∧ n / 2 ^ k ≤ 4611686018427387903 := by
  obtain ⟨j, rfl⟩ : ∃ j, k = j + 1 := ⟨k - 1, by omega⟩
  have hp := pow_pos' j
  have e : (2 : Int) ^ (j + 1) = 2 * 2 ^ j := by rw [Int.pow_succ]; omega
  rw [e, ← Int.ediv_ediv_of_nonneg (by omega)]
  have h3 : -4611686018427387904 ≤ n / 2 := by omega
  have h4 : n / 2 ≤ 4611686018427387903 := by omega
  generalize n / 2 = m at *
  constructor
  · apply Int.le_ediv_of_mul_le hp
    have := Int.mul_le_mul_of_nonneg_left (show (1 : Int) ≤ 2 ^ j by omega) (show (0 : Int) ≤ 4611686018427387904 by omega)
    omega
  · by_cases h0 : 0 ≤ m
    · exact Int.le_trans (Int.ediv_le_self _ h0) h4
    · have : m / 2 ^ j < 0 := Int.ediv_neg_of_neg_of_pos (by omega) hp
      omega

/-- the two ways that a rounded shift may go, in the code's own tests -/
theorem round_up (n b : Int) (h1 : 1 ≤ b) (h2 : b ≤ 62) (hn1 : -9223372036854775808 ≤ n) (hn2 : n ≤ 9223372036854775807)
    (h : 2 ^ (b.toNat - 1) < n % 2 ^ b.toNat ∨ n % 2 ^ b.toNat = 2 ^ (b.toNat - 1) ∧ n / 2 ^ b.toNat % 2 = 1) : wrap64 (n / 2 ^ b.toNat + 1) = roundI n b := by
  have e : (b - 1).toNat = b.toNat - 1 := by omega
  rw [roundI, if_pos ⟨h1, h2⟩, e, if_pos h]
  have := div_bd n b.toNat (by omega) hn1 hn2
  exact IntWalk.wrap64_in _ ⟨by omega, by omega⟩
theorem round_dn (n b : Int) (h1 : 1 ≤ b) (h2 : b ≤ 62)
    (h : ¬ (2 ^ (b.toNat - 1) < n % 2 ^ b.toNat ∨ n % 2 ^ b.toNat = 2 ^ (b.toNat - 1) ∧ n / 2 ^ b.toNat % 2 = 1)) : n / 2 ^ b.toNat = roundI n b := by
  have e : (b - 1).toNat = b.toNat - 1 := by omega
  rw [roundI, if_pos ⟨h1, h2⟩, e, if_neg h]

/-! the document's own answer, in its own tests -/
theorem half_pow (K : Nat) (h : 1 ≤ K) : (2 : Int) ^ K = 2 * 2 ^ (K - 1) := by
  obtain ⟨j, rfl⟩ : ∃ j, K = j + 1 := ⟨K - 1, by omega⟩
  rw [Int.pow_succ]; simp; omega
theorem cast_pow (K : Nat) : ((2 ^ K : Nat) : Int) = (2 : Int) ^ K := by simp
theorem wrapI_eq_iff (n k : Int) (h1 : 1 ≤ k) (h2 : k ≤ 63) : wrapI n k = n ↔ -(2 ^ (k.toNat - 1)) ≤ n ∧ n ≤ 2 ^ (k.toNat - 1) - 1 := by
  rw [wrapI, if_pos ⟨h1, by omega⟩, Int.bmod_eq_iff (Nat.two_pow_pos _), cast_pow, half_pow k.toNat (by omega)]
  have := pow_pos' (k.toNat - 1)
  simp only [Int.sub_self, Int.dvd_zero, and_true]
  constructor <;> intro h <;> omega
theorem neg_in (K : Nat) (hk : K ≤ 62) : wrap64 (-(2 ^ K)) = -(2 ^ K) := by
  have h1 := pow_pos' K
  have h2 := pow_le63 K 62 hk
  exact IntWalk.wrap64_in _ ⟨by omega, by omega⟩
theorem less_in (K : Nat) (hk : K ≤ 62) : wrap64 (2 ^ K - 1) = 2 ^ K - 1 := by
  have h1 := pow_pos' K
  have h2 := pow_le63 K 62 hk
  exact IntWalk.wrap64_in _ ⟨by omega, by omega⟩
theorem fits_yes (n k : Int) (h1 : 1 ≤ k) (h2 : k ≤ 63) (h : -(2 ^ (k.toNat - 1)) ≤ n) : decide (n ≤ 2 ^ (k.toNat - 1) - 1) = fitsB n k := by
  have := wrapI_eq_iff n k h1 h2
  rw [Bool.eq_iff_iff]
  simp only [fitsB, decide_eq_true_eq, Bool.and_eq_true, beq_iff_eq, this]
  omega
theorem fits_no (n k : Int) (h1 : 1 ≤ k) (h2 : k ≤ 63) (h : n < -(2 ^ (k.toNat - 1))) : false = fitsB n k := by
  have := wrapI_eq_iff n k h1 h2
  rw [Bool.eq_iff_iff]
  simp only [fitsB, decide_eq_true_eq, Bool.and_eq_true, beq_iff_eq, this]
  constructor
  · intro h; cases h
  · omega

theorem u_low (n : Int) (K : Nat) (hK : K ≤ 63) : bits .and .u64 (IntKind.u64.wrap n) (IntKind.u64.wrap (IntKind.u64.wrap (2 ^ K) - 1)) = n % 2 ^ K := by
  have h1 := pow_pos' K
  have h2 := pow_le63 K 63 hK
  have hp := Nat.two_pow_pos K
  rw [IntWalk.u64_in (2 ^ K) ⟨by omega, by omega⟩, IntWalk.u64_in (2 ^ K - 1) ⟨by omega, by omega⟩]
  have e : IntKind.u64.wrap n = ((n % 18446744073709551616).toNat : Int) := by
    rw [IntKind.wrap_u64]
    have := Int.emod_nonneg n (show (18446744073709551616 : Int) ≠ 0 by decide)
    omega
  have e0 : ((2 : Int) ^ K - 1) = ((2 ^ K - 1 : Nat) : Int) := by rw [Int.natCast_sub hp]; simp
  have hn : (n % 18446744073709551616).toNat < 18446744073709551616 := by
    have := Int.emod_lt_of_pos n (show (0 : Int) < 18446744073709551616 by decide)
    omega
  have hm : 2 ^ K - 1 < 18446744073709551616 := by
    have : 2 ^ K ≤ 2 ^ 63 := Nat.pow_le_pow_right (by decide) hK
    omega
  rw [e, e0, u64_and_nat _ _ hn hm, Nat.and_two_pow_sub_one_eq_mod, Int.natCast_emod, Int.toNat_of_nonneg (Int.emod_nonneg _ (by decide)), cast_pow]
  apply Int.emod_emod_of_dvd
  rw [← cast_pow]
  have : (2 ^ K : Nat) ∣ 2 ^ 64 := Nat.pow_dvd_pow 2 (by omega)
  exact Int.natCast_dvd_natCast.2 this

theorem u_rest (n : Int) (K : Nat) (h : 1 ≤ K) : n % 2 ^ K / 2 ^ (K - 1) = 1 ↔ 2 ^ (K - 1) ≤ n % 2 ^ K := by
  have h1 := pow_pos' (K - 1)
  have e := half_pow K h
  have b1 : 0 ≤ n % 2 ^ K := Int.emod_nonneg _ (by omega)
  have b2 : n % 2 ^ K < 2 ^ K := Int.emod_lt_of_pos _ (by omega)
  generalize n % 2 ^ K = r at *
  rw [e] at b2
  generalize (2 : Int) ^ (K - 1) = H at *
  constructor
  · intro hq
    have := Int.ediv_mul_le r (b := H) (by omega)
    rw [hq] at this; omega
  · intro hq
    apply Int.le_antisymm
    · have : r / H < 2 := Int.ediv_lt_of_lt_mul h1 (by omega)
      omega
    · exact Int.le_ediv_of_mul_le h1 (by omega)

theorem wrap_neg (n k : Int) (h1 : 1 ≤ k) (h2 : k ≤ 63) (h : n % 2 ^ k.toNat / 2 ^ (k.toNat - 1) = 1) :
    wrap64 (wrap64 (n % 2 ^ k.toNat) - wrap64 (2 ^ k.toNat)) = wrapI n k := by
  rw [u_rest n k.toNat (by omega)] at h
  have hp := pow_pos' (k.toNat - 1)
  have e := half_pow k.toNat (by omega)
  have hle := pow_le63 k.toNat 63 (by omega)
  have b2 : n % 2 ^ k.toNat < 2 ^ k.toNat := Int.emod_lt_of_pos _ (by omega)
  rw [wrapI, if_pos ⟨h1, by omega⟩, Int.bmod_def, cast_pow, if_neg (by omega)]
  generalize n % 2 ^ k.toNat = r at *
  generalize (2 : Int) ^ k.toNat = P at *
  unfold wrap64
  omega
theorem wrap_pos (n k : Int) (h1 : 1 ≤ k) (h2 : k ≤ 63) (h : ¬ n % 2 ^ k.toNat / 2 ^ (k.toNat - 1) = 1) :
    wrap64 (n % 2 ^ k.toNat) = wrapI n k := by
  rw [u_rest n k.toNat (by omega)] at h
  have hp := pow_pos' (k.toNat - 1)
  have e := half_pow k.toNat (by omega)
  have hle := pow_le63 k.toNat 63 (by omega)
  have b1 : 0 ≤ n % 2 ^ k.toNat := Int.emod_nonneg _ (by omega)
  rw [wrapI, if_pos ⟨h1, by omega⟩, Int.bmod_def, cast_pow, if_pos (by omega)]
  generalize n % 2 ^ k.toNat = r at *
  generalize (2 : Int) ^ k.toNat = P at *
  unfold wrap64
  omega

theorem rest_ref (n : Int) (K : Nat) (hK : K ≤ 62) : wrap64 (n - wrap64 (n / 2 ^ K * 2 ^ K)) = n % 2 ^ K := by
  have hp := pow_pos' K
  have hle := pow_le63 K 62 hK
  have b1 : 0 ≤ n % 2 ^ K := Int.emod_nonneg _ (by omega)
  have b2 : n % 2 ^ K < 2 ^ K := Int.emod_lt_of_pos _ hp
  have e := Int.mul_ediv_add_emod n (2 ^ K)
  rw [Int.mul_comm] at e
  generalize n / 2 ^ K * 2 ^ K = m at *
  generalize n % 2 ^ K = r at *
  unfold wrap64
  omega

end Go.Proofs.YtkkbeobocbgmeaaGreat.M
