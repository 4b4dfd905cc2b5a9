/- Plain mathematics of chapter 2 (sums that tell, shifts): no program is spoken of here, so this text has no conditions on one. -/
import Derived.WalkKit
import Derived.Test.YtkkbeobocbgmeaaGreatMath
namespace Go.Proofs.YtkkbeobocbgmeaaGreat.M
open Go.RowKit (wrap64)

/-! is it an int? what is told -/
def okB (n : Int) : Bool := decide (-9223372036854775808 ≤ n ∧ n ≤ 9223372036854775807)
def valI (n : Int) : Int := if -9223372036854775808 ≤ n ∧ n ≤ 9223372036854775807 then n else 0

theorem ok_yes {n : Int} (h1 : -9223372036854775808 ≤ n) (h2 : n ≤ 9223372036854775807) : okB n = true := by simp [okB, h1, h2]
theorem ok_no {n : Int} (h : n < -9223372036854775808 ∨ 9223372036854775807 < n) : okB n = false := by simp [okB]; omega
theorem ok_of {n : Int} (h : okB n = true) : -9223372036854775808 ≤ n ∧ n ≤ 9223372036854775807 := by simpa [okB] using h
theorem no_of {n : Int} (h : okB n = false) : n < -9223372036854775808 ∨ 9223372036854775807 < n := by
  simp [okB] at h; omega
theorem val_yes {n : Int} (h1 : -9223372036854775808 ≤ n) (h2 : n ≤ 9223372036854775807) : valI n = n := by simp [valI, h1, h2]
theorem val_no {n : Int} (h : n < -9223372036854775808 ∨ 9223372036854775807 < n) : valI n = 0 := by
  unfold valI; rw [if_neg (by omega)]
theorem val_bd (n : Int) : -9223372036854775808 ≤ valI n ∧ valI n ≤ 9223372036854775807 := by
  unfold valI; split <;> omega

/-! signs of bit operations -/
theorem i64_wrap_toInt (v : BitVec 64) : IntKind.i64.wrap (v.toNat : Int) = v.toInt := by
  have h := wrap64_bmod (v.toNat : Int)
  unfold wrap64 at h
  rw [IntKind.wrap_i64, h, BitVec.toInt_eq_toNat_bmod]
theorem toInt_in (x : Int) (h1 : -9223372036854775808 ≤ x) (h2 : x ≤ 9223372036854775807) : (BitVec.ofInt 64 x).toInt = x := by
  rw [BitVec.toInt_ofInt, ← wrap64_bmod]
  unfold wrap64
  omega
theorem msb_in (x : Int) (h1 : -9223372036854775808 ≤ x) (h2 : x ≤ 9223372036854775807) : (BitVec.ofInt 64 x).msb = decide (x < 0) := by
  rw [BitVec.msb_eq_toInt, toInt_in x h1 h2]
theorem toInt_bd (v : BitVec 64) : -9223372036854775808 ≤ v.toInt ∧ v.toInt ≤ 9223372036854775807 := by
  have h1 := BitVec.le_toInt v
  have h2 := BitVec.toInt_lt (x := v)
  omega
theorem xor_i64 (x y : Int) : bits .xor .i64 x y = (BitVec.ofInt 64 x ^^^ BitVec.ofInt 64 y).toInt := by
  rw [← i64_wrap_toInt]; rfl
theorem and_i64 (x y : Int) : bits .and .i64 x y = (BitVec.ofInt 64 x &&& BitVec.ofInt 64 y).toInt := by
  rw [← i64_wrap_toInt]; rfl
theorem xor_neg (x y : Int) (h1 : -9223372036854775808 ≤ x) (h2 : x ≤ 9223372036854775807) (h3 : -9223372036854775808 ≤ y) (h4 : y ≤ 9223372036854775807) :
    decide (bits .xor .i64 x y < 0) = (decide (x < 0) ^^ decide (y < 0)) := by
  rw [xor_i64, ← BitVec.msb_eq_toInt, BitVec.msb_xor, msb_in x h1 h2, msb_in y h3 h4]
theorem xor_bd (x y : Int) : -9223372036854775808 ≤ bits .xor .i64 x y ∧ bits .xor .i64 x y ≤ 9223372036854775807 := by
  rw [xor_i64]; exact toInt_bd _
theorem and_neg (x y : Int) (h1 : -9223372036854775808 ≤ x) (h2 : x ≤ 9223372036854775807) (h3 : -9223372036854775808 ≤ y) (h4 : y ≤ 9223372036854775807) :
    decide (bits .and .i64 x y < 0) = (decide (x < 0) && decide (y < 0)) := by
  rw [and_i64, ← BitVec.msb_eq_toInt, BitVec.msb_and, msb_in x h1 h2, msb_in y h3 h4]

/-- (a^s)&(b^s) < 0, told by signs -/
theorem two_signs (a b s t : Int) (ha1 : -9223372036854775808 ≤ a) (ha2 : a ≤ 9223372036854775807) (hb1 : -9223372036854775808 ≤ b) (hb2 : b ≤ 9223372036854775807)
    (hs1 : -9223372036854775808 ≤ s) (hs2 : s ≤ 9223372036854775807) (ht1 : -9223372036854775808 ≤ t) (ht2 : t ≤ 9223372036854775807) :
    bits .and .i64 (bits .xor .i64 a s) (bits .xor .i64 b t) < 0 ↔ ((a < 0 ↔ 0 ≤ s) ∧ (b < 0 ↔ 0 ≤ t)) := by
  have h := and_neg (bits .xor .i64 a s) (bits .xor .i64 b t) (xor_bd _ _).1 (xor_bd _ _).2 (xor_bd _ _).1 (xor_bd _ _).2
  rw [xor_neg a s ha1 ha2 hs1 hs2, xor_neg b t hb1 hb2 ht1 ht2] at h
  have h' : bits .and .i64 (bits .xor .i64 a s) (bits .xor .i64 b t) < 0 ↔ ((decide (a < 0) ^^ decide (s < 0)) && (decide (b < 0) ^^ decide (t < 0))) = true := by
    rw [← h]; simp
  rw [h']
  by_cases p1 : a < 0 <;> by_cases p2 : s < 0 <;> by_cases p3 : b < 0 <;> by_cases p4 : t < 0 <;> simp [p1, p2, p3, p4] <;> omega

theorem wrap_bd (n : Int) : -9223372036854775808 ≤ wrap64 n ∧ wrap64 n ≤ 9223372036854775807 := by unfold wrap64; omega

theorem add_told (a b : Int) (ha1 : -9223372036854775808 ≤ a) (ha2 : a ≤ 9223372036854775807) (hb1 : -9223372036854775808 ≤ b) (hb2 : b ≤ 9223372036854775807) :
    bits .and .i64 (bits .xor .i64 a (wrap64 (a + b))) (bits .xor .i64 b (wrap64 (a + b))) < 0 ↔ okB (a + b) = false := by
  rw [two_signs a b _ _ ha1 ha2 hb1 hb2 (wrap_bd _).1 (wrap_bd _).2 (wrap_bd _).1 (wrap_bd _).2]
  simp only [okB, decide_eq_false_iff_not]
  unfold wrap64
  omega

theorem sub_told (a b : Int) (ha1 : -9223372036854775808 ≤ a) (ha2 : a ≤ 9223372036854775807) (hb1 : -9223372036854775808 ≤ b) (hb2 : b ≤ 9223372036854775807) :
    bits .and .i64 (bits .xor .i64 a b) (bits .xor .i64 a (wrap64 (a - b))) < 0 ↔ okB (a - b) = false := by
  rw [two_signs a a _ _ ha1 ha2 ha1 ha2 hb1 hb2 (wrap_bd _).1 (wrap_bd _).2]
  simp only [okB, decide_eq_false_iff_not]
  unfold wrap64
  omega

theorem wrap_in (n : Int) (h1 : -9223372036854775808 ≤ n) (h2 : n ≤ 9223372036854775807) : wrap64 n = n := by unfold wrap64; omega

/-! sums of two words -/
theorem sum_low (S n : Int) :
    (S % 18446744073709551616 + n % 18446744073709551616) % 18446744073709551616 = (S + n) % 18446744073709551616 := by omega
theorem sum_high (S n : Int) (h1 : -9223372036854775808 ≤ n) (h2 : n ≤ 9223372036854775807) :
    (S / 18446744073709551616 % 18446744073709551616 + n / 9223372036854775808 % 18446744073709551616 + (S % 18446744073709551616 + n % 18446744073709551616) / 18446744073709551616) % 18446744073709551616
      = (S + n) / 18446744073709551616 % 18446744073709551616 := by
  by_cases h : n < 0
  · have e1 : n / 9223372036854775808 = -1 := by omega
    have e2 : n % 18446744073709551616 = n + 18446744073709551616 := by omega
    have e3 : (S + n) / 18446744073709551616 = S / 18446744073709551616 + (S % 18446744073709551616 + (n + 18446744073709551616)) / 18446744073709551616 - 1 := by omega
    rw [e1, e2, e3]
    generalize (S % 18446744073709551616 + (n + 18446744073709551616)) / 18446744073709551616 = h
    generalize S / 18446744073709551616 = D
    omega
  · have e1 : n / 9223372036854775808 = 0 := by omega
    have e2 : n % 18446744073709551616 = n := by omega
    have e3 : (S + n) / 18446744073709551616 = S / 18446744073709551616 + (S % 18446744073709551616 + n) / 18446744073709551616 := by omega
    rw [e1, e2, e3]
    generalize (S % 18446744073709551616 + n) / 18446744073709551616 = h
    generalize S / 18446744073709551616 = D
    omega
theorem sum_ends (S : Int) (h1 : -85070591730234615865843651857942052864 ≤ S) (h2 : S ≤ 85070591730234615865843651857942052864) :
    S / 18446744073709551616 % 18446744073709551616 = wrap64 (S % 18446744073709551616) / 9223372036854775808 % 18446744073709551616 ↔ okB S = true := by
  simp only [okB, decide_eq_true_eq]
  have d1 : -4611686018427387904 ≤ S / 18446744073709551616 := by omega
  have d2 : S / 18446744073709551616 ≤ 4611686018427387904 := by omega
  have r1 : 0 ≤ S % 18446744073709551616 := by omega
  have r2 : S % 18446744073709551616 < 18446744073709551616 := by omega
  have e : S = S / 18446744073709551616 * 18446744073709551616 + S % 18446744073709551616 := by omega
  generalize S / 18446744073709551616 = D at *
  generalize S % 18446744073709551616 = r at *
  by_cases h : r < 9223372036854775808
  · have e1 : wrap64 r = r := by unfold wrap64; omega
    have e2 : r / 9223372036854775808 = 0 := by omega
    rw [e1, e2]
    omega
  · have e1 : wrap64 r = r - 18446744073709551616 := by unfold wrap64; omega
    have e2 : (r - 18446744073709551616) / 9223372036854775808 = -1 := by omega
    rw [e1, e2]
    omega
theorem sum_val (S : Int) (h : okB S = true) : wrap64 (S % 18446744073709551616) = S := by
  have := ok_of h
  unfold wrap64
  omega

theorem or_low (x y : Int) (h1 : -2147483648 ≤ x) (h2 : x ≤ 2147483647) (h3 : 0 ≤ y) (h4 : y < 4294967296) : bits .or .i64 (x * 4294967296) y = x * 4294967296 + y := by
  obtain ⟨Y, rfl⟩ := Int.eq_ofNat_of_zero_le h3
  show IntKind.i64.wrap ((BitVec.ofInt 64 (x * 4294967296) ||| BitVec.ofInt 64 (Y : Int)).toNat : Int) = _
  rw [BitVec.toNat_or, BitVec.toNat_ofInt, BitVec.toNat_ofInt]
  have e1 : (x * 4294967296 % ((2 ^ 64 : Nat) : Int)).toNat = ((x % 4294967296).toNat) <<< 32 := by
    rw [Nat.shiftLeft_eq]
    have : ((2 ^ 64 : Nat) : Int) = 18446744073709551616 := by decide
    rw [this]; omega
  have e2 : ((Y : Int) % ((2 ^ 64 : Nat) : Int)).toNat = Y := by
    have : ((2 ^ 64 : Nat) : Int) = 18446744073709551616 := by decide
    rw [this]; omega
  rw [e1, e2, ← Nat.shiftLeft_add_eq_or_of_lt (by omega : Y < 2 ^ 32), Nat.shiftLeft_eq, IntKind.wrap_i64]
  omega

theorem and_low32 (n : Int) : bits .and .i64 n 4294967295 = n % 4294967296 := by
  have := and_low_i64 n 32 (by decide)
  simpa using this

theorem half_told (hi lo S : Int) (hs : hi * 4294967296 + lo = S) : (hi + lo / 4294967296 < -2147483648 ∨ 2147483647 < hi + lo / 4294967296) ↔ okB S = false := by
  simp only [okB, decide_eq_false_iff_not]
  omega

/-! shifts -/
def shOk (n by' : Int) : Bool := if by' < 0 then true else okB (n * 2 ^ by'.toNat)
def shV (n by' : Int) : Int := if by' < 0 then n / 2 ^ (min (-by') 63).toNat else valI (n * 2 ^ by'.toNat)

theorem big_zero (n : Int) (K : Nat) (hK : 64 ≤ K) : wrap64 (n * 2 ^ K) = 0 := by
  obtain ⟨j, rfl⟩ : ∃ j, K = 64 + j := ⟨K - 64, by omega⟩
  rw [Int.pow_add]
  have e : n * ((2 : Int) ^ 64 * 2 ^ j) = 18446744073709551616 * (n * 2 ^ j) := by
    have : (2 : Int) ^ 64 = 18446744073709551616 := by decide
    rw [this, ← Int.mul_assoc, Int.mul_comm n, Int.mul_assoc]
  rw [e]
  generalize n * 2 ^ j = m
  unfold wrap64
  omega

theorem mul_ok (n : Int) (g : Nat) (hg : g ≤ 63) : okB (n * 2 ^ g) = true ↔ -(2 ^ (63 - g)) ≤ n ∧ n ≤ 2 ^ (63 - g) - 1 := by
  simp only [okB, decide_eq_true_eq]
  have hp := pow_pos' g
  have hq := pow_pos' (63 - g)
  have e : (2 : Int) ^ (63 - g) * 2 ^ g = 9223372036854775808 := by
    rw [← Int.pow_add, show 63 - g + g = 63 by omega]; decide
  generalize (2 : Int) ^ g = G at *
  generalize (2 : Int) ^ (63 - g) = H at *
  constructor
  · rintro ⟨h1, h2⟩
    constructor
    · apply Int.le_of_mul_le_mul_right (a := G) _ hp
      rw [Int.neg_mul, e]; omega
    · have h3 : n * G < H * G := by rw [e]; omega
      have := Int.lt_of_mul_lt_mul_right h3 (by omega)
      omega
  · rintro ⟨h1, h2⟩
    have m1 := Int.mul_le_mul_of_nonneg_right h1 (show 0 ≤ G by omega)
    have m2 := Int.mul_le_mul_of_nonneg_right h2 (show 0 ≤ G by omega)
    rw [Int.neg_mul, e] at m1
    rw [Int.sub_mul, e] at m2
    omega

theorem sh_told (n : Int) (K : Nat) (h1 : -9223372036854775808 ≤ n) (h2 : n ≤ 9223372036854775807) : wrap64 (n * 2 ^ K) / 2 ^ K = n ↔ okB (n * 2 ^ K) = true := by
  by_cases hK : 64 ≤ K
  · rw [big_zero n K hK, Int.zero_ediv]
    constructor
    · intro h; rw [← h]; simp [okB]
    · intro h
      have h := ok_of h
      obtain ⟨j, rfl⟩ : ∃ j, K = 64 + j := ⟨K - 64, by omega⟩
      rw [Int.pow_add] at h
      have e : n * ((2 : Int) ^ 64 * 2 ^ j) = 18446744073709551616 * (n * 2 ^ j) := by
        have : (2 : Int) ^ 64 = 18446744073709551616 := by decide
        rw [this, ← Int.mul_assoc, Int.mul_comm n, Int.mul_assoc]
      rw [e] at h
      have hz : n * 2 ^ j = 0 := by omega
      rcases Int.mul_eq_zero.1 hz with hz | hz
      · exact hz.symm
      · have := pow_pos' j; omega
  · by_cases h0 : K = 0
    · subst h0
      have e1 : wrap64 n = n := wrap_in n h1 h2
      simp [e1, ok_yes h1 h2]
    · have e := wrapI_eq_iff n (64 - K : Nat) (by omega) (by omega)
      rw [shl_shr n (64 - K) K (by omega) (by omega), mul_ok n K (by omega)]
      rw [wrapI, if_pos (by omega)] at e
      simp only [Int.toNat_natCast] at e
      rw [show 64 - K - 1 = 63 - K by omega] at e
      exact e
theorem ok_less (n : Int) (i : Nat) (h : okB (n * 2 ^ (i + 1)) = true) : okB (n * 2 ^ i) = true := by
  have e : n * 2 ^ (i + 1) = n * 2 ^ i * 2 := by rw [Int.pow_succ, Int.mul_assoc]
  rw [e] at h
  have := ok_of h
  exact ok_yes (by omega) (by omega)
theorem ok_least (n : Int) (i k : Nat) (hik : i ≤ k) (h : okB (n * 2 ^ k) = true) : okB (n * 2 ^ i) = true := by
  obtain ⟨d, rfl⟩ : ∃ d, k = i + d := ⟨k - i, by omega⟩
  clear hik
  induction d with
  | zero => exact h
  | succ d ih => exact ih (ok_less n (i + d) h)
theorem div_far (n : Int) (k : Nat) (hk : 63 ≤ k) (h1 : -9223372036854775808 ≤ n) (h2 : n ≤ 9223372036854775807) : n / 2 ^ k = n / 9223372036854775808 := by
  obtain ⟨d, rfl⟩ : ∃ d, k = 63 + d := ⟨k - 63, by omega⟩
  have e : n / (2 : Int) ^ (63 + d) = n / 9223372036854775808 / 2 ^ d := by
    rw [Int.pow_add, show (2 : Int) ^ 63 = 9223372036854775808 by decide, Int.ediv_ediv_of_nonneg (by decide)]
  rw [e]
  have hp := pow_pos' d
  have : n / 9223372036854775808 = 0 ∨ n / 9223372036854775808 = -1 := by omega
  rcases this with h | h
  · rw [h]; simp
  · rw [h]; exact ((Int.ediv_emod_unique (r := 2 ^ d - 1) hp).2 ⟨by omega, by omega, by omega⟩).1

theorem far_zero (n : Int) (K : Nat) (hK : 64 ≤ K) (h1 : -9223372036854775808 ≤ n) (h2 : n ≤ 9223372036854775807) : okB (n * 2 ^ K) = true ↔ n = 0 := by
  rw [← sh_told n K h1 h2, big_zero n K hK, Int.zero_ediv]
  exact eq_comm
theorem cap_ok (n : Int) (K : Nat) (h1 : -9223372036854775808 ≤ n) (h2 : n ≤ 9223372036854775807) : okB (n * 2 ^ min K 64) = okB (n * 2 ^ K) := by
  by_cases hK : K ≤ 64
  · rw [Nat.min_eq_left hK]
  · rw [Nat.min_eq_right (by omega), Bool.eq_iff_iff, far_zero n 64 (by omega) h1 h2, far_zero n K (by omega) h1 h2]
theorem cap_val (n : Int) (K : Nat) (h1 : -9223372036854775808 ≤ n) (h2 : n ≤ 9223372036854775807) : valI (n * 2 ^ min K 64) = valI (n * 2 ^ K) := by
  by_cases hK : K ≤ 64
  · rw [Nat.min_eq_left hK]
  · by_cases h0 : n = 0
    · subst h0; simp
    · have e1 := (not_congr (far_zero n 64 (by omega) h1 h2)).2 h0
      have e2 := (not_congr (far_zero n K (by omega) h1 h2)).2 h0
      rw [Nat.min_eq_right (by omega), val_no (no_of (by simpa using e1)), val_no (no_of (by simpa using e2))]

theorem sh_up (n : Int) (K : Nat) : shV n (K : Int) = valI (n * 2 ^ K) ∧ shOk n (K : Int) = okB (n * 2 ^ K) := by
  rw [shV, shOk, if_neg (by omega), if_neg (by omega)]
  rw [Int.toNat_natCast]
  exact ⟨rfl, rfl⟩
theorem sh_dn (n : Int) (K : Nat) (h1 : -9223372036854775808 ≤ n) (h2 : n ≤ 9223372036854775807) : shV n (-(K : Int)) = n / 2 ^ K ∧ shOk n (-(K : Int)) = true := by
  by_cases h0 : K = 0
  · subst h0
    have := sh_up n 0
    simp only [Int.pow_zero, Int.mul_one] at this
    rw [val_yes h1 h2, ok_yes h1 h2] at this
    simpa using this
  · rw [shV, shOk, if_pos (by omega), if_pos (by omega)]
    refine ⟨?_, rfl⟩
    by_cases hK : K ≤ 63
    · have e : (min (-(-(K : Int))) 63).toNat = K := by omega
      rw [e]
    · have e : (min (-(-(K : Int))) 63).toNat = 63 := by omega
      rw [e, div_far n K (by omega) h1 h2]
      rfl
theorem sh_back (n : Int) (K : Nat) (h : okB (n * 2 ^ K) = true) :
    shV (valI (n * 2 ^ K)) (-(K : Int)) = n ∧ shOk (valI (n * 2 ^ K)) (-(K : Int)) = true := by
  obtain ⟨b1, b2⟩ := ok_of h
  rw [val_yes b1 b2]
  obtain ⟨e1, e2⟩ := sh_dn (n * 2 ^ K) K b1 b2
  refine ⟨?_, e2⟩
  rw [e1]
  have := pow_pos' K
  exact Int.mul_ediv_cancel _ (by omega)
theorem sh_far (n : Int) (b : Int) (hb : b ≤ -63) : shV n b = n / 4611686018427387904 / 2 ∧ shOk n b = true := by
  rw [shV, shOk, if_pos (by omega), if_pos (by omega)]
  refine ⟨?_, rfl⟩
  have e : (min (-b) 63).toNat = 63 := by omega
  rw [e, Int.ediv_ediv_of_nonneg (by decide)]
  rfl
theorem sh_great (n : Int) (b : Int) (hb : 64 ≤ b) (h1 : -9223372036854775808 ≤ n) (h2 : n ≤ 9223372036854775807) : shOk n b = (n == 0) := by
  rw [shOk, if_neg (by omega), Bool.eq_iff_iff, far_zero n _ (by omega) h1 h2]
  simp
theorem half_step (n : Int) (j : Nat) : n / 2 ^ j / 2 = n / 2 ^ (j + 1) := by
  have := pow_pos' j
  rw [Int.ediv_ediv_of_nonneg (by omega), Int.pow_succ]
theorem twice_step (n : Int) (j : Nat) (h : okB (n * 2 ^ j) = true) : valI (n * 2 ^ j) + valI (n * 2 ^ j) = n * 2 ^ (j + 1) := by
  obtain ⟨b1, b2⟩ := ok_of h
  rw [val_yes b1 b2, Int.pow_succ, ← Int.mul_assoc]
  omega
theorem told_least (n : Int) (j K : Nat) (hj : j ≤ K) (h : okB (n * 2 ^ j) = false) : okB (n * 2 ^ K) = false := by
  cases hk : okB (n * 2 ^ K) with
  | false => rfl
  | true => rw [ok_least n j K hj hk] at h; exact h

end Go.Proofs.YtkkbeobocbgmeaaGreat.M
