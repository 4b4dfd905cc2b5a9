/- Plain mathematics of chapter 6, second part: the document's own way of packing; bits that are turned or set. No program is spoken of here. -/
import Derived.Test.YtnjfbmnecfiliaaMathN
namespace Go.Proofs.Ytnjfbmnecfiliaa.M
open Go.RowKit (wrap64)

theorem or_add (m q : Nat) (p : Nat) (h : m < 2 ^ p) (ht : m + q * 2 ^ p < 18446744073709551616) : bits .or .u64 (m : Int) ((q * 2 ^ p : Nat) : Int) = ((m + q * 2 ^ p : Nat) : Int) := by
  rw [u64_or_nat _ _ (by omega) (by omega)]
  congr 1
  have := Nat.two_pow_add_eq_or_of_lt h q
  rw [Nat.or_comm, Nat.mul_comm q, ← this]
  omega
theorem or_int (m q P : Int) (p : Nat) (hP : P = 2 ^ p) (h0 : 0 ≤ m) (h : m < P) (hq : 0 ≤ q) (ht : m + q * P < 18446744073709551616) : bits .or .u64 m (q * P) = m + q * P := by
  subst hP
  obtain ⟨M, rfl⟩ := Int.eq_ofNat_of_zero_le h0
  obtain ⟨Q, rfl⟩ := Int.eq_ofNat_of_zero_le hq
  have e : ((2 ^ p : Nat) : Int) = (2 : Int) ^ p := by simp
  have h2 : M < 2 ^ p := by omega
  have h3 : M + Q * 2 ^ p < 18446744073709551616 := by
    have : ((M + Q * 2 ^ p : Nat) : Int) = (M : Int) + Q * 2 ^ p := by simp
    omega
  have := or_add M Q p h2 h3
  simpa using this
theorem and_32 (n : Int) : bits .and .u64 (IntKind.u64.wrap n) 4294967295 = n % 4294967296 := by
  have h := u_low n 32 (by decide)
  have e : IntKind.u64.wrap (IntKind.u64.wrap (2 ^ 32) - 1) = 4294967295 := by decide +kernel
  rw [e] at h
  simpa using h
theorem ref_leaf (v : Int) : bits .or .u64 9223372036854775808 (bits .and .u64 (IntKind.u64.wrap v) 4294967295) = 9223372036854775808 + v % 4294967296 := by
  rw [and_32]
  have h0 : 0 ≤ v % 4294967296 := by omega
  have h1 : v % 4294967296 < 4294967296 := by omega
  generalize v % 4294967296 = m at h0 h1
  obtain ⟨M, rfl⟩ := Int.eq_ofNat_of_zero_le h0
  have h2 : M < 2 ^ 63 := by omega
  have := Nat.two_pow_add_eq_or_of_lt h2 1
  have e := u64_or_nat 9223372036854775808 M (by decide) (by omega)
  have e2 : (9223372036854775808 ||| M : Nat) = 9223372036854775808 + M := by
    rw [show (9223372036854775808 : Nat) = 2 ^ 63 * 1 from by decide, ← this]
  rw [e2] at e
  simpa using e
theorem shl_32 (f : Int) (h0 : 0 ≤ f) (h : f ≤ 255) : IntKind.u64.wrap (IntKind.u64.wrap f * 4294967296) = f * 4294967296 := by
  rw [u64_same h0 (by omega), u64_same (by omega) (by omega)]
theorem shl_40 (f : Int) (h0 : 0 ≤ f) (h : f ≤ 255) : IntKind.u64.wrap (IntKind.u64.wrap f * 1099511627776) = f * 1099511627776 := by
  rw [u64_same h0 (by omega), u64_same (by omega) (by omega)]
theorem shl_48 (f : Int) (h0 : 0 ≤ f) (h : f ≤ 255) : IntKind.u64.wrap (IntKind.u64.wrap f * 281474976710656) = f * 281474976710656 := by
  rw [u64_same h0 (by omega), u64_same (by omega) (by omega)]
theorem ref_other (f a l r : Int) (f0 : 0 ≤ f) (f1 : f ≤ 3) (l0 : 1 ≤ l) (l1 : l ≤ 30) (r0 : 1 ≤ r) (r1 : r ≤ 30) :
    bits .or .u64 (bits .or .u64 (bits .or .u64 (bits .and .u64 (IntKind.u64.wrap a) 4294967295) (IntKind.u64.wrap (IntKind.u64.wrap f * 4294967296))) (IntKind.u64.wrap (IntKind.u64.wrap l * 1099511627776))) (IntKind.u64.wrap (IntKind.u64.wrap r * 281474976710656)) =
      a % 4294967296 + f * 4294967296 + l * 1099511627776 + r * 281474976710656 := by
  rw [and_32, shl_32 f f0 (by omega), shl_40 l (by omega) (by omega), shl_48 r (by omega) (by omega)]
  have h0 : 0 ≤ a % 4294967296 := by omega
  have h1 : a % 4294967296 < 4294967296 := by omega
  generalize a % 4294967296 = m at h0 h1
  rw [or_int m f 4294967296 32 (by decide) h0 h1 f0 (by omega), or_int _ l 1099511627776 40 (by decide) (by omega) (by omega) (by omega) (by omega), or_int _ r 281474976710656 48 (by decide) (by omega) (by omega) (by omega) (by omega)]

/-! bits that are turned, or set -/
theorem xor_u64 (x : Int) (k : Nat) (h0 : 0 ≤ x) (h : x ≤ 18446744073709551615) (hk : k ≤ 63) : bits .xor .u64 x (2 ^ k) = ((x.toNat ^^^ 2 ^ k : Nat) : Int) := by
  obtain ⟨X, rfl⟩ := Int.eq_ofNat_of_zero_le h0
  have hp : 2 ^ k < 18446744073709551616 := Nat.lt_of_le_of_lt (Nat.pow_le_pow_right (by decide) hk) (by decide)
  rw [← cast_pow, u64_xor_nat X _ (by omega) hp]
  simp
theorem or_u64 (x : Int) (k : Nat) (h0 : 0 ≤ x) (h : x ≤ 18446744073709551615) (hk : k ≤ 63) : bits .or .u64 x (2 ^ k) = ((x.toNat ||| 2 ^ k : Nat) : Int) := by
  obtain ⟨X, rfl⟩ := Int.eq_ofNat_of_zero_le h0
  have hp : 2 ^ k < 18446744073709551616 := Nat.lt_of_le_of_lt (Nat.pow_le_pow_right (by decide) hk) (by decide)
  rw [← cast_pow, u64_or_nat X _ (by omega) hp]
  simp
theorem turned_bd (x k : Nat) (h : x < 18446744073709551616) (hk : k ≤ 63) : x ^^^ 2 ^ k < 18446744073709551616 := by
  have hp : 2 ^ k < 2 ^ 64 := Nat.pow_lt_pow_right (by decide) (by omega)
  exact Nat.xor_lt_two_pow (n := 64) h hp
theorem set_bd (x k : Nat) (h : x < 18446744073709551616) (hk : k ≤ 63) : x ||| 2 ^ k < 18446744073709551616 := by
  have hp : 2 ^ k < 2 ^ 64 := Nat.pow_lt_pow_right (by decide) (by omega)
  exact Nat.or_lt_two_pow (n := 64) h hp
theorem turned_ne (x k : Nat) : x ^^^ 2 ^ k ≠ x := by
  intro h
  have := congrArg (fun y => Nat.testBit y k) h
  simp [Nat.testBit_xor] at this
/-- a word in which a bit stands that no right node's word has is none -/
theorem un_bit (x : Nat) (p k i : Nat) (hp : p ≤ i) (hk : i < p + k) (hb : x.testBit i = true) (hz : ∀ n : Nd, n.Right → n.word = (x : Int) → getN x p k = 0) : unB (x : Int) = false := by
  cases h : unB (x : Int)
  · rfl
  · obtain ⟨h1, h2⟩ := un_of h
    rw [Nd.pack_of h1] at h2
    have := hz _ (Nd.right_iff.1 h1) h2
    have hg := getN_bit x p k (i - p)
    rw [this] at hg
    have e : i - p + p = i := by omega
    have e2 : i - p < k := by omega
    rw [e, hb] at hg
    simp [e2] at hg
theorem free_36 (n : Nd) (h : n.Right) (x : Nat) (hx : n.word = (x : Int)) : getN x 36 4 = 0 := by
  obtain ⟨leaf, v, f, a, l, r⟩ := n
  simp only [getN]
  cases leaf <;> simp [Nd.Right, Nd.word] at h hx <;> omega
theorem free_56 (n : Nd) (h : n.Right) (x : Nat) (hx : n.word = (x : Int)) : getN x 56 7 = 0 := by
  obtain ⟨leaf, v, f, a, l, r⟩ := n
  simp only [getN]
  cases leaf <;> simp [Nd.Right, Nd.word] at h hx <;> omega
theorem free_leaf (n : Nd) (h : n.Right) (x : Nat) (hx : n.word = (x : Int)) (hl : 9223372036854775808 ≤ x) : getN x 32 31 = 0 := by
  obtain ⟨leaf, v, f, a, l, r⟩ := n
  simp only [getN]
  cases leaf <;> simp [Nd.Right, Nd.word] at h hx <;> omega
theorem set_bit (x k : Nat) : (x ||| 2 ^ k).testBit k = true := by simp [Nat.testBit_or]
theorem set_36 (x k : Nat) (h1 : 36 ≤ k) (h2 : k ≤ 39) : unB ((x ||| 2 ^ k : Nat) : Int) = false :=
  un_bit _ 36 4 k h1 (by omega) (set_bit x k) fun n hn hw => free_36 n hn _ hw
theorem set_56 (x k : Nat) (h1 : 56 ≤ k) (h2 : k ≤ 62) : unB ((x ||| 2 ^ k : Nat) : Int) = false :=
  un_bit _ 56 7 k h1 (by omega) (set_bit x k) fun n hn hw => free_56 n hn _ hw
theorem set_leaf (x k : Nat) (hx : 9223372036854775808 ≤ x) (h1 : 32 ≤ k) (h2 : k ≤ 62) : unB ((x ||| 2 ^ k : Nat) : Int) = false :=
  un_bit _ 32 31 k h1 (by omega) (set_bit x k) fun n hn hw => free_leaf n hn _ hw (Nat.le_trans hx Nat.left_le_or)
/-- P6.4: a bit that is turned is another node, or none -/
theorem turned_other {n : Nd} {x : Nat} {k : Nat} (hp : n.pack = (x : Int)) (hu : unB ((x ^^^ 2 ^ k : Nat) : Int) = true) : ¬ unI ((x ^^^ 2 ^ k : Nat) : Int) = n := by
  intro h
  have h2 := (un_of hu).2
  rw [h, hp] at h2
  exact turned_ne x k (by omega)

end Go.Proofs.Ytnjfbmnecfiliaa.M
