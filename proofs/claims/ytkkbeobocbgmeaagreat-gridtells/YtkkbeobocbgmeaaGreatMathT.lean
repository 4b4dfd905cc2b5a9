/- Plain mathematics of chapter 6: a node in one word, and back. No program is spoken of here.
   Plain mathematics of chapter 6, second part: the document's own way of packing; bits that are turned or set. No program is spoken of here.
   Plain mathematics of chapter 7: rows of words as trees; ways through them. No program is spoken of here.
   Plain mathematics of chapter 8: biases, sums. No program is spoken of here.
   Plain mathematics of the numbers of which a tree is made (copsekeep.Tree): a leaf is parted, and parted. -/
import Derived.Test.YtkkbeobocbgmeaaGreatMath
namespace Go.Proofs.YtkkbeobocbgmeaaGreat.M
open Go.RowKit (wrap64)

structure Nd where
  leaf : Bool
  v : Int
  f : Int
  a : Int
  l : Int
  r : Int
deriving DecidableEq

abbrev Nd.nil : Nd := ⟨false, 0, 0, 0, 0, 0⟩
def Nd.eqB (n m : Nd) : Bool := (n.leaf == m.leaf) && (n.v == m.v) && (n.f == m.f) && (n.a == m.a) && (n.l == m.l) && (n.r == m.r)
theorem Nd.eqB_iff {n m : Nd} : n.eqB m = true ↔ n = m := by
  cases n; cases m; simp [Nd.eqB, and_assoc]
theorem Nd.eqB_self (n : Nd) : n.eqB n = true := Nd.eqB_iff.2 rfl
theorem Nd.eqB_no {n m : Nd} (h : ¬ n = m) : n.eqB m = false := by
  cases e : n.eqB m
  · rfl
  · exact absurd (Nd.eqB_iff.1 e) h

def fit32 (n : Int) : Bool := decide (-2147483648 ≤ n ∧ n ≤ 2147483647)
theorem fits32 (n : Int) : fitsB n 32 = fit32 n := by
  have := wrapI_eq_iff n 32 (by decide) (by decide)
  have e : (2 : Int) ^ ((32 : Int).toNat - 1) = 2147483648 := by decide
  rw [e] at this
  rw [Bool.eq_iff_iff]
  simp only [fitsB, fit32, decide_eq_true_eq, Bool.and_eq_true, beq_iff_eq, this]
  omega
theorem fit32_yes {n : Int} (h1 : -2147483648 ≤ n) (h2 : n ≤ 2147483647) : fit32 n = true := by simp [fit32, h1, h2]
theorem fit32_no {n : Int} (h : n < -2147483648 ∨ 2147483647 < n) : fit32 n = false := by simp [fit32]; omega
theorem fit32_of {n : Int} (h : fit32 n = true) : -2147483648 ≤ n ∧ n ≤ 2147483647 := by simpa [fit32] using h

/-- the code's and the document's own tests, in their order -/
def Nd.rightB (n : Nd) : Bool :=
  match n.leaf with
  | true => fit32 n.v && ((n.f == 0) && (n.a == 0) && (n.l == 0) && (n.r == 0))
  | false => (n.v == 0) && decide (0 ≤ n.f ∧ n.f < 4) && fit32 n.a && decide (1 ≤ n.l ∧ n.l < 31) && decide (1 ≤ n.r ∧ n.r < 31)
def Nd.Right (n : Nd) : Prop :=
  (n.leaf = true ∧ -2147483648 ≤ n.v ∧ n.v ≤ 2147483647 ∧ n.f = 0 ∧ n.a = 0 ∧ n.l = 0 ∧ n.r = 0) ∨
  (n.leaf = false ∧ n.v = 0 ∧ 0 ≤ n.f ∧ n.f ≤ 3 ∧ -2147483648 ≤ n.a ∧ n.a ≤ 2147483647 ∧ 1 ≤ n.l ∧ n.l ≤ 30 ∧ 1 ≤ n.r ∧ n.r ≤ 30)
theorem Nd.right_iff {n : Nd} : n.rightB = true ↔ n.Right := by
  obtain ⟨leaf, v, f, a, l, r⟩ := n
  cases leaf
  · simp [Nd.rightB, Nd.Right, fit32]; omega
  · simp [Nd.rightB, Nd.Right, fit32]; omega

/-- a right node's word -/
def Nd.word (n : Nd) : Int :=
  match n.leaf with
  | true => 9223372036854775808 + n.v % 4294967296
  | false => n.a % 4294967296 + n.f * 4294967296 + n.l * 1099511627776 + n.r * 281474976710656
def Nd.pack (n : Nd) : Int := if n.rightB = true then n.word else 0
/-- a number of 32 bits with a sign -/
def sgI (x : Int) : Int := if x % 4294967296 < 2147483648 then x % 4294967296 else x % 4294967296 - 4294967296
def readI (x : Int) : Nd :=
  if x / 9223372036854775808 % 2 = 1 then ⟨true, sgI x, 0, 0, 0, 0⟩
  else ⟨false, 0, x / 4294967296 % 16, sgI x, x / 1099511627776 % 256, x / 281474976710656 % 256⟩
def unB (x : Int) : Bool := (readI x).rightB && ((readI x).pack == x)
def unI (x : Int) : Nd := if unB x = true then readI x else Nd.nil

theorem Nd.pack_of {n : Nd} (h : n.rightB = true) : n.pack = n.word := by simp [Nd.pack, h]
theorem Nd.pack_no {n : Nd} (h : n.rightB = false) : n.pack = 0 := by simp [Nd.pack, h]
theorem Nd.word_bd {n : Nd} (h : n.Right) : 0 ≤ n.word ∧ n.word < 18446744073709551616 := by
  obtain ⟨leaf, v, f, a, l, r⟩ := n
  cases leaf <;> simp [Nd.Right, Nd.word] at * <;> omega
theorem Nd.pack_bd (n : Nd) : 0 ≤ n.pack ∧ n.pack ≤ 18446744073709551615 := by
  cases h : n.rightB
  · rw [Nd.pack_no h]; omega
  · rw [Nd.pack_of h]
    have := Nd.word_bd (Nd.right_iff.1 h)
    omega

theorem sg_bd (x : Int) : -2147483648 ≤ sgI x ∧ sgI x ≤ 2147483647 := by unfold sgI; split <;> omega
theorem sg_mod (x : Int) : sgI x % 4294967296 = x % 4294967296 := by unfold sgI; split <;> omega
theorem sg_back {x n : Int} (h1 : -2147483648 ≤ n) (h2 : n ≤ 2147483647) (h : x % 4294967296 = n % 4294967296) : sgI x = n := by unfold sgI; split <;> omega

theorem read_word {n : Nd} (h : n.Right) : readI n.word = n := by
  obtain ⟨leaf, v, f, a, l, r⟩ := n
  cases leaf
  · simp [Nd.Right] at h
    have e1 : Nd.word ⟨false, v, f, a, l, r⟩ = a % 4294967296 + f * 4294967296 + l * 1099511627776 + r * 281474976710656 := rfl
    rw [e1]
    have e2 : sgI (a % 4294967296 + f * 4294967296 + l * 1099511627776 + r * 281474976710656) = a := sg_back (by omega) (by omega) (by omega)
    simp only [readI, e2]
    rw [if_neg (by omega)]
    simp only [Nd.mk.injEq]
    refine ⟨trivial, ?_, ?_, trivial, ?_, ?_⟩ <;> omega
  · simp [Nd.Right] at h
    have e1 : Nd.word ⟨true, v, f, a, l, r⟩ = 9223372036854775808 + v % 4294967296 := rfl
    rw [e1]
    have e2 : sgI (9223372036854775808 + v % 4294967296) = v := sg_back (by omega) (by omega) (by omega)
    simp only [readI, e2]
    rw [if_pos (by omega)]
    simp only [Nd.mk.injEq]
    refine ⟨trivial, trivial, ?_, ?_, ?_, ?_⟩ <;> omega

theorem un_word {n : Nd} (h : n.rightB = true) : unB n.word = true ∧ unI n.word = n := by
  have e := read_word (Nd.right_iff.1 h)
  have : unB n.word = true := by simp [unB, e, h, Nd.pack]
  exact ⟨this, by rw [unI, if_pos this, e]⟩
theorem un_of {x : Int} (h : unB x = true) : (unI x).rightB = true ∧ (unI x).pack = x := by
  rw [unI, if_pos h]
  simpa [unB] using h
theorem un_no {x : Int} (h : unB x = false) : unI x = Nd.nil := by simp [unI, h]
theorem un_zero : unB 0 = false ∧ unI 0 = Nd.nil := by decide +kernel

/-- P6.4: what is packed is unpacked -/
theorem un_pack (n : Nd) : unB n.pack = n.rightB ∧ (n.rightB = true → unI n.pack = n) ∧ (n.rightB = false → unI n.pack = Nd.nil) := by
  cases h : n.rightB
  · rw [Nd.pack_no h]; exact ⟨un_zero.1, by simp, fun _ => un_zero.2⟩
  · rw [Nd.pack_of h]; exact ⟨(un_word h).1, fun _ => (un_word h).2, by simp⟩
theorem pack_inj {n m : Nd} (hn : n.rightB = true) (hm : m.rightB = true) : (n.pack == m.pack) = n.eqB m := by
  rw [Bool.eq_iff_iff, beq_iff_eq, Nd.eqB_iff]
  constructor
  · intro h
    have h1 := (un_pack n).2.1 hn
    have h2 := (un_pack m).2.1 hm
    rw [h] at h1
    exact h1.symm.trans h2
  · intro h; rw [h]

/-! the ways of the code and of the document's own answer -/
theorem nat_of {x : Int} (h : 0 ≤ x) : ((x.toNat : Nat) : Int) = x := Int.toNat_of_nonneg h
theorem putN_high (word p k x : Nat) (h : word < 2 ^ p) : putN word p k x = word + x % 2 ^ k * 2 ^ p := by
  have e : word + x % 2 ^ k * 2 ^ p = 2 ^ p * (x % 2 ^ k) + word := by rw [Nat.mul_comm]; omega
  rw [e]
  apply Nat.eq_of_testBit_eq
  intro i
  rw [putN_bit, Nat.testBit_two_pow_mul_add _ h, Nat.testBit_mod_two_pow]
  by_cases h1 : i < p
  · rw [if_neg (by omega), if_pos h1]
  · rw [if_neg h1]
    by_cases h2 : i < p + k
    · rw [if_pos (by omega)]
      have : i - p < k := by omega
      simp [this]
    · rw [if_neg (by omega)]
      have : ¬ i - p < k := by omega
      simp only [this, decide_false, Bool.false_and]
      exact Nat.testBit_lt_two_pow (Nat.lt_of_lt_of_le h (Nat.pow_le_pow_right (by decide) (by omega)))
theorem putN_leaf (x : Nat) : putN (2 ^ 63) 0 32 x = 2 ^ 63 + x % 2 ^ 32 := by
  have e : 2 ^ 63 + x % 2 ^ 32 = 2 ^ 63 * 1 + x % 2 ^ 32 := by omega
  rw [e]
  apply Nat.eq_of_testBit_eq
  intro i
  have hl : x % 2 ^ 32 < 2 ^ 63 := Nat.lt_of_lt_of_le (Nat.mod_lt _ (by decide)) (by decide)
  rw [putN_bit, Nat.testBit_two_pow_mul_add _ hl, Nat.testBit_mod_two_pow, Nat.testBit_two_pow]
  by_cases h1 : i < 32
  · rw [if_pos (by omega), if_pos (by omega)]; simp [h1]
  · rw [if_neg (by omega)]
    by_cases h2 : i < 63
    · rw [if_pos h2]
      have : ¬ 63 = i := by omega
      simp [h1, this]
    · rw [if_neg h2]
      by_cases h3 : 63 = i
      · subst h3; simp
      · have : (1 : Nat).testBit (i - 63) = false := by
          apply Nat.testBit_lt_two_pow
          exact Nat.lt_of_lt_of_le (by decide : 1 < 2 ^ 1) (Nat.pow_le_pow_right (by decide) (by omega))
        rw [this]; simp [h3]

theorem put_one : putI 0 63 1 1 = 9223372036854775808 := by decide +kernel
theorem put_leaf (x : Int) (hx : 0 ≤ x) : putI 9223372036854775808 0 32 x = 9223372036854775808 + x % 4294967296 := by
  rw [putI, if_pos (by decide)]
  have e : (putN (2 ^ 63) 0 32 x.toNat : Int) = 9223372036854775808 + x % 4294967296 := by
    rw [putN_leaf]; omega
  exact e
theorem put_at (word x : Int) (p k : Nat) (hf : fieldB (p : Int) (k : Int) = true) (h0 : 0 ≤ word) (h : word < 2 ^ p) (hx : 0 ≤ x) : putI word p k x = word + x % 2 ^ k * 2 ^ p := by
  rw [putI, if_pos hf]
  simp only [Int.toNat_natCast]
  have h' : word.toNat < 2 ^ p := by
    have e : ((2 ^ p : Nat) : Int) = (2 : Int) ^ p := by simp
    omega
  rw [putN_high _ _ _ _ h']
  simp [nat_of h0, nat_of hx]
theorem u64_mod (v : Int) : 0 ≤ IntKind.u64.wrap v ∧ IntKind.u64.wrap v ≤ 18446744073709551615 ∧ IntKind.u64.wrap v % 4294967296 = v % 4294967296 := by
  rw [IntKind.wrap_u64]; omega
theorem u64_same {v : Int} (h0 : 0 ≤ v) (h : v ≤ 18446744073709551615) : IntKind.u64.wrap v = v := IntWalk.u64_in _ ⟨by omega, by omega⟩
theorem code_leaf (v : Int) : putI (putI 0 63 1 1) 0 32 (IntKind.u64.wrap v) = 9223372036854775808 + v % 4294967296 := by
  rw [put_one, put_leaf _ (u64_mod v).1, (u64_mod v).2.2]
theorem code_at (a : Int) : putI 0 0 32 (IntKind.u64.wrap a) = a % 4294967296 := by
  have := put_at 0 (IntKind.u64.wrap a) 0 32 (by decide) (by decide) (by decide) (u64_mod a).1
  simpa [(u64_mod a).2.2] using this
theorem code_feature (m f : Int) (h0 : 0 ≤ m) (h : m < 4294967296) (f0 : 0 ≤ f) (f1 : f ≤ 15) : putI m 32 4 (IntKind.u64.wrap f) = m + f * 4294967296 := by
  rw [u64_same f0 (by omega)]
  have := put_at m f 32 4 (by decide) h0 (by simpa using h) f0
  simp at this
  rw [this]; omega
theorem code_left (m l : Int) (h0 : 0 ≤ m) (h : m < 1099511627776) (f0 : 0 ≤ l) (f1 : l ≤ 255) : putI m 40 8 (IntKind.u64.wrap l) = m + l * 1099511627776 := by
  rw [u64_same f0 (by omega)]
  have := put_at m l 40 8 (by decide) h0 (by simpa using h) f0
  simp at this
  rw [this]; omega
theorem code_right (m r : Int) (h0 : 0 ≤ m) (h : m < 281474976710656) (f0 : 0 ≤ r) (f1 : r ≤ 255) : putI m 48 8 (IntKind.u64.wrap r) = m + r * 281474976710656 := by
  rw [u64_same f0 (by omega)]
  have := put_at m r 48 8 (by decide) h0 (by simpa using h) f0
  simp at this
  rw [this]; omega
theorem get_at (x : Int) (p k : Nat) (hf : fieldB (p : Int) (k : Int) = true) (h0 : 0 ≤ x) : getI x p k = x / 2 ^ p % 2 ^ k := by
  rw [getI, if_pos hf]
  simp [getN, nat_of h0]
theorem get_leaf (x : Int) (h0 : 0 ≤ x) : getI x 63 1 = x / 9223372036854775808 % 2 := by simpa using get_at x 63 1 (by decide) h0
theorem get_feature (x : Int) (h0 : 0 ≤ x) : getI x 32 4 = x / 4294967296 % 16 := by simpa using get_at x 32 4 (by decide) h0
theorem get_left (x : Int) (h0 : 0 ≤ x) : getI x 40 8 = x / 1099511627776 % 256 := by simpa using get_at x 40 8 (by decide) h0
theorem get_right (x : Int) (h0 : 0 ≤ x) : getI x 48 8 = x / 281474976710656 % 256 := by simpa using get_at x 48 8 (by decide) h0
theorem get_number (x : Int) (h0 : 0 ≤ x) : getI x 0 32 = x % 4294967296 := by simpa using get_at x 0 32 (by decide) h0
theorem wrapI_32 (x : Int) : wrapI x 32 = sgI x := by
  rw [wrapI, if_pos (by decide), Int.bmod_def, sgI]
  have e : ((2 ^ (32 : Int).toNat : Nat) : Int) = 4294967296 := by decide
  rw [e]
  split <;> split <;> omega
theorem signed_number (x : Int) (h0 : 0 ≤ x) : signedI x 0 32 = sgI x := by
  rw [signedI, get_number x h0]
  have e : wrap64 (x % 4294967296) = x % 4294967296 := IntWalk.wrap64_in _ ⟨by omega, by omega⟩
  rw [e, wrapI_32]
  unfold sgI
  rw [Int.emod_emod_of_dvd x (Int.dvd_refl 4294967296)]
theorem read_leaf {x : Int} (h : x / 9223372036854775808 % 2 = 1) : readI x = ⟨true, sgI x, 0, 0, 0, 0⟩ := by simp [readI, h]
theorem read_other {x : Int} (h : ¬ x / 9223372036854775808 % 2 = 1) : readI x = ⟨false, 0, x / 4294967296 % 16, sgI x, x / 1099511627776 % 256, x / 281474976710656 % 256⟩ := by simp [readI, h]

end Go.Proofs.YtkkbeobocbgmeaaGreat.M

namespace Go.Proofs.YtkkbeobocbgmeaaGreat.M
open Go.RowKit (wrap64)

theorem or_add (m q : Nat) (p : Nat) (h : m < 2 ^ p) (ht : m + q * 2 ^ p < 18446744073709551616) : bits .or .u64 (m : Int) ((q * 2 ^ p : Nat) : Int) = ((m + q * 2 ^ p : Nat) : Int) := by
  rw [u64_or_nat _ _ (by omega) (by omega)]
  congr 1
  have := Nat.two_pow_add_eq_or_of_lt h q
  rw [Nat.or_comm, Nat.mul_comm q, ← this]
  omega
theorem or_int (m q P : Int) (p : Nat) (hP : P = 2 ^ p) (h0 : 0 ≤ m) (h : m < P) (hq : 0 ≤ q) (ht : m + q * P < 18446744073709551616) : bits .or .u64 m (q * P) = m + q * P := by
  subst hP
  obtain ⟨M, rfl⟩ := Int.eq_ofNat_of_zero_le h0
  obtain ⟨Q, rfl⟩ := Int.eq_ofNat_of_zero_le hq
  have e : ((2 ^ p : Nat) : Int) = (2 : Int) ^ p := by simp
  have h2 : M < 2 ^ p := by omega
  have h3 : M + Q * 2 ^ p < 18446744073709551616 := by
    have : ((M + Q * 2 ^ p : Nat) : Int) = (M : Int) + Q * 2 ^ p := by simp
    omega
  have := or_add M Q p h2 h3
  simpa using this
theorem and_32 (n : Int) : bits .and .u64 (IntKind.u64.wrap n) 4294967295 = n % 4294967296 := by
  have h := u_low n 32 (by decide)
  have e : IntKind.u64.wrap (IntKind.u64.wrap (2 ^ 32) - 1) = 4294967295 := by decide +kernel
  rw [e] at h
  simpa using h
theorem ref_leaf (v : Int) : bits .or .u64 9223372036854775808 (bits .and .u64 (IntKind.u64.wrap v) 4294967295) = 9223372036854775808 + v % 4294967296 := by
  rw [and_32]
  have h0 : 0 ≤ v % 4294967296 := by omega
  have h1 : v % 4294967296 < 4294967296 := by omega
  generalize v % 4294967296 = m at h0 h1
  obtain ⟨M, rfl⟩ := Int.eq_ofNat_of_zero_le h0
  have h2 : M < 2 ^ 63 := by omega
  have := Nat.two_pow_add_eq_or_of_lt h2 1
  have e := u64_or_nat 9223372036854775808 M (by decide) (by omega)
  have e2 : (9223372036854775808 ||| M : Nat) = 9223372036854775808 + M := by
    rw [show (9223372036854775808 : Nat) = 2 ^ 63 * 1 from by decide, ← this]
  rw [e2] at e
  simpa using e
theorem shl_32 (f : Int) (h0 : 0 ≤ f) (h : f ≤ 255) : IntKind.u64.wrap (IntKind.u64.wrap f * 4294967296) = f * 4294967296 := by
  rw [u64_same h0 (by omega), u64_same (by omega) (by omega)]
theorem shl_40 (f : Int) (h0 : 0 ≤ f) (h : f ≤ 255) : IntKind.u64.wrap (IntKind.u64.wrap f * 1099511627776) = f * 1099511627776 := by
  rw [u64_same h0 (by omega), u64_same (by omega) (by omega)]
theorem shl_48 (f : Int) (h0 : 0 ≤ f) (h : f ≤ 255) : IntKind.u64.wrap (IntKind.u64.wrap f * 281474976710656) = f * 281474976710656 := by
  rw [u64_same h0 (by omega), u64_same (by omega) (by omega)]
theorem ref_other (f a l r : Int) (f0 : 0 ≤ f) (f1 : f ≤ 3) (l0 : 1 ≤ l) (l1 : l ≤ 30) (r0 : 1 ≤ r) (r1 : r ≤ 30) :
    bits .or .u64 (bits .or .u64 (bits .or .u64 (bits .and .u64 (IntKind.u64.wrap a) 4294967295) (IntKind.u64.wrap (IntKind.u64.wrap f * 4294967296))) (IntKind.u64.wrap (IntKind.u64.wrap l * 1099511627776))) (IntKind.u64.wrap (IntKind.u64.wrap r * 281474976710656)) =
      a % 4294967296 + f * 4294967296 + l * 1099511627776 + r * 281474976710656 := by
  rw [and_32, shl_32 f f0 (by omega), shl_40 l (by omega) (by omega), shl_48 r (by omega) (by omega)]
  have h0 : 0 ≤ a % 4294967296 := by omega
  have h1 : a % 4294967296 < 4294967296 := by omega
  generalize a % 4294967296 = m at h0 h1
  rw [or_int m f 4294967296 32 (by decide) h0 h1 f0 (by omega), or_int _ l 1099511627776 40 (by decide) (by omega) (by omega) (by omega) (by omega), or_int _ r 281474976710656 48 (by decide) (by omega) (by omega) (by omega) (by omega)]

/-! bits that are turned, or set -/
theorem xor_u64 (x : Int) (k : Nat) (h0 : 0 ≤ x) (h : x ≤ 18446744073709551615) (hk : k ≤ 63) : bits .xor .u64 x (2 ^ k) = ((x.toNat ^^^ 2 ^ k : Nat) : Int) := by
  obtain ⟨X, rfl⟩ := Int.eq_ofNat_of_zero_le h0
  have hp : 2 ^ k < 18446744073709551616 := Nat.lt_of_le_of_lt (Nat.pow_le_pow_right (by decide) hk) (by decide)
  rw [← cast_pow, u64_xor_nat X _ (by omega) hp]
  simp
theorem or_u64 (x : Int) (k : Nat) (h0 : 0 ≤ x) (h : x ≤ 18446744073709551615) (hk : k ≤ 63) : bits .or .u64 x (2 ^ k) = ((x.toNat ||| 2 ^ k : Nat) : Int) := by
  obtain ⟨X, rfl⟩ := Int.eq_ofNat_of_zero_le h0
  have hp : 2 ^ k < 18446744073709551616 := Nat.lt_of_le_of_lt (Nat.pow_le_pow_right (by decide) hk) (by decide)
  rw [← cast_pow, u64_or_nat X _ (by omega) hp]
  simp
theorem turned_bd (x k : Nat) (h : x < 18446744073709551616) (hk : k ≤ 63) : x ^^^ 2 ^ k < 18446744073709551616 := by
  have hp : 2 ^ k < 2 ^ 64 := Nat.pow_lt_pow_right (by decide) (by omega)
  exact Nat.xor_lt_two_pow (n := 64) h hp
theorem set_bd (x k : Nat) (h : x < 18446744073709551616) (hk : k ≤ 63) : x ||| 2 ^ k < 18446744073709551616 := by
  have hp : 2 ^ k < 2 ^ 64 := Nat.pow_lt_pow_right (by decide) (by omega)
  exact Nat.or_lt_two_pow (n := 64) h hp
theorem turned_ne (x k : Nat) : x ^^^ 2 ^ k ≠ x := by
  intro h
  have := congrArg (fun y => Nat.testBit y k) h
  simp [Nat.testBit_xor] at this
/-- a word in which a bit stands that no right node's word has is none -/
theorem un_bit (x : Nat) (p k i : Nat) (hp : p ≤ i) (hk : i < p + k) (hb : x.testBit i = true) (hz : ∀ n : Nd, n.Right → n.word = (x : Int) → getN x p k = 0) : unB (x : Int) = false := by
  cases h : unB (x : Int)
  · rfl
  · obtain ⟨h1, h2⟩ := un_of h
    rw [Nd.pack_of h1] at h2
    have := hz _ (Nd.right_iff.1 h1) h2
    have hg := getN_bit x p k (i - p)
    rw [this] at hg
    have e : i - p + p = i := by omega
    have e2 : i - p < k := by omega
    rw [e, hb] at hg
    simp [e2] at hg
theorem free_36 (n : Nd) (h : n.Right) (x : Nat) (hx : n.word = (x : Int)) : getN x 36 4 = 0 := by
  obtain ⟨leaf, v, f, a, l, r⟩ := n
  simp only [getN]
  cases leaf <;> simp [Nd.Right, Nd.word] at h hx <;> omega
theorem free_56 (n : Nd) (h : n.Right) (x : Nat) (hx : n.word = (x : Int)) : getN x 56 7 = 0 := by
  obtain ⟨leaf, v, f, a, l, r⟩ := n
  simp only [getN]
  cases leaf <;> simp [Nd.Right, Nd.word] at h hx <;> omega
theorem free_leaf (n : Nd) (h : n.Right) (x : Nat) (hx : n.word = (x : Int)) (hl : 9223372036854775808 ≤ x) : getN x 32 31 = 0 := by
  obtain ⟨leaf, v, f, a, l, r⟩ := n
  simp only [getN]
  cases leaf <;> simp [Nd.Right, Nd.word] at h hx <;> omega
theorem set_bit (x k : Nat) : (x ||| 2 ^ k).testBit k = true := by simp [Nat.testBit_or]
theorem set_36 (x k : Nat) (h1 : 36 ≤ k) (h2 : k ≤ 39) : unB ((x ||| 2 ^ k : Nat) : Int) = false :=
  un_bit _ 36 4 k h1 (by omega) (set_bit x k) fun n hn hw => free_36 n hn _ hw
theorem set_56 (x k : Nat) (h1 : 56 ≤ k) (h2 : k ≤ 62) : unB ((x ||| 2 ^ k : Nat) : Int) = false :=
  un_bit _ 56 7 k h1 (by omega) (set_bit x k) fun n hn hw => free_56 n hn _ hw
theorem set_leaf (x k : Nat) (hx : 9223372036854775808 ≤ x) (h1 : 32 ≤ k) (h2 : k ≤ 62) : unB ((x ||| 2 ^ k : Nat) : Int) = false :=
  un_bit _ 32 31 k h1 (by omega) (set_bit x k) fun n hn hw => free_leaf n hn _ hw (Nat.le_trans hx Nat.left_le_or)
/-- P6.4: a bit that is turned is another node, or none -/
theorem turned_other {n : Nd} {x : Nat} {k : Nat} (hp : n.pack = (x : Int)) (hu : unB ((x ^^^ 2 ^ k : Nat) : Int) = true) : ¬ unI ((x ^^^ 2 ^ k : Nat) : Int) = n := by
  intro h
  have h2 := (un_of hu).2
  rw [h, hp] at h2
  exact turned_ne x k (by omega)

end Go.Proofs.YtkkbeobocbgmeaaGreat.M

namespace Go.Proofs.YtkkbeobocbgmeaaGreat.M

def wd (ws : List Int) (i : Nat) : Int := ws.getD i 0
def ndA (ws : List Int) (i : Nat) : Nd := unI (wd ws i)
theorem wd_of {ws : List Int} {i : Nat} (h : i < ws.length) : ws[i]? = some (wd ws i) := by simp [wd, h]
theorem wd_append_left (a b : List Int) (i : Nat) (h : i < a.length) : wd (a ++ b) i = wd a i := by simp [wd, List.getElem?_append_left h]
theorem wd_append_right (a b : List Int) (i : Nat) (h : a.length ≤ i) : wd (a ++ b) i = wd b (i - a.length) := by simp [wd, List.getElem?_append_right h]
theorem wd_take (a : List Int) (k i : Nat) (h : i < k) : wd (a.take k) i = wd a i := by simp [wd, h]
theorem wd_drop (a : List Int) (k i : Nat) : wd (a.drop k) i = wd a (k + i) := by simp [wd]
theorem wd_set_self (a : List Int) (k : Nat) (x : Int) (h : k < a.length) : wd (a.set k x) k = x := by simp [wd, h]
theorem wd_set_ne (a : List Int) (k i : Nat) (x : Int) (h : k ≠ i) : wd (a.set k x) i = wd a i := by simp [wd, List.getElem?_set_ne h]

/-- how often x names j -/
def hit (x : Nd) (j : Int) : Int := if x.leaf = true then 0 else (if x.l = j then 1 else 0) + (if x.r = j then 1 else 0)
def cnt (xs : Nat → Nd) : Nat → Int → Int
  | 0, _ => 0
  | k + 1, j => cnt xs k j + hit (xs k) j
def Fine (dim n i : Int) (x : Nd) : Prop := x.leaf = true ∨ (x.f < dim ∧ i < x.l ∧ i < x.r ∧ x.l < n ∧ x.r < n ∧ x.l ≠ x.r)
structure Shape (xs : Nat → Nd) (n : Nat) (dim : Int) : Prop where
  fine : ∀ i, i < n → Fine dim n i (xs i)
  one : ∀ j : Nat, 1 ≤ j → j < n → cnt xs n j = 1
structure TreeP (ws : List Int) (dim : Int) : Prop where
  full : 1 ≤ ws.length
  few : ws.length ≤ 31
  can : ∀ i, i < ws.length → unB (wd ws i) = true
  shape : Shape (ndA ws) ws.length dim

theorem hit_leaf {x : Nd} (h : x.leaf = true) (j : Int) : hit x j = 0 := by simp [hit, h]
theorem hit_other {x : Nd} (h : x.leaf = false) (j : Int) : hit x j = (if x.l = j then 1 else 0) + (if x.r = j then 1 else 0) := by simp [hit, h]
theorem hit_bd (x : Nd) (j : Int) : 0 ≤ hit x j ∧ hit x j ≤ 2 := by
  unfold hit
  split
  · omega
  · split <;> split <;> omega
theorem cnt_bd (xs : Nat → Nd) (k : Nat) (j : Int) : 0 ≤ cnt xs k j ∧ cnt xs k j ≤ 2 * k := by
  induction k with
  | zero => simp [cnt]
  | succ k ih =>
    have := hit_bd (xs k) j
    simp only [cnt]
    omega
theorem cnt_mono (xs : Nat → Nd) (j : Int) {a b : Nat} (h : a ≤ b) : cnt xs a j ≤ cnt xs b j := by
  induction b with
  | zero =>
    have : a = 0 := by omega
    subst this; exact Int.le_refl _
  | succ b ih =>
    by_cases e : a = b + 1
    · subst e; exact Int.le_refl _
    · have := hit_bd (xs b) j
      have := ih (by omega)
      simp only [cnt]
      omega
theorem cnt_none (xs : Nat → Nd) (j : Int) (n : Nat) (h : ∀ i, i < n → (xs i).leaf = false → (xs i).l ≠ j ∧ (xs i).r ≠ j) : cnt xs n j = 0 := by
  induction n with
  | zero => rfl
  | succ n ih =>
    simp only [cnt]
    rw [ih (fun i hi => h i (by omega))]
    cases e : (xs n).leaf
    · obtain ⟨h1, h2⟩ := h n (by omega) e
      simp [hit_other e, h1, h2]
    · simp [hit_leaf e]
theorem cnt_some (xs : Nat → Nd) (j : Int) (n : Nat) (h : cnt xs n j ≠ 0) : ∃ i, i < n ∧ (xs i).leaf = false ∧ ((xs i).l = j ∨ (xs i).r = j) := by
  induction n with
  | zero => exact absurd rfl h
  | succ n ih =>
    by_cases e : cnt xs n j = 0
    · have hh : hit (xs n) j ≠ 0 := by simp only [cnt] at h; omega
      cases e2 : (xs n).leaf
      · refine ⟨n, by omega, e2, ?_⟩
        rw [hit_other e2] at hh
        by_cases a : (xs n).l = j
        · exact .inl a
        · by_cases b : (xs n).r = j
          · exact .inr b
          · simp [a, b] at hh
      · exact absurd (hit_leaf e2 j) hh
    · obtain ⟨i, hi, h1, h2⟩ := ih e
      exact ⟨i, by omega, h1, h2⟩
theorem cnt_congr {xs ys : Nat → Nd} (j : Int) (n : Nat) (h : ∀ i, i < n → xs i = ys i) : cnt xs n j = cnt ys n j := by
  induction n with
  | zero => rfl
  | succ n ih => simp only [cnt]; rw [ih (fun i hi => h i (by omega)), h n (by omega)]
/-- no two name the same -/
theorem Shape.alone {xs : Nat → Nd} {n : Nat} {dim : Int} (h : Shape xs n dim) {i k : Nat} (hi : i < k) (hk : k < n) (j : Nat) (li : (xs i).leaf = false) (lk : (xs k).leaf = false) (a : (xs i).l = j ∨ (xs i).r = j) : (xs k).l ≠ j ∧ (xs k).r ≠ j := by
  have f := h.fine i (by omega)
  rcases f with f | ⟨_, f1, f2, f3, f4, f5⟩
  · rw [li] at f; cases f
  have h1 : 1 ≤ hit (xs i) j := by
    rw [hit_other li]
    rcases a with a | a
    · rw [if_pos a]; split <;> omega
    · rw [if_pos a]; split <;> omega
  have j1 : 1 ≤ j ∧ j < n := by rcases a with a | a <;> omega
  have h2 := h.one j j1.1 j1.2
  have h3 := cnt_mono xs j (show i + 1 ≤ k by omega)
  have h4 := cnt_mono xs j (show k + 1 ≤ n by omega)
  have h5 := (cnt_bd xs i j).1
  simp only [cnt] at h3 h4
  have h6 : hit (xs k) j = 0 := by have := hit_bd (xs k) j; omega
  rw [hit_other lk] at h6
  constructor
  · intro e; rw [if_pos e] at h6; split at h6 <;> omega
  · intro e; rw [if_pos e] at h6; split at h6 <;> omega

/-! ways -/
def sideI (x : Nd) (p : Int → Int) : Int := if p x.f ≤ x.a then x.l else x.r
def wayW (ws : List Int) (p : Int → Int) : Nat → Nat → Option Nat
  | 0, _ => none
  | k + 1, i => if i < ws.length ∧ unB (wd ws i) = true then (if (ndA ws i).leaf = true then some i else wayW ws p k (sideI (ndA ws i) p).toNat) else none
def plI : Option Nat → Int
  | none => -1
  | some k => k
def vlI (ws : List Int) : Option Nat → Int
  | none => 0
  | some k => (ndA ws k).v
theorem wayW_out {ws : List Int} {p : Int → Int} {k i : Nat} (h : ¬ i < ws.length) : wayW ws p (k + 1) i = none := by simp [wayW, h]
theorem wayW_bad {ws : List Int} {p : Int → Int} {k i : Nat} (h : unB (wd ws i) = false) : wayW ws p (k + 1) i = none := by simp [wayW, h]
theorem wayW_leaf {ws : List Int} {p : Int → Int} {k i : Nat} (h : i < ws.length) (h1 : unB (wd ws i) = true) (h2 : (ndA ws i).leaf = true) : wayW ws p (k + 1) i = some i := by simp [wayW, h, h1, h2]
theorem wayW_on {ws : List Int} {p : Int → Int} {k i : Nat} (h : i < ws.length) (h1 : unB (wd ws i) = true) (h2 : (ndA ws i).leaf = false) : wayW ws p (k + 1) i = wayW ws p k (sideI (ndA ws i) p).toNat := by simp [wayW, h, h1, h2]
theorem side_cases (x : Nd) (p : Int → Int) : sideI x p = x.l ∨ sideI x p = x.r := by unfold sideI; split <;> simp

theorem TreeP.side {ws : List Int} {dim : Int} (h : TreeP ws dim) {i : Nat} (hi : i < ws.length) (hl : (ndA ws i).leaf = false) (p : Int → Int) : (i : Int) < sideI (ndA ws i) p ∧ sideI (ndA ws i) p < ws.length := by
  rcases h.shape.fine i hi with f | ⟨_, f1, f2, f3, f4, _⟩
  · rw [hl] at f; cases f
  · rcases side_cases (ndA ws i) p with e | e <;> rw [e] <;> omega
theorem TreeP.ends {ws : List Int} {dim : Int} (h : TreeP ws dim) (p : Int → Int) : ∀ (k i : Nat), i < ws.length → ws.length ≤ k + i → ∃ a, wayW ws p k i = some a ∧ i ≤ a ∧ a < ws.length ∧ (ndA ws a).leaf = true := by
  intro k
  induction k with
  | zero => intro i h1 h2; omega
  | succ k ih =>
    intro i h1 h2
    cases e : (ndA ws i).leaf
    · rw [wayW_on h1 (h.can i h1) e]
      obtain ⟨s1, s2⟩ := h.side h1 e p
      obtain ⟨a, h3, h4, h5, h6⟩ := ih (sideI (ndA ws i) p).toNat (by omega) (by omega)
      exact ⟨a, h3, by omega, h5, h6⟩
    · exact ⟨i, wayW_leaf h1 (h.can i h1) e, Nat.le_refl _, h1, e⟩
theorem TreeP.leaf {ws : List Int} {dim : Int} (h : TreeP ws dim) (p : Int → Int) : ∃ a, wayW ws p 31 0 = some a ∧ a < ws.length ∧ (ndA ws a).leaf = true := by
  obtain ⟨a, h1, _, h2, h3⟩ := h.ends p 31 0 (by have := h.full; omega) (by have := h.few; omega)
  exact ⟨a, h1, h2, h3⟩
theorem wayW_same {ws : List Int} {p q : Int → Int} (h : ∀ i, i < ws.length → unB (wd ws i) = true → (ndA ws i).leaf = false → (p (ndA ws i).f ≤ (ndA ws i).a ↔ q (ndA ws i).f ≤ (ndA ws i).a)) : ∀ k i, wayW ws p k i = wayW ws q k i := by
  intro k
  induction k with
  | zero => intro i; rfl
  | succ k ih =>
    intro i
    by_cases h1 : i < ws.length
    · cases h2 : unB (wd ws i)
      · rw [wayW_bad h2, wayW_bad h2]
      · cases h3 : (ndA ws i).leaf
        · rw [wayW_on h1 h2 h3, wayW_on h1 h2 h3]
          have e : sideI (ndA ws i) p = sideI (ndA ws i) q := by
            unfold sideI
            have := h i h1 h2 h3
            by_cases a : p (ndA ws i).f ≤ (ndA ws i).a
            · rw [if_pos a, if_pos (this.1 a)]
            · rw [if_neg a, if_neg (fun b => a (this.2 b))]
          rw [e]
          exact ih _
        · rw [wayW_leaf h1 h2 h3, wayW_leaf h1 h2 h3]
    · rw [wayW_out h1, wayW_out h1]

/-! how deep -/
def wy (xs : Nat → Nd) : Nat → Int → Int
  | 0, j => if j = 0 then 1 else 0
  | m + 1, j => if (xs m).leaf = true then wy xs m j else if (xs m).r = j then wy xs m m + 1 else if (xs m).l = j then wy xs m m + 1 else wy xs m j
def lg (xs : Nat → Nd) : Nat → Int
  | 0 => 1
  | m + 1 => max (lg xs m) (wy xs m m)
theorem wy_stays {xs : Nat → Nd} {n : Nat} {dim : Int} (h : Shape xs n dim) (j : Nat) : ∀ m, j ≤ m → m ≤ n → wy xs m j = wy xs j j := by
  intro m
  induction m with
  | zero => intro h1 _; have : j = 0 := by omega
            subst this; rfl
  | succ m ih =>
    intro h1 h2
    by_cases e : j = m + 1
    · subst e; rfl
    · rw [← ih (by omega) (by omega)]
      simp only [wy]
      split
      · rfl
      · rcases h.fine m (by omega) with f | ⟨_, f1, f2, _⟩
        · contradiction
        · rw [if_neg (by omega), if_neg (by omega)]
theorem wy_child {xs : Nat → Nd} {n : Nat} {dim : Int} (h : Shape xs n dim) {i : Nat} (hi : i < n) (li : (xs i).leaf = false) (j : Nat) (a : (xs i).l = j ∨ (xs i).r = j) : ∀ m, i + 1 ≤ m → m ≤ n → wy xs m j = wy xs i i + 1 := by
  intro m
  induction m with
  | zero => intro h1; omega
  | succ m ih =>
    intro h1 h2
    by_cases e : m = i
    · subst e
      simp only [wy]
      rw [if_neg (by simp [li])]
      by_cases b : (xs m).r = j
      · rw [if_pos b]
      · rw [if_neg b, if_pos (by rcases a with a | a; exact a; exact absurd a b)]
    · rw [← ih (by omega) (by omega)]
      simp only [wy]
      split
      · rfl
      · rename_i lm
        have lm : (xs m).leaf = false := by simpa using lm
        obtain ⟨b1, b2⟩ := h.alone (show i < m by omega) (by omega) j li lm a
        rw [if_neg b2, if_neg b1]
theorem Shape.wy_next {xs : Nat → Nd} {n : Nat} {dim : Int} (h : Shape xs n dim) {i : Nat} (hi : i < n) (li : (xs i).leaf = false) (j : Nat) (a : (xs i).l = j ∨ (xs i).r = j) : wy xs j j = wy xs i i + 1 ∧ i < j ∧ j < n := by
  rcases h.fine i hi with f | ⟨_, f1, f2, f3, f4, _⟩
  · rw [li] at f; cases f
  · have hj : i < j ∧ j < n := by rcases a with a | a <;> omega
    exact ⟨wy_child h hi li j a j (by omega) (by omega), hj.1, hj.2⟩
theorem lg_mono (xs : Nat → Nd) {a b : Nat} (h : a ≤ b) : lg xs a ≤ lg xs b := by
  induction b with
  | zero => have : a = 0 := by omega
            subst this; exact Int.le_refl _
  | succ b ih =>
    by_cases e : a = b + 1
    · subst e; exact Int.le_refl _
    · have := ih (by omega)
      simp only [lg]
      omega
theorem lg_at (xs : Nat → Nd) {j n : Nat} (h : j < n) : wy xs j j ≤ lg xs n := by
  have := lg_mono xs (show j + 1 ≤ n by omega)
  simp only [lg] at this
  omega
theorem wy_low {xs : Nat → Nd} {n : Nat} {dim : Int} (h : Shape xs n dim) : ∀ m, m ≤ n → ∀ j : Int, 0 ≤ j → 0 ≤ wy xs m j ∧ wy xs m j ≤ j + 1 := by
  intro m
  induction m with
  | zero => intro _ j hj; simp only [wy]; split <;> omega
  | succ m ih =>
    intro h2 j hj
    have h3 := ih (by omega) j hj
    have h4 := ih (by omega) m (by omega)
    simp only [wy]
    split
    · exact h3
    · rcases h.fine m (by omega) with f | ⟨_, f1, f2, _⟩
      · contradiction
      · split
        · omega
        · split <;> omega
theorem lg_bd {xs : Nat → Nd} {n : Nat} {dim : Int} (h : Shape xs n dim) : ∀ m, m ≤ n → 1 ≤ lg xs m ∧ lg xs m ≤ max m 1 := by
  intro m
  induction m with
  | zero => intro _; simp [lg]
  | succ m ih =>
    intro h2
    have h3 := ih (by omega)
    have h4 := wy_low h m (by omega) m (by omega)
    simp only [lg]
    omega

/-! the leaves -/
def lvs (xs : Nat → Nd) : Nat → List Int
  | 0 => []
  | m + 1 => if (xs m).leaf = true then lvs xs m ++ [(m : Int)] else lvs xs m
theorem lvs_length_le (xs : Nat → Nd) (n : Nat) : (lvs xs n).length ≤ n := by
  induction n with
  | zero => simp [lvs]
  | succ n ih =>
    simp only [lvs]
    split
    · simp; omega
    · omega
theorem lvs_mem (xs : Nat → Nd) (n : Nat) (x : Int) : x ∈ lvs xs n ↔ ∃ i : Nat, i < n ∧ (xs i).leaf = true ∧ x = i := by
  induction n with
  | zero => simp [lvs]
  | succ n ih =>
    simp only [lvs]
    split
    · rename_i hl
      simp only [List.mem_append, ih, List.mem_singleton]
      constructor
      · rintro (⟨i, h1, h2, h3⟩ | rfl)
        · exact ⟨i, by omega, h2, h3⟩
        · exact ⟨n, by omega, hl, rfl⟩
      · rintro ⟨i, h1, h2, h3⟩
        by_cases e : i = n
        · subst e; exact .inr h3
        · exact .inl ⟨i, by omega, h2, h3⟩
    · rename_i hl
      rw [ih]
      constructor
      · rintro ⟨i, h1, h2, h3⟩; exact ⟨i, by omega, h2, h3⟩
      · rintro ⟨i, h1, h2, h3⟩
        by_cases e : i = n
        · subst e; exact absurd h2 hl
        · exact ⟨i, by omega, h2, h3⟩
theorem lvs_at (xs : Nat → Nd) (n i : Nat) (h : i < (lvs xs n).length) : ∃ k : Nat, k < n ∧ (xs k).leaf = true ∧ wd (lvs xs n) i = k := by
  have : wd (lvs xs n) i ∈ lvs xs n := by
    simp only [wd, List.getD_eq_getElem?_getD, List.getElem?_eq_getElem h, Option.getD_some]
    exact List.getElem_mem h
  exact (lvs_mem xs n _).1 this
theorem lvs_rise (xs : Nat → Nd) (n : Nat) : ∀ i, i + 1 < (lvs xs n).length → wd (lvs xs n) i < wd (lvs xs n) (i + 1) := by
  induction n with
  | zero => simp [lvs]
  | succ n ih =>
    simp only [lvs]
    split
    · intro i hi
      simp at hi
      rw [wd_append_left _ _ _ (by omega)]
      by_cases e : i + 1 < (lvs xs n).length
      · rw [wd_append_left _ _ _ e]; exact ih i e
      · rw [wd_append_right _ _ _ (by omega), show i + 1 - (lvs xs n).length = 0 by omega]
        obtain ⟨k, h1, _, h2⟩ := lvs_at xs n i (by omega)
        rw [h2]
        simp [wd]
        omega
    · exact ih
def sumN (f : Nat → Int) : Nat → Int
  | 0 => 0
  | n + 1 => sumN f n + f n
theorem sumN_add (f g : Nat → Int) (n : Nat) : sumN (fun j => f j + g j) n = sumN f n + sumN g n := by
  induction n with
  | zero => rfl
  | succ n ih => simp only [sumN]; omega
theorem sumN_congr {f g : Nat → Int} (n : Nat) (h : ∀ j, j < n → f j = g j) : sumN f n = sumN g n := by
  induction n with
  | zero => rfl
  | succ n ih => simp only [sumN]; rw [ih (fun j hj => h j (by omega)), h n (by omega)]
theorem sumN_zero (n : Nat) : sumN (fun _ => 0) n = 0 := by
  induction n with
  | zero => rfl
  | succ n ih => simp only [sumN]; omega
theorem sumN_at (a : Int) (n : Nat) (h0 : 0 ≤ a) : sumN (fun j => if a = (j : Int) then 1 else 0) n = if a < n then 1 else 0 := by
  induction n with
  | zero => simp only [sumN]; rw [if_neg (by omega)]
  | succ n ih =>
    simp only [sumN]
    rw [ih]
    by_cases e : a = n
    · rw [if_neg (by omega), if_pos e, if_pos (by omega)]; omega
    · rw [if_neg e]
      by_cases e2 : a < n
      · rw [if_pos e2, if_pos (by omega)]; omega
      · rw [if_neg e2, if_neg (by omega)]; omega
theorem sum_cnt {xs : Nat → Nd} {n : Nat} {dim : Int} (h : Shape xs n dim) : ∀ k, k ≤ n → sumN (fun j => cnt xs k j) n = 2 * ((k : Int) - (lvs xs k).length) := by
  intro k
  induction k with
  | zero => intro _; simp [cnt, lvs, sumN_zero]
  | succ k ih =>
    intro hk
    have e : sumN (fun j => cnt xs (k + 1) j) n = sumN (fun j => cnt xs k j) n + sumN (fun j => hit (xs k) j) n := by
      simp only [cnt]
      exact sumN_add (fun j => cnt xs k j) (fun j => hit (xs k) j) n
    rw [e, ih (by omega)]
    rcases h.fine k (by omega) with f | ⟨_, f1, f2, f3, f4, _⟩
    · have : sumN (fun j => hit (xs k) j) n = 0 := by
        rw [sumN_congr (g := fun _ => 0) n (fun j _ => hit_leaf f j), sumN_zero]
      rw [this]
      simp only [lvs, f, if_true, List.length_append, List.length_singleton]
      omega
    · cases hl : (xs k).leaf
      · have : sumN (fun j => hit (xs k) j) n = 2 := by
          rw [sumN_congr (g := fun j => (if (xs k).l = (j : Int) then 1 else 0) + (if (xs k).r = (j : Int) then 1 else 0)) n (fun j _ => hit_other hl j)]
          rw [sumN_add (fun j => if (xs k).l = (j : Int) then 1 else 0) (fun j => if (xs k).r = (j : Int) then 1 else 0) n, sumN_at _ _ (by omega), sumN_at _ _ (by omega), if_pos f3, if_pos f4]
          rfl
        rw [this]
        simp only [lvs, hl]
        simp
        omega
      · have : sumN (fun j => hit (xs k) j) n = 0 := by
          rw [sumN_congr (g := fun _ => 0) n (fun j _ => hit_leaf hl j), sumN_zero]
        rw [this]
        simp only [lvs, hl, if_true, List.length_append, List.length_singleton]
        omega
theorem sum_ones (f : Nat → Int) (h0 : f 0 = 0) : ∀ n, 1 ≤ n → (∀ j, 1 ≤ j → j < n → f j = 1) → sumN f n = (n : Int) - 1 := by
  intro n
  induction n with
  | zero => intro h; omega
  | succ n ih =>
    intro _ h
    simp only [sumN]
    by_cases e : n = 0
    · subst e; simp [sumN, h0]
    · rw [ih (by omega) (fun j a b => h j a (by omega)), h n (by omega) (by omega)]
      omega
theorem Shape.leaves {xs : Nat → Nd} {n : Nat} {dim : Int} (h : Shape xs n dim) (hn : 1 ≤ n) : 2 * ((lvs xs n).length : Int) = n + 1 := by
  have h1 := sum_cnt h n (Nat.le_refl _)
  have h0 : cnt xs n 0 = 0 := by
    refine cnt_none xs 0 n (fun i hi li => ?_)
    rcases h.fine i hi with f | ⟨_, f1, f2, _⟩
    · rw [li] at f; cases f
    · omega
  have h2 := sum_ones (fun j => cnt xs n j) h0 n hn (fun j a b => h.one j a b)
  rw [h2] at h1
  omega

/-! what is turned -/
theorem no_tree_at {ws : List Int} {dim : Int} {k : Nat} {y : Nd} (hk : k < ws.length) (hw : wd ws k = y.pack) (hy : ¬ Fine dim ws.length k y) : ¬ TreeP ws dim := by
  intro h
  cases hr : y.rightB
  · have := h.can k hk
    rw [hw, Nd.pack_no hr, un_zero.1] at this
    cases this
  · have := h.shape.fine k hk
    rw [ndA, hw, (un_pack y).2.1 hr] at this
    exact hy this
theorem no_tree_word {ws : List Int} {dim : Int} {k : Nat} (hk : k < ws.length) (hw : wd ws k = 0) : ¬ TreeP ws dim := by
  intro h
  have := h.can k hk
  rw [hw, un_zero.1] at this
  cases this
theorem TreeP.pack {ws : List Int} {dim : Int} (h : TreeP ws dim) {k : Nat} (hk : k < ws.length) : (ndA ws k).pack = wd ws k := (un_of (h.can k hk)).2
theorem TreeP.right {ws : List Int} {dim : Int} (h : TreeP ws dim) {k : Nat} (hk : k < ws.length) : (ndA ws k).rightB = true := (un_of (h.can k hk)).1
theorem TreeP.lone {ws : List Int} {dim dim' : Int} (h : TreeP ws dim) (x : Int) : ¬ TreeP (ws ++ [x]) dim' := by
  intro h'
  have h1 := h'.shape.one ws.length h.full (by simp)
  simp only [List.length_append, List.length_singleton, cnt] at h1
  have h2 : ∀ i, i < ws.length → ndA (ws ++ [x]) i = ndA ws i := fun i hi => by rw [ndA, wd_append_left _ _ _ hi, ndA]
  rw [cnt_congr (ys := ndA ws) _ _ h2] at h1
  have h3 : cnt (ndA ws) ws.length ws.length = 0 := by
    refine cnt_none _ _ _ (fun i hi li => ?_)
    rcases h.shape.fine i hi with f | ⟨_, f1, f2, f3, f4, _⟩
    · rw [li] at f; cases f
    · omega
  rw [h3] at h1
  have h4 := h'.shape.fine ws.length (by simp)
  rcases h4 with f | ⟨_, f1, f2, f3, f4, _⟩
  · rw [hit_leaf f] at h1; omega
  · simp at f3; omega
theorem TreeP.shorn {ws : List Int} {dim dim' : Int} (h : TreeP ws dim) (h1 : 1 < ws.length) : ¬ TreeP (ws.take (ws.length - 1)) dim' := by
  intro h'
  have h2 := h.shape.one (ws.length - 1) (by omega) (by omega)
  obtain ⟨i, hi, li, hj⟩ := cnt_some (ndA ws) _ _ (by rw [h2]; decide)
  have hi2 : i < ws.length - 1 := by
    rcases h.shape.fine i hi with f | ⟨_, f1, f2, f3, f4, _⟩
    · rw [li] at f; cases f
    · omega
  have h3 := h'.shape.fine i (by simp; omega)
  rw [ndA, wd_take _ _ _ hi2] at h3
  have e : unI (wd ws i) = ndA ws i := rfl
  rw [e] at h3
  rcases h3 with f | ⟨_, f1, f2, f3, f4, _⟩
  · rw [li] at f; cases f
  · simp at f3 f4; omega

/-! a leaf is parted -/
def nA (L : List Nd) (i : Nat) : Nd := L.getD i Nd.nil
theorem nA_append_left (a b : List Nd) (i : Nat) (h : i < a.length) : nA (a ++ b) i = nA a i := by simp [nA, List.getElem?_append_left h]
theorem nA_set_self (a : List Nd) (k : Nat) (x : Nd) (h : k < a.length) : nA (a.set k x) k = x := by simp [nA, h]
theorem nA_set_ne (a : List Nd) (k i : Nat) (x : Nd) (h : k ≠ i) : nA (a.set k x) i = nA a i := by simp [nA, List.getElem?_set_ne h]
theorem nA_map (L : List Nd) (i : Nat) (h : i < L.length) : wd (L.map Nd.pack) i = (nA L i).pack := by simp [wd, nA, h]
theorem cnt_parted (L : List Nd) (k : Nat) (y : Nd) (hl : (nA L k).leaf = true) (hk : k < L.length) (j : Int) : ∀ m, m ≤ L.length → cnt (nA (L.set k y)) m j = cnt (nA L) m j + (if k < m then hit y j else 0) := by
  intro m
  induction m with
  | zero => intro _; simp [cnt]
  | succ m ih =>
    intro hm
    simp only [cnt]
    rw [ih (by omega)]
    by_cases e : k = m
    · subst e
      rw [nA_set_self _ _ _ hk, hit_leaf hl, if_neg (by omega), if_pos (by omega), Int.add_zero]
    · rw [nA_set_ne _ _ _ _ e]
      by_cases e2 : k < m
      · rw [if_pos e2, if_pos (by omega)]; omega
      · rw [if_neg e2, if_neg (by omega)]; omega
theorem Shape.part {L : List Nd} {dim : Int} (h : Shape (nA L) L.length dim) {k : Nat} (hk : k < L.length) (hl : (nA L k).leaf = true) {y u v : Nd} (hy : y.leaf = false) (hf : y.f < dim) (h1 : y.l = L.length) (h2 : y.r = (L.length : Int) + 1) (hu : u.leaf = true) (hv : v.leaf = true) :
    Shape (nA (L.set k y ++ [u, v])) (L.set k y ++ [u, v]).length dim := by
  have hlen : (L.set k y ++ [u, v]).length = L.length + 2 := by simp
  have e0 : ∀ i, i < L.length → nA (L.set k y ++ [u, v]) i = nA (L.set k y) i := fun i hi => nA_append_left _ _ _ (by simp; omega)
  have e1 : nA (L.set k y ++ [u, v]) L.length = u := by simp [nA]
  have e2 : nA (L.set k y ++ [u, v]) (L.length + 1) = v := by simp [nA]
  rw [hlen]
  constructor
  · intro i hi
    by_cases a : i < L.length
    · rw [e0 i a]
      by_cases b : k = i
      · subst b
        rw [nA_set_self _ _ _ hk]
        exact .inr ⟨hf, by omega, by omega, by omega, by omega, by omega⟩
      · rw [nA_set_ne _ _ _ _ b]
        rcases h.fine i a with f | ⟨f0, f1, f2, f3, f4, f5⟩
        · exact .inl f
        · exact .inr ⟨f0, f1, f2, by omega, by omega, f5⟩
    · by_cases b : i = L.length
      · subst b; rw [e1]; exact .inl hu
      · have : i = L.length + 1 := by omega
        subst this; rw [e2]; exact .inl hv
  · intro j j1 j2
    simp only [cnt]
    rw [e1, e2, hit_leaf hu, hit_leaf hv, cnt_congr _ _ e0, cnt_parted L k y hl hk _ _ (Nat.le_refl _), if_pos hk, hit_other hy, h1, h2]
    by_cases a : j < L.length
    · rw [h.one j j1 a, if_neg (by omega), if_neg (by omega)]; rfl
    · have c0 : cnt (nA L) L.length j = 0 := by
        refine cnt_none _ _ _ (fun i hi li => ?_)
        rcases h.fine i hi with f | ⟨_, f1, f2, f3, f4, _⟩
        · rw [li] at f; cases f
        · omega
      rw [c0]
      by_cases b : j = L.length
      · rw [if_pos (by omega), if_neg (by omega)]; rfl
      · rw [if_neg (by omega), if_pos (by omega)]; rfl
theorem tree_of {L : List Nd} {dim : Int} (h1 : 1 ≤ L.length) (h2 : L.length ≤ 31) (hr : ∀ i, i < L.length → (nA L i).rightB = true) (h : Shape (nA L) L.length dim) : TreeP (L.map Nd.pack) dim := by
  have hn : ∀ i, i < L.length → ndA (L.map Nd.pack) i = nA L i := fun i hi => by
    rw [ndA, nA_map L i hi, (un_pack _).2.1 (hr i hi)]
  refine ⟨by simpa using h1, by simpa using h2, fun i hi => ?_, ?_⟩
  · simp at hi
    rw [nA_map L i hi, (un_pack _).1]
    exact hr i hi
  · simp only [List.length_map]
    exact ⟨fun i hi => by rw [hn i hi]; exact h.fine i hi, fun j a b => by rw [cnt_congr _ _ hn]; exact h.one j a b⟩

end Go.Proofs.YtkkbeobocbgmeaaGreat.M

namespace Go.Proofs.YtkkbeobocbgmeaaGreat.M

/-- the biases of a right model of k classes -/
def BiasP (k b0 b1 b2 : Int) : Prop := (fit32 b0 = true ∧ fit32 b1 = true ∧ fit32 b2 = true) ∧ (k ≤ 0 → b0 = 0) ∧ (k ≤ 1 → b1 = 0) ∧ (k ≤ 2 → b2 = 0)
/-- what a tree's words come to at a point -/
def valW (ws : List Int) (p : Int → Int) : Int := vlI ws (wayW ws p 31 0)
theorem nd_v_bd (x : Int) : -2147483648 ≤ (unI x).v ∧ (unI x).v ≤ 2147483647 := by
  unfold unI
  split
  · unfold readI
    split
    · exact sg_bd x
    · simp
  · simp
theorem valW_bd (ws : List Int) (p : Int → Int) : -2147483648 ≤ valW ws p ∧ valW ws p ≤ 2147483647 := by
  unfold valW
  cases h : wayW ws p 31 0 with
  | none => simp [vlI]
  | some k => exact nd_v_bd _

end Go.Proofs.YtkkbeobocbgmeaaGreat.M

namespace Go.Proofs.YtkkbeobocbgmeaaGreat.M

/-- nodes that are a tree, and the places of leaves of it, no two alike -/
structure Bush (L : List Nd) (lv : List Int) (dim : Int) : Prop where
  shape : Shape (nA L) L.length dim
  right : ∀ i, i < L.length → (nA L i).rightB = true
  leaf : ∀ q, q < lv.length → ∃ k : Nat, wd lv q = k ∧ k < L.length ∧ (nA L k).leaf = true
  apart : ∀ q r, q < r → r < lv.length → wd lv q ≠ wd lv r

abbrev ndLeaf (v : Int) : Nd := ⟨true, v, 0, 0, 0, 0⟩
theorem leaf_right {v : Int} (h1 : -3000 ≤ v) (h2 : v ≤ 3000) : (ndLeaf v).rightB = true := by
  rw [Nd.right_iff]
  exact .inl ⟨rfl, by show -2147483648 ≤ v; omega, by show v ≤ 2147483647; omega, rfl, rfl, rfl, rfl⟩
theorem bush_one {v : Int} (h1 : -3000 ≤ v) (h2 : v ≤ 3000) (dim : Int) : Bush [ndLeaf v] [0] dim := by
  refine ⟨⟨fun i hi => ?_, fun j j1 j2 => ?_⟩, fun i hi => ?_, fun q hq => ?_, fun q r hqr hr => ?_⟩
  · have : i = 0 := by simp at hi; omega
    subst this; exact .inl rfl
  · simp at j2; omega
  · have : i = 0 := by simp at hi; omega
    subst this; exact leaf_right h1 h2
  · have : q = 0 := by simp at hq; omega
    subst this; exact ⟨0, rfl, by simp, rfl⟩
  · simp at hr; omega
/-- what is left of the places when the one at k is taken, and two new ones behind them -/
def lvNext (lv : List Int) (k : Nat) (n : Int) : List Int := lv.take k ++ lv.drop (k + 1) ++ [n, n + 1]
theorem lvNext_length (lv : List Int) (k : Nat) (n : Int) (h : k < lv.length) : (lvNext lv k n).length = lv.length + 1 := by simp [lvNext]; omega
theorem lvNext_at (lv : List Int) (k : Nat) (n : Int) (h : k < lv.length) (q : Nat) (hq : q < lv.length + 1) :
    (q < k ∧ wd (lvNext lv k n) q = wd lv q) ∨ (k ≤ q ∧ q + 1 < lv.length ∧ wd (lvNext lv k n) q = wd lv (q + 1)) ∨ (q + 1 = lv.length ∧ wd (lvNext lv k n) q = n) ∨ (q = lv.length ∧ wd (lvNext lv k n) q = n + 1) := by
  have h1 : (lv.take k).length = k := by simp; omega
  have h2 : (lv.take k ++ lv.drop (k + 1)).length = lv.length - 1 := by simp; omega
  by_cases a : q < k
  · left
    refine ⟨a, ?_⟩
    rw [lvNext, wd_append_left _ _ _ (by omega), wd_append_left _ _ _ (by omega), wd_take _ _ _ a]
  · right
    by_cases b : q + 1 < lv.length
    · left
      refine ⟨by omega, b, ?_⟩
      rw [lvNext, wd_append_left _ _ _ (by omega), wd_append_right _ _ _ (by omega), wd_drop, h1]
      congr 1; omega
    · right
      by_cases c : q + 1 = lv.length
      · left
        refine ⟨c, ?_⟩
        rw [lvNext, wd_append_right _ _ _ (by omega), h2, show q - (lv.length - 1) = 0 by omega]; rfl
      · right
        refine ⟨by omega, ?_⟩
        rw [lvNext, wd_append_right _ _ _ (by omega), h2, show q - (lv.length - 1) = 1 by omega]; rfl

theorem Bush.part {L : List Nd} {lv : List Int} {dim : Int} (h : Bush L lv dim) (hn : L.length ≤ 29) {k A : Nat} (hk : k < lv.length) (hA : wd lv k = A) {f a u v : Int} (hf0 : 0 ≤ f) (hf : f < dim) (hd : dim ≤ 4) (ha0 : 0 ≤ a) (ha : a ≤ 9) (hu1 : -3000 ≤ u) (hu2 : u ≤ 3000) (hv1 : -3000 ≤ v) (hv2 : v ≤ 3000) (hL : 1 ≤ L.length) :
    Bush (L.set A ⟨false, 0, f, a, L.length, (L.length : Int) + 1⟩ ++ [ndLeaf u, ndLeaf v]) (lvNext lv k L.length) dim := by
  obtain ⟨A', e1, hAL, hAl⟩ := h.leaf k hk
  have : A' = A := by omega
  subst this
  have hlen : (L.set A' ⟨false, 0, f, a, L.length, (L.length : Int) + 1⟩ ++ [ndLeaf u, ndLeaf v]).length = L.length + 2 := by simp
  have e0 : ∀ i, i < L.length → nA (L.set A' ⟨false, 0, f, a, L.length, (L.length : Int) + 1⟩ ++ [ndLeaf u, ndLeaf v]) i = nA (L.set A' ⟨false, 0, f, a, L.length, (L.length : Int) + 1⟩) i := fun i hi => nA_append_left _ _ _ (by simp; omega)
  have e1 : nA (L.set A' ⟨false, 0, f, a, L.length, (L.length : Int) + 1⟩ ++ [ndLeaf u, ndLeaf v]) L.length = ndLeaf u := by simp [nA]
  have e2 : nA (L.set A' ⟨false, 0, f, a, L.length, (L.length : Int) + 1⟩ ++ [ndLeaf u, ndLeaf v]) (L.length + 1) = ndLeaf v := by simp [nA]
  have hold : ∀ q, q < lv.length → q ≠ k → ∃ B : Nat, wd lv q = B ∧ B < L.length ∧ B ≠ A' ∧ nA (L.set A' ⟨false, 0, f, a, L.length, (L.length : Int) + 1⟩ ++ [ndLeaf u, ndLeaf v]) B = nA L B ∧ (nA L B).leaf = true := by
    intro q hq hqk
    obtain ⟨B, b1, b2, b3⟩ := h.leaf q hq
    have hBA : B ≠ A' := by
      intro e
      subst e
      rcases Nat.lt_or_ge q k with c | c
      · exact h.apart q k c hk (by omega)
      · exact h.apart k q (by omega) hq (by omega)
    exact ⟨B, b1, b2, hBA, by rw [e0 B b2, nA_set_ne _ _ _ _ (Ne.symm hBA)], b3⟩
  refine ⟨Shape.part h.shape hAL hAl rfl hf rfl rfl rfl rfl, fun i hi => ?_, fun q hq => ?_, fun q r hqr hr => ?_⟩
  · rw [hlen] at hi
    by_cases c : i < L.length
    · rw [e0 i c]
      by_cases d : A' = i
      · subst d
        rw [nA_set_self _ _ _ hAL, Nd.right_iff]
        exact .inr ⟨rfl, rfl, hf0, by show f ≤ 3; omega, by show -2147483648 ≤ a; omega, by show a ≤ 2147483647; omega, by show (1 : Int) ≤ L.length; omega, by show (L.length : Int) ≤ 30; omega, by show (1 : Int) ≤ L.length + 1; omega, by show (L.length : Int) + 1 ≤ 30; omega⟩
      · rw [nA_set_ne _ _ _ _ d]; exact h.right i c
    · by_cases d : i = L.length
      · subst d; rw [e1]; exact leaf_right hu1 hu2
      · have : i = L.length + 1 := by omega
        subst this; rw [e2]; exact leaf_right hv1 hv2
  · rw [lvNext_length _ _ _ hk] at hq
    rcases lvNext_at lv k L.length hk q hq with ⟨c1, c2⟩ | ⟨c1, c2, c3⟩ | ⟨c1, c2⟩ | ⟨c1, c2⟩
    · obtain ⟨B, b1, b2, _, b4, b5⟩ := hold q (by omega) (by omega)
      exact ⟨B, by omega, by omega, by rw [b4]; exact b5⟩
    · obtain ⟨B, b1, b2, _, b4, b5⟩ := hold (q + 1) (by omega) (by omega)
      exact ⟨B, by omega, by omega, by rw [b4]; exact b5⟩
    · exact ⟨L.length, c2, by omega, by rw [e1]⟩
    · exact ⟨L.length + 1, by rw [c2]; rfl, by omega, by rw [e2]⟩
  · rw [lvNext_length _ _ _ hk] at hr
    have old : ∀ q, q < lv.length → wd lv q < L.length := fun q hq => by
      obtain ⟨B, b1, b2, _⟩ := h.leaf q hq
      omega
    rcases lvNext_at lv k L.length hk q (by omega) with ⟨c1, c2⟩ | ⟨c1, c2, c3⟩ | ⟨c1, c2⟩ | ⟨c1, c2⟩
    · have := old q (by omega)
      rcases lvNext_at lv k L.length hk r hr with ⟨d1, d2⟩ | ⟨d1, d2, d3⟩ | ⟨d1, d2⟩ | ⟨d1, d2⟩
      · rw [c2, d2]; exact h.apart q r hqr (by omega)
      · rw [c2, d3]; exact h.apart q (r + 1) (by omega) (by omega)
      · omega
      · omega
    · have := old (q + 1) (by omega)
      rcases lvNext_at lv k L.length hk r hr with ⟨d1, d2⟩ | ⟨d1, d2, d3⟩ | ⟨d1, d2⟩ | ⟨d1, d2⟩
      · omega
      · rw [c3, d3]; exact h.apart (q + 1) (r + 1) (by omega) (by omega)
      · omega
      · omega
    · rcases lvNext_at lv k L.length hk r hr with ⟨d1, d2⟩ | ⟨d1, d2, d3⟩ | ⟨d1, d2⟩ | ⟨d1, d2⟩ <;> omega
    · omega
theorem Bush.tree {L : List Nd} {lv : List Int} {dim : Int} (h : Bush L lv dim) (h1 : 1 ≤ L.length) (h2 : L.length ≤ 31) : TreeP (L.map Nd.pack) dim := tree_of h1 h2 h.right h.shape

end Go.Proofs.YtkkbeobocbgmeaaGreat.M
