/- Plain mathematics of chapter 6: a node in one word, and back. No program is spoken of here.
   Plain mathematics of chapter 6, second part: the document's own way of packing; bits that are turned or set. No program is spoken of here. -/
import Derived.Test.YtndnijdpafcmoaaMath
namespace Go.Proofs.Ytndnijdpafcmoaa.M
open Go.RowKit (wrap64)

structure Nd where
  leaf : Bool
  v : Int
  f : Int
  a : Int
  l : Int
  r : Int
deriving DecidableEq

abbrev Nd.nil : Nd := ⟨false, 0, 0, 0, 0, 0⟩
def Nd.eqB (n m : Nd) : Bool := (n.leaf == m.leaf) && (n.v == m.v) && (n.f == m.f) && (n.a == m.a) && (n.l == m.l) && (n.r == m.r)
theorem Nd.eqB_iff {n m : Nd} : n.eqB m = true ↔ n = m := by
  cases n; cases m; simp [Nd.eqB, and_assoc]
theorem Nd.eqB_self (n : Nd) : n.eqB n = true := Nd.eqB_iff.2 rfl
theorem Nd.eqB_no {n m : Nd} (h : ¬ n = m) : n.eqB m = false := by
  cases e : n.eqB m
  · rfl
  · exact absurd (Nd.eqB_iff.1 e) h

def fit32 (n : Int) : Bool := decide (-2147483648 ≤ n ∧ n ≤ 2147483647)
theorem fits32 (n : Int) : fitsB n 32 = fit32 n := by
  have := wrapI_eq_iff n 32 (by decide) (by decide)
  have e : (2 : Int) ^ ((32 : Int).toNat - 1) = 2147483648 := by decide
  rw [e] at this
  rw [Bool.eq_iff_iff]
  simp only [fitsB, fit32, decide_eq_true_eq, Bool.and_eq_true, beq_iff_eq, this]
  omega
theorem fit32_yes {n : Int} (h1 : -2147483648 ≤ n) (h2 : n ≤ 2147483647) : fit32 n = true := by simp [fit32, h1, h2]
theorem fit32_no {n : Int} (h : n < -2147483648 ∨ 2147483647 < n) : fit32 n = false := by simp [fit32]; omega
theorem fit32_of {n : Int} (h : fit32 n = true) : -2147483648 ≤ n ∧ n ≤ 2147483647 := by simpa [fit32] using h

/-- the code's and the document's own tests, in their order -/
def Nd.rightB (n : Nd) : Bool :=
  match n.leaf with
  | true => fit32 n.v && ((n.f == 0) && (n.a == 0) && (n.l == 0) && (n.r == 0))
  | false => (n.v == 0) && decide (0 ≤ n.f ∧ n.f < 4) && fit32 n.a && decide (1 ≤ n.l ∧ n.l < 31) && decide (1 ≤ n.r ∧ n.r < 31)
def Nd.Right (n : Nd) : Prop :=
  (n.leaf = true ∧ -2147483648 ≤ n.v ∧ n.v ≤ 2147483647 ∧ n.f = 0 ∧ n.a = 0 ∧ n.l = 0 ∧ n.r = 0) ∨
  (n.leaf = false ∧ n.v = 0 ∧ 0 ≤ n.f ∧ n.f ≤ 3 ∧ -2147483648 ≤ n.a ∧ n.a ≤ 2147483647 ∧ 1 ≤ n.l ∧ n.l ≤ 30 ∧ 1 ≤ n.r ∧ n.r ≤ 30)
theorem Nd.right_iff {n : Nd} : n.rightB = true ↔ n.Right := by
  obtain ⟨leaf, v, f, a, l, r⟩ := n
  cases leaf
  · simp [Nd.rightB, Nd.Right, fit32]; omega
  · simp [Nd.rightB, Nd.Right, fit32]; omega

/-- a right node's word -/
def Nd.word (n : Nd) : Int :=
  match n.leaf with
  | true => 9223372036854775808 + n.v % 4294967296
  | false => n.a % 4294967296 + n.f * 4294967296 + n.l * 1099511627776 + n.r * 281474976710656
def Nd.pack (n : Nd) : Int := if n.rightB = true then n.word else 0
/-- a number of 32 bits with a sign -/
def sgI (x : Int) : Int := if x % 4294967296 < 2147483648 then x % 4294967296 else x % 4294967296 - 4294967296
def readI (x : Int) : Nd :=
  if x / 9223372036854775808 % 2 = 1 then ⟨true, sgI x, 0, 0, 0, 0⟩
  else ⟨false, 0, x / 4294967296 % 16, sgI x, x / 1099511627776 % 256, x / 281474976710656 % 256⟩
def unB (x : Int) : Bool := (readI x).rightB && ((readI x).pack == x)
def unI (x : Int) : Nd := if unB x = true then readI x else Nd.nil

theorem Nd.pack_of {n : Nd} (h : n.rightB = true) : n.pack = n.word := by simp [Nd.pack, h]
theorem Nd.pack_no {n : Nd} (h : n.rightB = false) : n.pack = 0 := by simp [Nd.pack, h]
theorem Nd.word_bd {n : Nd} (h : n.Right) : 0 ≤ n.word ∧ n.word < 18446744073709551616 := by
  obtain ⟨leaf, v, f, a, l, r⟩ := n
  cases leaf <;> simp [Nd.Right, Nd.word] at * <;> omega
theorem Nd.pack_bd (n : Nd) : 0 ≤ n.pack ∧ n.pack ≤ 18446744073709551615 := by
  cases h : n.rightB
  · rw [Nd.pack_no h]; omega
  · rw [Nd.pack_of h]
    have := Nd.word_bd (Nd.right_iff.1 h)
    omega

theorem sg_bd (x : Int) : -2147483648 ≤ sgI x ∧ sgI x ≤ 2147483647 := by unfold sgI; split <;> omega
theorem sg_mod (x : Int) : sgI x % 4294967296 = x % 4294967296 := by unfold sgI; split <;> omega
theorem sg_back {x n : Int} (h1 : -2147483648 ≤ n) (h2 : n ≤ 2147483647) (h : x % 4294967296 = n % 4294967296) : sgI x = n := by unfold sgI; split <;> omega

theorem read_word {n : Nd} (h : n.Right) : readI n.word = n := by
  obtain ⟨leaf, v, f, a, l, r⟩ := n
  cases leaf
  · simp [Nd.Right] at h
    have e1 : Nd.word ⟨false, v, f, a, l, r⟩ = a % 4294967296 + f * 4294967296 + l * 1099511627776 + r * 281474976710656 := rfl
    rw [e1]
    have e2 : sgI (a % 4294967296 + f * 4294967296 + l * 1099511627776 + r * 281474976710656) = a := sg_back (by omega) (by omega) (by omega)
    simp only [readI, e2]
    rw [if_neg (by omega)]
    simp only [Nd.mk.injEq]
    refine ⟨trivial, ?_, ?_, trivial, ?_, ?_⟩ <;> omega
  · simp [Nd.Right] at h
    have e1 : Nd.word ⟨true, v, f, a, l, r⟩ = 9223372036854775808 + v % 4294967296 := rfl
    rw [e1]
    have e2 : sgI (9223372036854775808 + v % 4294967296) = v := sg_back (by omega) (by omega) (by omega)
    simp only [readI, e2]
    rw [if_pos (by omega)]
    simp only [Nd.mk.injEq]
    refine ⟨trivial, trivial, ?_, ?_, ?_, ?_⟩ <;> omega

theorem un_word {n : Nd} (h : n.rightB = true) : unB n.word = true ∧ unI n.word = n := by
  have e := read_word (Nd.right_iff.1 h)
  have : unB n.word = true := by simp [unB, e, h, Nd.pack]
  exact ⟨this, by rw [unI, if_pos this, e]⟩
theorem un_of {x : Int} (h : unB x = true) : (unI x).rightB = true ∧ (unI x).pack = x := by
  rw [unI, if_pos h]
  simpa [unB] using h
theorem un_no {x : Int} (h : unB x = false) : unI x = Nd.nil := by simp [unI, h]
theorem un_zero : unB 0 = false ∧ unI 0 = Nd.nil := by decide +kernel

/-- P6.4: what is packed is unpacked -/
theorem un_pack (n : Nd) : unB n.pack = n.rightB ∧ (n.rightB = true → unI n.pack = n) ∧ (n.rightB = false → unI n.pack = Nd.nil) := by
  cases h : n.rightB
  · rw [Nd.pack_no h]; exact ⟨un_zero.1, by simp, fun _ => un_zero.2⟩
  · rw [Nd.pack_of h]; exact ⟨(un_word h).1, fun _ => (un_word h).2, by simp⟩
theorem pack_inj {n m : Nd} (hn : n.rightB = true) (hm : m.rightB = true) : (n.pack == m.pack) = n.eqB m := by
  rw [Bool.eq_iff_iff, beq_iff_eq, Nd.eqB_iff]
  constructor
  · intro h
    have h1 := (un_pack n).2.1 hn
    have h2 := (un_pack m).2.1 hm
    rw [h] at h1
    exact h1.symm.trans h2
  · intro h; rw [h]

/-! the ways of the code and of the document's own answer -/
theorem nat_of {x : Int} (h : 0 ≤ x) : ((x.toNat : Nat) : Int) = x := Int.toNat_of_nonneg h
theorem putN_high (word p k x : Nat) (h : word < 2 ^ p) : putN word p k x = word + x % 2 ^ k * 2 ^ p := by
  have e : word + x % 2 ^ k * 2 ^ p = 2 ^ p * (x % 2 ^ k) + word := by rw [Nat.mul_comm]; omega
  rw [e]
  apply Nat.eq_of_testBit_eq
  intro i
  rw [putN_bit, Nat.testBit_two_pow_mul_add _ h, Nat.testBit_mod_two_pow]
  by_cases h1 : i < p
  · rw [if_neg (by omega), if_pos h1]
  · rw [if_neg h1]
    by_cases h2 : i < p + k
    · rw [if_pos (by omega)]
      have : i - p < k := by omega
      simp [this]
    · rw [if_neg (by omega)]
      have : ¬ i - p < k := by omega
      simp only [this, decide_false, Bool.false_and]
      exact Nat.testBit_lt_two_pow (Nat.lt_of_lt_of_le h (Nat.pow_le_pow_right (by decide) (by omega)))
theorem putN_leaf (x : Nat) : putN (2 ^ 63) 0 32 x = 2 ^ 63 + x % 2 ^ 32 := by
  have e : 2 ^ 63 + x % 2 ^ 32 = 2 ^ 63 * 1 + x % 2 ^ 32 := by omega
  rw [e]
  apply Nat.eq_of_testBit_eq
  intro i
  have hl : x % 2 ^ 32 < 2 ^ 63 := Nat.lt_of_lt_of_le (Nat.mod_lt _ (by decide)) (by decide)
  rw [putN_bit, Nat.testBit_two_pow_mul_add _ hl, Nat.testBit_mod_two_pow, Nat.testBit_two_pow]
  by_cases h1 : i < 32
  · rw [if_pos (by omega), if_pos (by omega)]; simp [h1]
  · rw [if_neg (by omega)]
    by_cases h2 : i < 63
    · rw [if_pos h2]
      have : ¬ 63 = i := by omega
      simp [h1, this]
    · rw [if_neg h2]
      by_cases h3 : 63 = i
      · subst h3; simp
      · have : (1 : Nat).testBit (i - 63) = false := by
          apply Nat.testBit_lt_two_pow
          exact Nat.lt_of_lt_of_le (by decide : 1 < 2 ^ 1) (Nat.pow_le_pow_right (by decide) (by omega))
        rw [this]; simp [h3]

theorem put_one : putI 0 63 1 1 = 9223372036854775808 := by decide +kernel
theorem put_leaf (x : Int) (hx : 0 ≤ x) : putI 9223372036854775808 0 32 x = 9223372036854775808 + x % 4294967296 := by
  rw [putI, if_pos (by decide)]
  have e : (putN (2 ^ 63) 0 32 x.toNat : Int) = 9223372036854775808 + x % 4294967296 := by
    rw [putN_leaf]; omega
  exact e
theorem put_at (word x : Int) (p k : Nat) (hf : fieldB (p : Int) (k : Int) = true) (h0 : 0 ≤ word) (h : word < 2 ^ p) (hx : 0 ≤ x) : putI word p k x = word + x % 2 ^ k * 2 ^ p := by
  rw [putI, if_pos hf]
  simp only [Int.toNat_natCast]
  have h' : word.toNat < 2 ^ p := by
    have e : ((2 ^ p : Nat) : Int) = (2 : Int) ^ p := by simp
    omega
  rw [putN_high _ _ _ _ h']
  simp [nat_of h0, nat_of hx]
theorem u64_mod (v : Int) : 0 ≤ IntKind.u64.wrap v ∧ IntKind.u64.wrap v ≤ 18446744073709551615 ∧ IntKind.u64.wrap v % 4294967296 = v % 4294967296 := by
  rw [IntKind.wrap_u64]; omega
theorem u64_same {v : Int} (h0 : 0 ≤ v) (h : v ≤ 18446744073709551615) : IntKind.u64.wrap v = v := IntWalk.u64_in _ ⟨by omega, by omega⟩
theorem code_leaf (v : Int) : putI (putI 0 63 1 1) 0 32 (IntKind.u64.wrap v) = 9223372036854775808 + v % 4294967296 := by
  rw [put_one, put_leaf _ (u64_mod v).1, (u64_mod v).2.2]
theorem code_at (a : Int) : putI 0 0 32 (IntKind.u64.wrap a) = a % 4294967296 := by
  have := put_at 0 (IntKind.u64.wrap a) 0 32 (by decide) (by decide) (by decide) (u64_mod a).1
  simpa [(u64_mod a).2.2] using this
theorem code_feature (m f : Int) (h0 : 0 ≤ m) (h : m < 4294967296) (f0 : 0 ≤ f) (f1 : f ≤ 15) : putI m 32 4 (IntKind.u64.wrap f) = m + f * 4294967296 := by
  rw [u64_same f0 (by omega)]
  have := put_at m f 32 4 (by decide) h0 (by simpa using h) f0
  simp at this
  rw [this]; omega
theorem code_left (m l : Int) (h0 : 0 ≤ m) (h : m < 1099511627776) (f0 : 0 ≤ l) (f1 : l ≤ 255) : putI m 40 8 (IntKind.u64.wrap l) = m + l * 1099511627776 := by
  rw [u64_same f0 (by omega)]
  have := put_at m l 40 8 (by decide) h0 (by simpa using h) f0
  simp at this
  rw [this]; omega
theorem code_right (m r : Int) (h0 : 0 ≤ m) (h : m < 281474976710656) (f0 : 0 ≤ r) (f1 : r ≤ 255) : putI m 48 8 (IntKind.u64.wrap r) = m + r * 281474976710656 := by
  rw [u64_same f0 (by omega)]
  have := put_at m r 48 8 (by decide) h0 (by simpa using h) f0
  simp at this
  rw [this]; omega
theorem get_at (x : Int) (p k : Nat) (hf : fieldB (p : Int) (k : Int) = true) (h0 : 0 ≤ x) : getI x p k = x / 2 ^ p % 2 ^ k := by
  rw [getI, if_pos hf]
  simp [getN, nat_of h0]
theorem get_leaf (x : Int) (h0 : 0 ≤ x) : getI x 63 1 = x / 9223372036854775808 % 2 := by simpa using get_at x 63 1 (by decide) h0
theorem get_feature (x : Int) (h0 : 0 ≤ x) : getI x 32 4 = x / 4294967296 % 16 := by simpa using get_at x 32 4 (by decide) h0
theorem get_left (x : Int) (h0 : 0 ≤ x) : getI x 40 8 = x / 1099511627776 % 256 := by simpa using get_at x 40 8 (by decide) h0
theorem get_right (x : Int) (h0 : 0 ≤ x) : getI x 48 8 = x / 281474976710656 % 256 := by simpa using get_at x 48 8 (by decide) h0
theorem get_number (x : Int) (h0 : 0 ≤ x) : getI x 0 32 = x % 4294967296 := by simpa using get_at x 0 32 (by decide) h0
theorem wrapI_32 (x : Int) : wrapI x 32 = sgI x := by
  rw [wrapI, if_pos (by decide), Int.bmod_def, sgI]
  have e : ((2 ^ (32 : Int).toNat : Nat) : Int) = 4294967296 := by decide
  rw [e]
  split <;> split <;> omega
theorem signed_number (x : Int) (h0 : 0 ≤ x) : signedI x 0 32 = sgI x := by
  rw [signedI, get_number x h0]
  have e : wrap64 (x % 4294967296) = x % 4294967296 := IntWalk.wrap64_in _ ⟨by omega, by omega⟩
  rw [e, wrapI_32]
  unfold sgI
  rw [Int.emod_emod_of_dvd x (Int.dvd_refl 4294967296)]
theorem read_leaf {x : Int} (h : x / 9223372036854775808 % 2 = 1) : readI x = ⟨true, sgI x, 0, 0, 0, 0⟩ := by simp [readI, h]
theorem read_other {x : Int} (h : ¬ x / 9223372036854775808 % 2 = 1) : readI x = ⟨false, 0, x / 4294967296 % 16, sgI x, x / 1099511627776 % 256, x / 281474976710656 % 256⟩ := by simp [readI, h]

end Go.Proofs.Ytndnijdpafcmoaa.M

namespace Go.Proofs.Ytndnijdpafcmoaa.M
open Go.RowKit (wrap64)

theorem or_add (m q : Nat) (p : Nat) (h : m < 2 ^ p) (ht : m + q * 2 ^ p < 18446744073709551616) : bits .or .u64 (m : Int) ((q * 2 ^ p : Nat) : Int) = ((m + q * 2 ^ p : Nat) : Int) := by
  rw [u64_or_nat _ _ (by omega) (by omega)]
  congr 1
  have := Nat.two_pow_add_eq_or_of_lt h q
  rw [Nat.or_comm, Nat.mul_comm q, ← this]
  omega
theorem or_int (m q P : Int) (p : Nat) (hP : P = 2 ^ p) (h0 : 0 ≤ m) (h : m < P) (hq : 0 ≤ q) (ht : m + q * P < 18446744073709551616) : bits .or .u64 m (q * P) = m + q * P := by
  subst hP
  obtain ⟨M, rfl⟩ := Int.eq_ofNat_of_zero_le h0
  obtain ⟨Q, rfl⟩ := Int.eq_ofNat_of_zero_le hq
  have e : ((2 ^ p : Nat) : Int) = (2 : Int) ^ p := by simp
  have h2 : M < 2 ^ p := by omega
  have h3 : M + Q * 2 ^ p < 18446744073709551616 := by
    have : ((M + Q * 2 ^ p : Nat) : Int) = (M : Int) + Q * 2 ^ p := by simp
    omega
  have := or_add M Q p h2 h3
  simpa using this
theorem and_32 (n : Int) : bits .and .u64 (IntKind.u64.wrap n) 4294967295 = n % 4294967296 := by
  have h := u_low n 32 (by decide)
  have e : IntKind.u64.wrap (IntKind.u64.wrap (2 ^ 32) - 1) = 4294967295 := by decide +kernel
  rw [e] at h
  simpa using h
theorem ref_leaf (v : Int) : bits .or .u64 9223372036854775808 (bits .and .u64 (IntKind.u64.wrap v) 4294967295) = 9223372036854775808 + v % 4294967296 := by
  rw [and_32]
  have h0 : 0 ≤ v % 4294967296 := by omega
  have h1 : v % 4294967296 < 4294967296 := by omega
  generalize v % 4294967296 = m at h0 h1
  obtain ⟨M, rfl⟩ := Int.eq_ofNat_of_zero_le h0
  have h2 : M < 2 ^ 63 := by omega
  have := Nat.two_pow_add_eq_or_of_lt h2 1
  have e := u64_or_nat 9223372036854775808 M (by decide) (by omega)
  have e2 : (9223372036854775808 ||| M : Nat) = 9223372036854775808 + M := by
    rw [show (9223372036854775808 : Nat) = 2 ^ 63 * 1 from by decide, ← this]
  rw [e2] at e
  simpa using e
theorem shl_32 (f : Int) (h0 : 0 ≤ f) (h : f ≤ 255) : IntKind.u64.wrap (IntKind.u64.wrap f * 4294967296) = f * 4294967296 := by
  rw [u64_same h0 (by omega), u64_same (by omega) (by omega)]
theorem shl_40 (f : Int) (h0 : 0 ≤ f) (h : f ≤ 255) : IntKind.u64.wrap (IntKind.u64.wrap f * 1099511627776) = f * 1099511627776 := by
  rw [u64_same h0 (by omega), u64_same (by omega) (by omega)]
theorem shl_48 (f : Int) (h0 : 0 ≤ f) (h : f ≤ 255) : IntKind.u64.wrap (IntKind.u64.wrap f * 281474976710656) = f * 281474976710656 := by
  rw [u64_same h0 (by omega), u64_same (by omega) (by omega)]
theorem ref_other (f a l r : Int) (f0 : 0 ≤ f) (f1 : f ≤ 3) (l0 : 1 ≤ l) (l1 : l ≤ 30) (r0 : 1 ≤ r) (r1 : r ≤ 30) :
    bits .or .u64 (bits .or .u64 (bits .or .u64 (bits .and .u64 (IntKind.u64.wrap a) 4294967295) (IntKind.u64.wrap (IntKind.u64.wrap f * 4294967296))) (IntKind.u64.wrap (IntKind.u64.wrap l * 1099511627776))) (IntKind.u64.wrap (IntKind.u64.wrap r * 281474976710656)) =
      a % 4294967296 + f * 4294967296 + l * 1099511627776 + r * 281474976710656 := by
  rw [and_32, shl_32 f f0 (by omega), shl_40 l (by omega) (by omega), shl_48 r (by omega) (by omega)]
  have h0 : 0 ≤ a % 4294967296 := by omega
  have h1 : a % 4294967296 < 4294967296 := by omega
  generalize a % 4294967296 = m at h0 h1
  rw [or_int m f 4294967296 32 (by decide) h0 h1 f0 (by omega), or_int _ l 1099511627776 40 (by decide) (by omega) (by omega) (by omega) (by omega), or_int _ r 281474976710656 48 (by decide) (by omega) (by omega) (by omega) (by omega)]

/-! bits that are turned, or set -/
theorem xor_u64 (x : Int) (k : Nat) (h0 : 0 ≤ x) (h : x ≤ 18446744073709551615) (hk : k ≤ 63) : bits .xor .u64 x (2 ^ k) = ((x.toNat ^^^ 2 ^ k : Nat) : Int) := by
  obtain ⟨X, rfl⟩ := Int.eq_ofNat_of_zero_le h0
  have hp : 2 ^ k < 18446744073709551616 := Nat.lt_of_le_of_lt (Nat.pow_le_pow_right (by decide) hk) (by decide)
  rw [← cast_pow, u64_xor_nat X _ (by omega) hp]
  simp
theorem or_u64 (x : Int) (k : Nat) (h0 : 0 ≤ x) (h : x ≤ 18446744073709551615) (hk : k ≤ 63) : bits .or .u64 x (2 ^ k) = ((x.toNat ||| 2 ^ k : Nat) : Int) := by
  obtain ⟨X, rfl⟩ := Int.eq_ofNat_of_zero_le h0
  have hp : 2 ^ k < 18446744073709551616 := Nat.lt_of_le_of_lt (Nat.pow_le_pow_right (by decide) hk) (by decide)
  rw [← cast_pow, u64_or_nat X _ (by omega) hp]
  simp
theorem turned_bd (x k : Nat) (h : x < 18446744073709551616) (hk : k ≤ 63) : x ^^^ 2 ^ k < 18446744073709551616 := by
  have hp : 2 ^ k < 2 ^ 64 := Nat.pow_lt_pow_right (by decide) (by omega)
  exact Nat.xor_lt_two_pow (n := 64) h hp
theorem set_bd (x k : Nat) (h : x < 18446744073709551616) (hk : k ≤ 63) : x ||| 2 ^ k < 18446744073709551616 := by
  have hp : 2 ^ k < 2 ^ 64 := Nat.pow_lt_pow_right (by decide) (by omega)
  exact Nat.or_lt_two_pow (n := 64) h hp
theorem turned_ne (x k : Nat) : x ^^^ 2 ^ k ≠ x := by
  intro h
  have := congrArg (fun y => Nat.testBit y k) h
  simp [Nat.testBit_xor] at this
/-- a word in which a bit stands that no right node's word has is none -/
theorem un_bit (x : Nat) (p k i : Nat) (hp : p ≤ i) (hk : i < p + k) (hb : x.testBit i = true) (hz : ∀ n : Nd, n.Right → n.word = (x : Int) → getN x p k = 0) : unB (x : Int) = false := by
  cases h : unB (x : Int)
  · rfl
  · obtain ⟨h1, h2⟩ := un_of h
    rw [Nd.pack_of h1] at h2
    have := hz _ (Nd.right_iff.1 h1) h2
    have hg := getN_bit x p k (i - p)
    rw [this] at hg
    have e : i - p + p = i := by omega
    have e2 : i - p < k := by omega
    rw [e, hb] at hg
    simp [e2] at hg
theorem free_36 (n : Nd) (h : n.Right) (x : Nat) (hx : n.word = (x : Int)) : getN x 36 4 = 0 := by
  obtain ⟨leaf, v, f, a, l, r⟩ := n
  simp only [getN]
  cases leaf <;> simp [Nd.Right, Nd.word] at h hx <;> omega
theorem free_56 (n : Nd) (h : n.Right) (x : Nat) (hx : n.word = (x : Int)) : getN x 56 7 = 0 := by
  obtain ⟨leaf, v, f, a, l, r⟩ := n
  simp only [getN]
  cases leaf <;> simp [Nd.Right, Nd.word] at h hx <;> omega
theorem free_leaf (n : Nd) (h : n.Right) (x : Nat) (hx : n.word = (x : Int)) (hl : 9223372036854775808 ≤ x) : getN x 32 31 = 0 := by
  obtain ⟨leaf, v, f, a, l, r⟩ := n
  simp only [getN]
  cases leaf <;> simp [Nd.Right, Nd.word] at h hx <;> omega
theorem set_bit (x k : Nat) : (x ||| 2 ^ k).testBit k = true := by simp [Nat.testBit_or]
theorem set_36 (x k : Nat) (h1 : 36 ≤ k) (h2 : k ≤ 39) : unB ((x ||| 2 ^ k : Nat) : Int) = false :=
  un_bit _ 36 4 k h1 (by omega) (set_bit x k) fun n hn hw => free_36 n hn _ hw
theorem set_56 (x k : Nat) (h1 : 56 ≤ k) (h2 : k ≤ 62) : unB ((x ||| 2 ^ k : Nat) : Int) = false :=
  un_bit _ 56 7 k h1 (by omega) (set_bit x k) fun n hn hw => free_56 n hn _ hw
theorem set_leaf (x k : Nat) (hx : 9223372036854775808 ≤ x) (h1 : 32 ≤ k) (h2 : k ≤ 62) : unB ((x ||| 2 ^ k : Nat) : Int) = false :=
  un_bit _ 32 31 k h1 (by omega) (set_bit x k) fun n hn hw => free_leaf n hn _ hw (Nat.le_trans hx Nat.left_le_or)
/-- P6.4: a bit that is turned is another node, or none -/
theorem turned_other {n : Nd} {x : Nat} {k : Nat} (hp : n.pack = (x : Int)) (hu : unB ((x ^^^ 2 ^ k : Nat) : Int) = true) : ¬ unI ((x ^^^ 2 ^ k : Nat) : Int) = n := by
  intro h
  have h2 := (un_of hu).2
  rw [h, hp] at h2
  exact turned_ne x k (by omega)

end Go.Proofs.Ytndnijdpafcmoaa.M
