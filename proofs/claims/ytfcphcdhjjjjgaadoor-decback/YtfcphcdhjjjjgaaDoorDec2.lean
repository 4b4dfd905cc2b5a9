/- The decimals of a part, appended to a text. -/
import Derived.Test.YtfcphcdhjjjjgaaDoorDec1
import Derived.Test.YtfcphcdhjjjjgaaDoorByteRows
import Derived.OwnWalk
namespace Go.Proofs.YtfcphcdhjjjjgaaDoor
open Go.RowKit M

theorem and255 (n : Nat) (h : n < 18446744073709551616) : bits .and .u64 (n : Int) 255 = ((n % 256 : Nat) : Int) := by
  have e : (255 : Int) = ((2 ^ 8 - 1 : Nat) : Int) := rfl
  rw [e, u64_and_nat n (2 ^ 8 - 1) h (by decide), Nat.and_two_pow_sub_one_eq_mod]

theorem decimals_any (B : Nat) (p0 : Nat) (hp : p0 < 256) (v : Value) (xs : Txt) (w : World) (hown : OwnB B w v xs) (hB : B ≤ w.heap.size) (hl : xs.length ≤ 100) :
    Calls Tryd.prog 17 #[v, .int .u64 (p0 : Int)] w fun e w' => ∃ v', e = .returned v' ∧ OwnB B w' v' (xs ++ decs p0) ∧ Below B w w' := by
  have hd8 := (decs_facts p0 hp).2.1
  go_enter Tryd.func17, Tryd.ntmps17
  go_wp2
  go_loopg [0, 1] (decs p0).length (fun k tv q wr => ∃ (t : Value) (ys : Txt) (p : Nat), tv = t ∧ p < 256 ∧ q = .int .u64 (p : Int) ∧ k = (decs p).length ∧ ys ++ decs p = xs ++ decs p0 ∧ OwnB B wr t ys ∧ Below B w wr)
  case atStart => exact ⟨v, xs, p0, rfl, hp, rfl, rfl, rfl, hown, Below.refl _ _⟩
  case round =>
    obtain ⟨t, ys, p, ht, hp1, rfl, hk, hys, hown1, hbel⟩ := hrel
    obtain rfl := ht.symm
    by_cases h0 : p = 0
    · subst h0
      rw [decs_zero, List.append_nil] at hys
      subst hys
      go_wp2
      go_ret
      exact ⟨_, rfl, hown1, hbel⟩
    · have hst := decs_step p hp1 h0
      have ea : bits .and .u64 ((p : Int) * 10) 255 = ((p * 10 % 256 : Nat) : Int) := and255 (p * 10) (by omega)
      have HP : Hid (p * 10 % 256 < 256) := Nat.mod_lt _ (by decide)
      have hB1 : B ≤ wr.heap.size := Nat.le_trans hB hbel.size
      have hlen : ys.length ≤ 1000 := by
        have := congrArg List.length hys
        simp at this
        omega
      obtain ⟨c, hc⟩ : ∃ c, UInt8.ofNat (48 + p * 10 / 256) = c := ⟨_, rfl⟩
      have HC : Hid (48 + p * 10 / 256 = c.toNat) := by
        rw [← hc, UInt8.toNat_ofNat']; show _ = _; omega
      obtain ⟨q, hq⟩ : ∃ q, p * 10 % 256 = q := ⟨_, rfl⟩
      rw [hq] at ea HP
      rw [hc, hq] at hst
      have HST : Hid (decs p = c :: decs q) := hst
      clear hc hq
      have HOWN : Hid (OwnB B wr t ys) := hown1
      have HBEL : Hid (Below B w wr) := hbel
      have HYS : Hid (ys ++ decs p = xs ++ decs p0) := hys
      have HK : Hid (gk = (decs p).length) := hk
      clear hst hown1 hbel hys hk hown hd8
      go_wp2_with (at_builtin; refine list_byte rfl _ _ rfl (HOWN.out.alloc _) (by simp; omega) rfl wr.heap.size 1 _ c ?hX rfl (heap_alloc_new _ _) hlen ?_)
      case hX => have := HC.out; omega
      intro v' w' hown2 hbel2 hB2
      go_wp2
      go_roundg (gk - 1)
      case measure => rw [HK.out, HST.out]; simp
      case rel =>
        refine ⟨v', ys ++ [c], q, rfl, HP.out, rfl, ?_, ?_, hown2, (HBEL.out.alloc hB1 _).trans hbel2⟩
        · rw [HK.out, HST.out]; simp
        · rw [← HYS.out, HST.out]; simp

end Go.Proofs.YtfcphcdhjjjjgaaDoor
