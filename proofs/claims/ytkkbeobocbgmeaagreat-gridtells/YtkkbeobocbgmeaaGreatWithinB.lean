/- What copsebook.Within answers for bounds that are no further apart than 2^62: a number within them. -/
import Derived.Test.YtkkbeobocbgmeaaGreatBase
namespace Go.Proofs.YtkkbeobocbgmeaaGreat.M
def withinI (n lo hi : Int) : Int := lo + n % (hi - lo + 1)
theorem within_bd (n lo hi : Int) (h : lo ≤ hi) : lo ≤ withinI n lo hi ∧ withinI n lo hi ≤ hi := by
  have h1 := Int.emod_nonneg n (show hi - lo + 1 ≠ 0 by omega)
  have h2 := Int.emod_lt_of_pos n (show 0 < hi - lo + 1 by omega)
  unfold withinI
  omega
end Go.Proofs.YtkkbeobocbgmeaaGreat.M
namespace Go.Proofs.YtkkbeobocbgmeaaGreat
open Go.RowKit M

theorem within_any (n lo hi : Int) (w : World) (hn1 : -9223372036854775808 ≤ n) (hn2 : n ≤ 9223372036854775807) (h : lo ≤ hi) (h1 : -2305843009213693952 ≤ lo) (h2 : hi ≤ 2305843009213693952) :
    Calls Tryz.prog 7 #[.int .i64 n, .int .i64 lo, .int .i64 hi] w fun e w' => e = .returned (.int .i64 (withinI n lo hi)) ∧ w' = w := by
  have HW : Hid (lo + n % (hi - lo + 1) = withinI n lo hi) := rfl
  have hm : 0 < hi - lo + 1 := by omega
  have b1 := Int.emod_nonneg n (show hi - lo + 1 ≠ 0 by omega)
  have b2 := Int.emod_lt_of_pos n hm
  by_cases h0 : 0 ≤ n
  · go_enter Tryz.func7, Tryz.ntmps7
    go_wp2
    go_ret
    exact ⟨ret_int HW.out, rfl⟩
  · obtain ⟨T, hT, t1, t2⟩ : ∃ T, n.tmod (hi - lo + 1) = T ∧ (T < 0 ∧ -(hi - lo + 1) < T ∧ n % (hi - lo + 1) = T + (hi - lo + 1) ∨ T = 0 ∧ n % (hi - lo + 1) = 0) ∧ True := by
      refine ⟨_, rfl, ?_, trivial⟩
      rw [Int.tmod_eq_emod]
      by_cases hd : hi - lo + 1 ∣ n
      · rw [if_pos (Or.inr hd), Int.emod_eq_zero_of_dvd hd]; right; simp
      · have hz : n % (hi - lo + 1) ≠ 0 := fun e => hd (Int.dvd_of_emod_eq_zero e)
        rw [if_neg (by intro h; rcases h with h | h; exact h0 h; exact hd h)]
        left; omega
    clear t2
    rcases t1 with ⟨t1, t2, t3⟩ | ⟨t1, t3⟩
    · have HW : Hid (lo + (T + hi - lo + 1) = withinI n lo hi) := by show lo + (T + hi - lo + 1) = lo + n % (hi - lo + 1); omega
      clear b1 b2 t3
      go_enter Tryz.func7, Tryz.ntmps7
      go_wp2
      go_ret
      exact ⟨ret_int HW.out, rfl⟩
    · have HW : Hid (lo = withinI n lo hi) := by show lo = lo + n % (hi - lo + 1); omega
      subst t1
      clear b1 b2 t3
      go_enter Tryz.func7, Tryz.ntmps7
      go_wp2
      go_ret
      exact ⟨ret_int HW.out, rfl⟩

end Go.Proofs.YtkkbeobocbgmeaaGreat
