/- What copsekeep's pick answers over a list of ints that lies in memory; Within, in the words of this seat. -/
import Derived.Test.YtkkbeobocbgmeaaGreatRowsM
import Derived.Test.YtkkbeobocbgmeaaGreatWithinB
namespace Go.Proofs.YtkkbeobocbgmeaaGreat
open Go.RowKit M

def pickI (zs : List Int) (i : Nat) : Int := if zs.length = 0 then 0 else wd zs (i % zs.length)
theorem pick_bd {w : World} {a : Option Addr} {n c : Nat} {zs : List Int} (h : IsI w a n c zs) (i : Nat) : -9223372036854775808 ≤ pickI zs i ∧ pickI zs i ≤ 9223372036854775807 := by
  unfold pickI
  split
  · omega
  · rename_i h0
    exact h.bd _ (by rw [← h.len]; exact Nat.mod_lt _ (by omega))
theorem within_is {n lo hi r : Int} (hr : withinI n lo hi = r) (hn1 : -9223372036854775808 ≤ n) (hn2 : n ≤ 9223372036854775807) (h : lo ≤ hi) (h1 : -2305843009213693952 ≤ lo) (h2 : hi ≤ 2305843009213693952) : Ans 7 #[.int .i64 n, .int .i64 lo, .int .i64 hi] (.int .i64 r) := fun w =>
  (within_any n lo hi w hn1 hn2 h h1 h2).mono fun _ _ ⟨e, hw⟩ => ⟨by rw [e, hr], hw ▸ Jk.refl _⟩

set_option maxRecDepth 100000 in
set_option maxHeartbeats 1600000 in
theorem pick_is {w : World} {a : Option Addr} {n c : Nat} {zs : List Int} (h : IsI w a n c zs) (i : Nat) {r : Int} (hr : pickI zs i = r) : AnsW w 18 #[.slice a n c, .int .i64 (i : Int)] (.int .i64 r) := fun w1 hj => by
  have HI := hid (h.jk hj)
  have HR := hid hr
  have hcap := h.cap
  have hmax := h.max
  unfold maxLen at hmax
  clear h hj hr
  by_cases h0 : n = 0
  · subst h0
    have e : (0 : Int) = r := by rw [← HR.out, pickI, if_pos HI.out.len]
    subst e
    go_enter Tryz.func18, Tryz.ntmps18
    go_wp2
    go_ret
    exact ⟨rfl, Jk.refl _⟩
  · obtain ⟨g, o, rfl, hg, hat⟩ := HI.out.lies (by omega)
    obtain ⟨K, hK⟩ : ∃ K, i % n = K := ⟨_, rfl⟩
    have hKn : K < n := hK ▸ Nat.mod_lt _ (by omega)
    have hr2 : wd zs K = r := by rw [← HR.out, pickI, if_neg (by rw [HI.out.len]; exact h0), HI.out.len, hK]
    have hc := hat K (by rw [HI.out.len]; exact hKn)
    rw [hr2] at hc
    have hm : (i : Int).tmod (n : Int) = (K : Int) := by
      rw [← Int.ofNat_tmod, hK]
    have hm2 : (i : Int) % (n : Int) = (K : Int) := by
      rw [← Int.natCast_emod, hK]
    have hn0 : (0 : Int) < (n : Int) := by omega
    have hn1 : ¬ (n : Int) = 0 := by omega
    have hn2 : ((n : Int) == 0) = false := by simpa using hn1
    have hKn2 : (K : Int) < (n : Int) := by omega
    have hK0 : (0 : Int) ≤ (K : Int) := by omega
    clear hat HR hr2 hK
    go_enter Tryz.func18, Tryz.ntmps18
    go_wp2
    go_ret
    exact ⟨rfl, Jk.refl _⟩

end Go.Proofs.YtkkbeobocbgmeaaGreat
