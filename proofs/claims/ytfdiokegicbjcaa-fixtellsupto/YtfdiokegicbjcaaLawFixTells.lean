/- The law FixTells of chapter 2 answers true for any two ints and any list of no more than 1048576 ints: each answer is the document's own. -/
import Derived.Test.YtfdiokegicbjcaaLawFixRuns
import Derived.Test.YtfdiokegicbjcaaRefFix
import Derived.OpenShut
import Derived.Below
import Derived.Deep.DeepCutAuto
namespace Go.Proofs.Ytfdiokegicbjcaa
open Go.RowKit M

def IsInts (k : IntKind) (w : World) (a : Option Addr) (len cap : Nat) (zs : List Int) : Prop :=
  (a = none ∧ len = 0 ∧ cap = 0 ∧ zs = []) ∨
  ∃ x, a = some x ∧ len ≤ cap ∧ cap ≤ maxLen ∧ zs.length = cap ∧ (∀ i, i < zs.length → w.cell? (x.add i) = some (.int k (zs.getD i 0))) ∧ ∀ n ∈ zs, (Lit.int k n).wf = true

/-- a slice that has an element -/
theorem IsInts.open {w : World} {a : Option Addr} {len cap : Nat} {zs : List Int} (h : IsInts .i64 w a len cap zs) (hl : 0 < len) :
    ∃ b off, a = some ⟨b, off, none⟩ ∧ b < w.heap.size ∧ len ≤ 9223372036854775807 ∧ (∀ i, i < len → w.cell? ⟨b, off + i, none⟩ = some (.int .i64 (nth zs i)) ∧ -9223372036854775808 ≤ nth zs i ∧ nth zs i ≤ 9223372036854775807) := by
  rcases h with ⟨_, h0, _⟩ | ⟨x, rfl, h1, h2, h3, h4, h5⟩
  · omega
  · obtain ⟨b, off, rfl, hc⟩ := ints_at h4 (by omega)
    have h0 := hc 0 (by omega)
    have hlt := World.block_lt_of_cell? w _ h0
    refine ⟨b, off, rfl, hlt, by unfold maxLen at h2; omega, fun i hi => ⟨hc i (by omega), ?_⟩⟩
    have hm : nth zs i ∈ zs := by
      have : i < zs.length := by omega
      simp [nth, List.getElem?_eq_getElem this]
    exact bdi (h5 _ hm)

set_option maxRecDepth 100000 in
set_option maxHeartbeats 1600000 in
theorem fixTells_walk (a b : Int) (a2 : Option Addr) (len2 cap2 : Nat) (z2 : List Int) (w : World) (ha : (Lit.int .i64 a).wf = true) (hb : (Lit.int .i64 b).wf = true) (w2 : IsInts .i64 w a2 len2 cap2 z2) (hs : cap2 ≤ 1048576) :
    Calls Try.prog 4 #[.int .i64 a, .int .i64 b, .slice a2 len2 cap2] w fun e w' => e = .returned (.bool true) ∧ Below w.heap.size w w' := by
  obtain ⟨a1, a2'⟩ := bdi ha
  obtain ⟨b1, b2⟩ := bdi hb
  clear ha hb
  have hlc : len2 ≤ cap2 := by
    rcases w2 with ⟨_, h, _⟩ | ⟨_, _, h, _⟩ <;> omega
  have o1 := ok_yes a1 a2'
  have o2 : okB (-1 - b) = true := ok_yes (by omega) (by omega)
  have o3 : okB 1 = true := by decide
  have es : a + (-1 - b) + 1 = a - b := by omega
  obtain ⟨x, hx⟩ : ∃ x, valI (a + b) = x := ⟨_, rfl⟩
  obtain ⟨p, hp⟩ : ∃ p, okB (a + b) = p := ⟨_, rfl⟩
  obtain ⟨u, hu⟩ : ∃ u, valI (a - b) = u := ⟨_, rfl⟩
  obtain ⟨t, ht⟩ : ∃ t, okB (a - b) = t := ⟨_, rfl⟩
  by_cases hz : 0 < len2
  · obtain ⟨k, off, rfl, lt, hm, hc⟩ := w2.open hz
    obtain ⟨m, hm⟩ : ∃ m, valI (sumTo z2 len2) = m := ⟨_, rfl⟩
    obtain ⟨r, hr⟩ : ∃ r, okB (sumTo z2 len2) = r := ⟨_, rfl⟩
    clear w2 hz
    go_enter Try.func4, Try.ntmps4
    go_upto_region 6 with (first
      | (go_at_call 8; refine (add_any _ _ _ a1 a2' b1 b2).mono ?_; rintro e w' ⟨rfl, hw⟩; obtain rfl := hw.symm; simp only [hx, hp])
      | (go_at_call 11; refine (radd_any _ _ _ a1 a2' b1 b2).mono ?_; rintro e w' ⟨rfl, hw⟩; obtain rfl := hw.symm; simp only [hx, hp])
      | (go_at_call 13; refine (sub_any _ _ _ a1 a2' b1 b2).mono ?_; rintro e w' ⟨rfl, hw⟩; obtain rfl := hw.symm; simp only [hu, ht])
      | (go_at_call 9; refine (sum_at k off len2 cap2 z2 _ (by omega) hc).mono ?_; rintro e w' ⟨rfl, hw⟩; obtain rfl := hw.symm; simp only [hm, hr])
      | (go_at_call 12; refine (rsum_at k off len2 cap2 z2 _ (by omega) hc).mono ?_; rintro e w' ⟨rfl, hw⟩; obtain rfl := hw.symm; simp only [hm, hr]))
    go_upto_region 7 with (go_at_call 12; refine (rsum_new3 a (-1 - b) 1 _ _ o1 o2 o3).mono ?_; rintro e w' ⟨rfl, hw⟩; obtain rfl := hw.symm; simp only [es, hu, ht])
    go_wp2_with (go_at_call 3; refine (fruns_any _).mono ?_; rintro e w' ⟨rfl, cs, rfl⟩)
    go_ret
    exact ⟨rfl, ((Below.refl _ _).alloc (Nat.le_refl _) _).alloc (by simp) _⟩
  · obtain rfl : len2 = 0 := by omega
    clear w2 hz
    go_enter Try.func4, Try.ntmps4
    go_upto_region 6 with (first
      | (go_at_call 8; refine (add_any _ _ _ a1 a2' b1 b2).mono ?_; rintro e w' ⟨rfl, hw⟩; obtain rfl := hw.symm; simp only [hx, hp])
      | (go_at_call 11; refine (radd_any _ _ _ a1 a2' b1 b2).mono ?_; rintro e w' ⟨rfl, hw⟩; obtain rfl := hw.symm; simp only [hx, hp])
      | (go_at_call 13; refine (sub_any _ _ _ a1 a2' b1 b2).mono ?_; rintro e w' ⟨rfl, hw⟩; obtain rfl := hw.symm; simp only [hu, ht])
      | (go_at_call 9; refine (sum_none a2 cap2 _).mono ?_; rintro e w' ⟨rfl, hw⟩; obtain rfl := hw.symm; skip)
      | (go_at_call 12; refine (rsum_none a2 cap2 _).mono ?_; rintro e w' ⟨rfl, hw⟩; obtain rfl := hw.symm; skip))
    go_upto_region 7 with (go_at_call 12; refine (rsum_new3 a (-1 - b) 1 _ _ o1 o2 o3).mono ?_; rintro e w' ⟨rfl, hw⟩; obtain rfl := hw.symm; simp only [es, hu, ht])
    go_wp2_with (go_at_call 3; refine (fruns_any _).mono ?_; rintro e w' ⟨rfl, cs, rfl⟩)
    go_ret
    exact ⟨rfl, ((Below.refl _ _).alloc (Nat.le_refl _) _).alloc (by simp) _⟩

end Go.Proofs.Ytfdiokegicbjcaa
