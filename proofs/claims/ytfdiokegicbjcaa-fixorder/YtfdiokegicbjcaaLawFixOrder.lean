/- The law FixOrder of chapter 2 answers true for every three ints: sums rise with what is added; the opposite of a sum is the sum of opposites. -/
import Derived.Test.YtfdiokegicbjcaaLawFixRuns
import Derived.Deep.DeepCutAuto
namespace Go.Proofs.Ytfdiokegicbjcaa
open Go.RowKit M

set_option maxRecDepth 100000 in
set_option maxHeartbeats 1600000 in
theorem fixOrder_walk (a b c : Int) (ha : (Lit.int .i64 a).wf = true) (hb : (Lit.int .i64 b).wf = true) (hc : (Lit.int .i64 c).wf = true) (w : World) :
    Calls Try.prog 7 #[.int .i64 a, .int .i64 b, .int .i64 c] w fun e w' => e = .returned (.bool true) ∧ Grown w w' := by
  obtain ⟨a1, a2⟩ := bdi ha
  obtain ⟨b1, b2⟩ := bdi hb
  obtain ⟨c1, c2⟩ := bdi hc
  clear ha hb hc
  obtain ⟨x, hx⟩ : ∃ x, valI (a + c) = x := ⟨_, rfl⟩
  obtain ⟨y, hy⟩ : ∃ y, valI (b + c) = y := ⟨_, rfl⟩
  obtain ⟨p, hp⟩ : ∃ p, okB (a + c) = p := ⟨_, rfl⟩
  obtain ⟨q, hq⟩ : ∃ q, okB (b + c) = q := ⟨_, rfl⟩
  obtain ⟨d, hd⟩ : ∃ d, valI (0 - a) = d := ⟨_, rfl⟩
  obtain ⟨e, he⟩ : ∃ e, valI (0 - b) = e := ⟨_, rfl⟩
  obtain ⟨r, hr⟩ : ∃ r, okB (0 - a) = r := ⟨_, rfl⟩
  obtain ⟨s, hs⟩ : ∃ s, okB (0 - b) = s := ⟨_, rfl⟩
  obtain ⟨d1, d2⟩ : -9223372036854775808 ≤ d ∧ d ≤ 9223372036854775807 := hd ▸ val_bd _
  obtain ⟨e1, e2⟩ : -9223372036854775808 ≤ e ∧ e ≤ 9223372036854775807 := he ▸ val_bd _
  obtain ⟨u, hu⟩ : ∃ u, valI (a + b) = u := ⟨_, rfl⟩
  obtain ⟨t, ht⟩ : ∃ t, okB (a + b) = t := ⟨_, rfl⟩
  obtain ⟨v, hv⟩ : ∃ v, valI (d + e) = v := ⟨_, rfl⟩
  obtain ⟨z, hz⟩ : ∃ z, okB (d + e) = z := ⟨_, rfl⟩
  have F1 : Aside (p = true → q = true → (a < b ↔ x < y)) := by
    intro hp' hq'
    subst hp' hq'
    rw [val_yes (ok_of hp).1 (ok_of hp).2] at hx
    rw [val_yes (ok_of hq).1 (ok_of hq).2] at hy
    omega
  have F2 : Aside ((a = -9223372036854775808 → r = false) ∧ (a ≠ -9223372036854775808 → r = true ∧ d = -a) ∧ (b = -9223372036854775808 → s = false) ∧ (b ≠ -9223372036854775808 → s = true ∧ e = -b)) := by
    subst hd he hr hs
    refine ⟨fun h => ok_no (by omega), fun h => ⟨ok_yes (by omega) (by omega), ?_⟩, fun h => ok_no (by omega), fun h => ⟨ok_yes (by omega) (by omega), ?_⟩⟩
    · rw [val_yes (by omega) (by omega)]; omega
    · rw [val_yes (by omega) (by omega)]; omega
  have F3 : Aside (a ≠ -9223372036854775808 → b ≠ -9223372036854775808 → t = true → u ≠ -9223372036854775808 → z = true ∧ v = -u ∧ -9223372036854775807 ≤ u ∧ u ≤ 9223372036854775807) := by
    intro h1 h2 h3 h4
    obtain ⟨-, g2, -, g4⟩ := F2.out
    obtain ⟨-, g2⟩ := g2 h1
    obtain ⟨-, g4⟩ := g4 h2
    subst h3
    rw [val_yes (ok_of ht).1 (ok_of ht).2] at hu
    have := ok_of ht
    refine ⟨hz ▸ ok_yes (by omega) (by omega), ?_, by omega, by omega⟩
    rw [← hv, val_yes (by omega) (by omega)]; omega
  go_enter Try.func7, Try.ntmps7
  go_upto_region 3 with (first | (go_at_call 8; refine (add_any _ _ _ ?_ ?_ ?_ ?_).mono ?_; assumption; assumption; assumption; assumption; rintro e w' ⟨rfl, hw⟩; obtain rfl := hw.symm; simp only [hx, hy, hp, hq]))
  go_cut [43] (fun o wc => o = .bool false ∧ wc = w)
  case first =>
    cases p
    · go_wp2
      go_meet
      case rel => exact ⟨rfl, rfl⟩
    · cases q
      · go_wp2
        go_meet
        case rel => exact ⟨rfl, rfl⟩
      · by_cases hl : a < b
        · have hl' := (F1.out rfl rfl).1 hl
          go_wp2
          go_meet
          case rel => exact ⟨rfl, rfl⟩
        · have hl' : ¬ x < y := fun h => hl ((F1.out rfl rfl).2 h)
          go_wp2
          go_meet
          case rel => exact ⟨rfl, rfl⟩
  case rest =>
    obtain ⟨rfl, rfl⟩ := hcut
    clear F1
    go_upto_region 7 with (first | (go_at_call 13; refine (sub_any _ _ _ ?_ ?_ ?_ ?_).mono ?_; omega; omega; assumption; assumption; rintro e w' ⟨rfl, hw⟩; obtain rfl := hw.symm; simp only [hd, he, hr, hs]))
    go_cut [66] (fun o wc' => o = .bool false ∧ wc' = wc)
    case first =>
      by_cases hm : a = -9223372036854775808
      · have hr' := F2.out.1 hm
        subst hr'
        subst hm
        go_wp2
        go_meet
        case rel => exact ⟨rfl, rfl⟩
      · obtain ⟨hr', hd'⟩ := F2.out.2.1 hm
        subst hr'
        subst hd'
        have hm2 : (a != -9223372036854775808) = true := by simpa using hm
        go_wp2
        go_meet
        case rel => exact ⟨rfl, rfl⟩
    case rest =>
      obtain ⟨rfl, rfl⟩ := hcut
      by_cases hA : a ≠ -9223372036854775808 ∧ b ≠ -9223372036854775808 ∧ t = true ∧ u ≠ -9223372036854775808
      · obtain ⟨k1, k2, k3, k4⟩ := hA
        obtain ⟨z1, v1, w1, w2⟩ := F3.out k1 k2 k3 k4
        obtain ⟨r1, -⟩ := F2.out.2.1 k1
        obtain ⟨s1, -⟩ := F2.out.2.2.2 k2
        subst r1 s1 k3 z1 v1
        have k4' : (u == -9223372036854775808) = false := by simpa using k4
        clear F2 F3
        go_wp2_with (first | (go_at_call 8; refine (add_any _ _ _ ?_ ?_ ?_ ?_).mono ?_; assumption; assumption; assumption; assumption; rintro e w' ⟨rfl, hw⟩; obtain rfl := hw.symm; simp only [hu, ht, hv, hz]) | (go_at_call 3; refine (fruns_any _).mono ?_; rintro e w' ⟨rfl, cs, rfl⟩))
        go_ret
        exact ⟨rfl, (Grown.refl _).alloc _ _⟩
      · have hB : r = false ∨ r = true ∧ s = false ∨ r = true ∧ s = true ∧ t = false ∨ r = true ∧ s = true ∧ t = true ∧ u = -9223372036854775808 := by
          obtain ⟨g1, g2, g3, g4⟩ := F2.out
          by_cases k1 : a = -9223372036854775808
          · exact .inl (g1 k1)
          · have r1 := (g2 k1).1
            by_cases k2 : b = -9223372036854775808
            · exact .inr (.inl ⟨r1, g3 k2⟩)
            · have s1 := (g4 k2).1
              cases hT : t
              · exact .inr (.inr (.inl ⟨r1, s1, rfl⟩))
              · refine .inr (.inr (.inr ⟨r1, s1, rfl, ?_⟩))
                exact Decidable.byContradiction fun k4 => hA ⟨k1, k2, hT, k4⟩
        clear F2 F3 hA
        rcases hB with rfl | ⟨rfl, rfl⟩ | ⟨rfl, rfl, rfl⟩ | ⟨rfl, rfl, rfl, rfl⟩
        all_goals
          go_wp2_with (first | (go_at_call 8; refine (add_any _ _ _ ?_ ?_ ?_ ?_).mono ?_; assumption; assumption; assumption; assumption; rintro e w' ⟨rfl, hw⟩; obtain rfl := hw.symm; simp only [hu, ht, hv, hz]) | (go_at_call 3; refine (fruns_any _).mono ?_; rintro e w' ⟨rfl, cs, rfl⟩))
          go_ret
          exact ⟨rfl, (Grown.refl _).alloc _ _⟩

end Go.Proofs.Ytfdiokegicbjcaa
