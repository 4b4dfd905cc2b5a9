/- The law FixShifts of chapter 2 answers true for every two ints: shifted up and down again it is the same; up is twice for each; down is a half; what can't be is told. -/
import Derived.Test.YtfdiokegicbjcaaLawFixRuns
import Derived.Test.YtfdiokegicbjcaaWithinB
import Derived.Deep.DeepCutAuto
import Derived.Deep.CutBlock
namespace Go.Proofs.Ytfdiokegicbjcaa
open Go.RowKit M

set_option maxRecDepth 100000 in
set_option maxHeartbeats 1600000 in
theorem fixShifts_walk (n b : Int) (hn : (Lit.int .i64 n).wf = true) (hb : (Lit.int .i64 b).wf = true) (w : World) :
    Calls Try.prog 6 #[.int .i64 n, .int .i64 b] w fun e w' => e = .returned (.bool true) ∧ Grown w w' := by
  obtain ⟨n1, n2⟩ := bdi hn
  obtain ⟨b1, b2⟩ := bdi hb
  clear hn hb
  obtain ⟨k, hk⟩ : ∃ k, withinI b 0 70 = k := ⟨_, rfl⟩
  obtain ⟨k1, k2⟩ : 0 ≤ k ∧ k ≤ 70 := hk ▸ within_bd b 0 70 (by omega)
  obtain ⟨K, rfl⟩ := Int.eq_ofNat_of_zero_le k1
  clear k1
  obtain ⟨hx, hp⟩ := sh_up n K
  obtain ⟨hd, hD⟩ := sh_dn n K n1 n2
  obtain ⟨hf, hF⟩ := sh_far n (-9223372036854775808) (by omega)
  have hg := sh_great n 9223372036854775807 (by omega) n1 n2
  obtain ⟨X, hX⟩ : ∃ X, valI (n * 2 ^ K) = X := ⟨_, rfl⟩
  obtain ⟨P, hP⟩ : ∃ P, okB (n * 2 ^ K) = P := ⟨_, rfl⟩
  obtain ⟨Y, hY⟩ : ∃ Y, shV X (-(K : Int)) = Y := ⟨_, rfl⟩
  obtain ⟨Q, hQ⟩ : ∃ Q, shOk X (-(K : Int)) = Q := ⟨_, rfl⟩
  rw [hX] at hx
  rw [hP] at hp
  have F1 : Aside (P = true → Y = n ∧ Q = true) := by
    intro h
    rw [← hP] at h
    have := sh_back n K h
    rw [hX, hY, hQ] at this
    exact this
  have F2 : Aside (P = false → X = 0) := by
    intro h
    rw [← hP] at h
    rw [← hX]
    exact val_no (no_of h)
  obtain ⟨x1, x2⟩ : -9223372036854775808 ≤ X ∧ X ≤ 9223372036854775807 := hX ▸ val_bd (n * 2 ^ K)
  have HX : Hid (valI (n * 2 ^ K) = X) := hX
  have HP : Hid (okB (n * 2 ^ K) = P) := hP
  clear hX hP
  go_enter Try.func6, Try.ntmps6
  go_upto_block 0 with (first
    | (go_at_call 15; refine (within_any _ _ _ _ ?_ ?_ ?_ ?_ ?_).mono ?_; assumption; assumption; omega; omega; omega; rintro e w' ⟨rfl, hw⟩; obtain rfl := hw.symm; simp only [hk])
    | (go_at_call 10; refine (shift_any _ _ _ ?_ ?_ ?_ ?_).mono ?_; assumption; assumption; omega; omega; rintro e w' ⟨rfl, hw⟩; obtain rfl := hw.symm; simp only [hx, hp]))
  go_cut [8, 9] (fun wt cn wc => wt = .int .i64 X ∧ cn = .bool P ∧ wc = w)
  case first =>
    clear F1 F2 hd hD hf hF hg
    go_wp2_with fail
    go_loopg [8, 9, 10] K (fun k wt cn i wr => ∃ j : Nat, j + k = K ∧ i = .int .i64 (j : Int) ∧ wt = .int .i64 (valI (n * 2 ^ j)) ∧ cn = .bool (okB (n * 2 ^ j)) ∧ wr = w)
    case atStart => exact ⟨0, by omega, rfl, by simp [val_yes n1 n2], by simp [ok_yes n1 n2], rfl⟩
    case round =>
      obtain ⟨j, hj, rfl, rfl, rfl, hw⟩ := hrel
      obtain rfl := hw.symm
      by_cases hlt : j < K
      · cases ho : okB (n * 2 ^ j) with
        | true =>
          obtain ⟨y1, y2⟩ := val_bd (n * 2 ^ j)
          have ht := twice_step n j ho
          go_wp2_with (go_at_call 8; refine (add_any _ _ _ ?_ ?_ ?_ ?_).mono ?_; assumption; assumption; assumption; assumption; rintro e w' ⟨rfl, hw⟩; obtain rfl := hw.symm; simp only [ht])
          go_roundg (gk - 1)
          case measure => omega
          case rel => exact ⟨j + 1, by omega, by go_num, rfl, rfl, rfl⟩
        | false =>
          have hv : valI (n * 2 ^ j) = 0 := val_no (no_of ho)
          have HK : Hid (okB (n * 2 ^ K) = false) := told_least n j K (by omega) ho
          rw [hv]
          go_wp2_with fail
          go_meet
          case rel => exact ⟨by rw [← HX.out, val_no (no_of HK.out)], by rw [← HP.out, HK.out], rfl⟩
      · have e : j = K := by omega
        subst e
        go_wp2_with fail
        go_meet
        case rel => exact ⟨by rw [← HX.out], by rw [← HP.out], rfl⟩
  case rest =>
    obtain ⟨rfl, rfl, rfl⟩ := hcut
    go_upto_region 8 with fail
    go_cut [62] (fun o wc' => o = .bool false ∧ wc' = wc)
    case first =>
      cases P with
      | true =>
        go_wp2_with fail
        go_meet
        case rel => exact ⟨rfl, rfl⟩
      | false =>
        have hv := F2.out rfl
        subst hv
        go_wp2_with fail
        go_meet
        case rel => exact ⟨rfl, rfl⟩
    case rest =>
      obtain ⟨rfl, rfl⟩ := hcut
      go_upto_region 11 with (go_at_call 10; refine (shift_any _ _ _ ?_ ?_ ?_ ?_).mono ?_; assumption; assumption; omega; omega; rintro e w' ⟨rfl, hw⟩; obtain rfl := hw.symm; simp only [hY, hQ])
      go_cut [79] (fun o wc'' => o = .bool false ∧ wc'' = wc)
      case first =>
        cases P with
        | true =>
          obtain ⟨g1, g2⟩ := F1.out rfl
          subst g1 g2
          go_wp2_with fail
          go_meet
          case rel => exact ⟨rfl, rfl⟩
        | false =>
          go_wp2_with fail
          go_meet
          case rel => exact ⟨rfl, rfl⟩
      case rest =>
        obtain ⟨rfl, rfl⟩ := hcut
        clear F1 F2
        go_wp2_with (go_at_call 10; refine (shift_any _ _ _ ?_ ?_ ?_ ?_).mono ?_; assumption; assumption; omega; omega; rintro e w' ⟨rfl, hw⟩; obtain rfl := hw.symm; simp only [hd, hD])
        go_loopg [15, 16] K (fun k h i wr => ∃ j : Nat, j + k = K ∧ i = .int .i64 (j : Int) ∧ h = .int .i64 (n / 2 ^ j) ∧ wr = wc)
        case atStart => exact ⟨0, by omega, rfl, by simp, rfl⟩
        case round =>
          obtain ⟨j, hj, rfl, rfl, hw⟩ := hrel
          obtain rfl := hw.symm
          by_cases hlt : j < K
          · have hs := half_step n j
            go_wp2_with fail
            go_roundg (gk - 1)
            case measure => omega
            case rel => exact ⟨j + 1, by omega, by go_num, rfl, rfl⟩
          · have e : j = K := by omega
            subst e
            go_wp2_with (first
              | (go_at_call 10; refine (shift_any _ _ _ ?_ ?_ ?_ ?_).mono ?_; assumption; assumption; omega; omega; rintro e w' ⟨rfl, hw⟩; obtain rfl := hw.symm; simp only [hf, hF, hg])
              | (go_at_call 3; refine (fruns_any _).mono ?_; rintro e w' ⟨rfl, cs, rfl⟩))
            go_ret
            exact ⟨rfl, (Grown.refl _).alloc _ _⟩

end Go.Proofs.Ytfdiokegicbjcaa
