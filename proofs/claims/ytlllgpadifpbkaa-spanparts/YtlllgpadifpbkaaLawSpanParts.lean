/- The law SpanParts of chapter 4 answers true for every span and every two ints: what is in a span is in one part of its cut, the lower one up to the cut; parts that have nothing are the same; the parts are within. -/
import Derived.Test.YtlllgpadifpbkaaLawSpanRuns
import Derived.Test.YtlllgpadifpbkaaSpanIs
import Derived.Deep.DeepCutAuto
namespace Go.Proofs.Ytlllgpadifpbkaa
open Go.RowKit M

set_option maxRecDepth 100000 in
set_option maxHeartbeats 1600000 in
theorem spanParts_walk (x y t n : Int) (w1 : (Lit.int .i64 x).wf = true) (w2 : (Lit.int .i64 y).wf = true) (w3 : (Lit.int .i64 t).wf = true) (_w4 : (Lit.int .i64 n).wf = true) (w : World) :
    Calls Try.prog 4 #[spanV x y, .int .i64 t, .int .i64 n] w fun e w' => e = .returned (.bool true) ∧ Jk w w' := by
  obtain ⟨x1, x2⟩ := bdi w1
  obtain ⟨y1, y2⟩ := bdi w2
  obtain ⟨t1, t2⟩ := bdi w3
  clear w1 w2 w3
  have F1 := l_has x y t n
  have F2 := u_has x y t n
  have F3 : Aside (emB (lLo x y t) (lHi x y t) = true → lLo x y t = 1 ∧ lHi x y t = 0) := l_one x y t
  have F4 : Aside (emB (uLo x y t) (uHi x y t) = true → uLo x y t = 1 ∧ uHi x y t = 0) := u_one x y t
  have F5 := l_in x y t
  have F6 := u_in x y t
  have F7 := lu_none x y t
  have J := rules20
  have HC : Hid (∀ w, Calls Try.prog 8 #[spanV x y, .int .i64 t] w fun e w' => e = .returned (.tuple #[spanV (lLo x y t) (lHi x y t), spanV (uLo x y t) (uHi x y t)]) ∧ Jk w w') := fun w => cut_any x y t w x1 y2 t1 t2
  clear x1 x2 y1 y2 t1 t2
  generalize lLo x y t = p at *
  generalize lHi x y t = q at *
  generalize uLo x y t = r at *
  generalize uHi x y t = s at *
  go_enter Try.func4, Try.ntmps4
  go_upto_region 2 with (first | (go_at_call 8; refine (HC.out _).mono ?_; rintro e w1 ⟨rfl, X1, rfl⟩))
  clear HC
  go_cut [9] (fun o wc => o = .bool (hasB x y n) ∧ wc = (((junk (w.alloc (.cells #[.int .i64 x, .int .i64 y] 23)) X1).alloc (.cells #[.int .i64 p, .int .i64 q] 23)).alloc (.cells #[.int .i64 r, .int .i64 s] 23)))
  case first =>
    clear F1 F2 F3 F4 F5 F6 F7
    by_cases h1 : x ≤ n
    · by_cases h2 : n ≤ y
      · have hr : hasB x y n = true := by simp [hasB, h1, h2]
        go_wp2
        go_meet
        case rel => exact ⟨by rw [hr], rfl⟩
      · have hr : hasB x y n = false := by simp [hasB, h2]
        go_wp2
        go_meet
        case rel => exact ⟨by rw [hr], rfl⟩
    · have hr : hasB x y n = false := by simp [hasB, h1]
      go_wp2
      go_meet
      case rel => exact ⟨by rw [hr], rfl⟩
  case rest =>
    obtain ⟨rfl, rfl⟩ := hcut
    obtain ⟨I, hI⟩ : ∃ I, hasB x y n = I := ⟨_, rfl⟩
    rw [hI] at F1 F2
    simp only [hI]
    go_upto_region 3 with fail
    go_cut [54] (fun o wc => o = .bool false ∧ Jk (((junk (w.alloc (.cells #[.int .i64 x, .int .i64 y] 23)) X1).alloc (.cells #[.int .i64 p, .int .i64 q] 23)).alloc (.cells #[.int .i64 r, .int .i64 s] 23)) wc)
    case first =>
      clear F3 F4 F5 F6 F7
      obtain ⟨A, hA⟩ : ∃ A, hasB p q n = A := ⟨_, rfl⟩
      obtain ⟨B, hB⟩ : ∃ B, hasB r s n = B := ⟨_, rfl⟩
      rw [hA] at F1
      rw [hB] at F2
      cases I
      · obtain rfl : A = false := by simpa using F1
        obtain rfl : B = false := by simpa using F2
        clear F1 F2
        go_wp2_with (first | (go_at_call 11; refine (has_any _ _ _ _).mono ?_; rintro e w1 ⟨rfl, Y, rfl⟩; simp only [hI, hA, hB]))
        go_meet
        case rel => exact ⟨rfl, (((Jk.refl _).junk _).junk _).junk _⟩
      · by_cases h3 : n ≤ t
        · have h4 : ¬ t < n := by omega
          obtain rfl : A = true := by simpa [h3] using F1
          obtain rfl : B = false := by simpa [h4] using F2
          clear F1 F2
          go_wp2_with (first | (go_at_call 11; refine (has_any _ _ _ _).mono ?_; rintro e w1 ⟨rfl, Y, rfl⟩; simp only [hI, hA, hB]))
          go_meet
          case rel => exact ⟨rfl, (((Jk.refl _).junk _).junk _).junk _⟩
        · have h4 : t < n := by omega
          obtain rfl : A = false := by simpa [h3] using F1
          obtain rfl : B = true := by simpa [h4] using F2
          clear F1 F2
          go_wp2_with (first | (go_at_call 11; refine (has_any _ _ _ _).mono ?_; rintro e w1 ⟨rfl, Y, rfl⟩; simp only [hI, hA, hB]))
          go_meet
          case rel => exact ⟨rfl, (((Jk.refl _).junk _).junk _).junk _⟩
    case rest =>
      obtain ⟨rfl, X2, rfl⟩ := hcut
      clear F1 F2 hI
      go_upto_region 5 with fail
      go_cut [80] (fun o wc => o = .bool false ∧ Jk (((junk (w.alloc (.cells #[.int .i64 x, .int .i64 y] 23)) X1).alloc (.cells #[.int .i64 p, .int .i64 q] 23)).alloc (.cells #[.int .i64 r, .int .i64 s] 23)) wc)
      case first =>
        clear F5 F6 F7
        have hE : emB x y = decide (y < x) := rfl
        obtain ⟨A, hA⟩ : ∃ A, emB p q = A := ⟨_, rfl⟩
        obtain ⟨B, hB⟩ : ∃ B, emB r s = B := ⟨_, rfl⟩
        cases A
        · cases B
          · clear F3 F4
            refine region_junk (by kernel_rfl) (by kernel_rfl) ?_
            repeat (go_big_quiet_step (first | (go_at_call 12; exact on_junk (empty_is (by with_reducible first | exact hE | exact hA | exact hB)) _) | exact rfl))
            refine wpQuiet_nil ?_
            rintro _ ⟨X, rfl⟩
            go_wp2_with fail
            go_meet
            case rel => exact ⟨rfl, ((Jk.refl _).junk _).junk _⟩
          · obtain ⟨rfl, rfl⟩ := F4.out hB
            clear F3 F4
            refine region_junk (by kernel_rfl) (by kernel_rfl) ?_
            repeat (go_big_quiet_step (first | (go_at_call 12; exact on_junk (empty_is (by with_reducible first | exact hE | exact hA | exact hB)) _) | exact rfl))
            refine wpQuiet_nil ?_
            rintro _ ⟨X, rfl⟩
            go_wp2_with fail
            go_meet
            case rel => exact ⟨rfl, ((Jk.refl _).junk _).junk _⟩
        · obtain ⟨rfl, rfl⟩ := F3.out hA
          cases B
          · clear F3 F4
            refine region_junk (by kernel_rfl) (by kernel_rfl) ?_
            repeat (go_big_quiet_step (first | (go_at_call 12; exact on_junk (empty_is (by with_reducible first | exact hE | exact hA | exact hB)) _) | exact rfl))
            refine wpQuiet_nil ?_
            rintro _ ⟨X, rfl⟩
            go_wp2_with fail
            go_meet
            case rel => exact ⟨rfl, ((Jk.refl _).junk _).junk _⟩
          · obtain ⟨rfl, rfl⟩ := F4.out hB
            clear F3 F4
            refine region_junk (by kernel_rfl) (by kernel_rfl) ?_
            repeat (go_big_quiet_step (first | (go_at_call 12; exact on_junk (empty_is (by with_reducible first | exact hE | exact hA | exact hB)) _) | exact rfl))
            refine wpQuiet_nil ?_
            rintro _ ⟨X, rfl⟩
            go_wp2_with fail
            go_meet
            case rel => exact ⟨rfl, ((Jk.refl _).junk _).junk _⟩
      case rest =>
        obtain ⟨rfl, X3, rfl⟩ := hcut
        clear F3 F4
        go_wp2_with (first | (go_at_call 13; refine (within_span _ _ _ _ _).mono ?_; rintro e w1 ⟨rfl, Y, rfl⟩; simp only [F5, F6]) | (go_at_call 10; refine (meet_any _ _ _ _ _).mono ?_; rintro e w1 ⟨rfl, Y, rfl⟩) | (go_at_call 12; refine (empty_any _ _ _).mono ?_; rintro e w1 ⟨rfl, Y, rfl⟩; simp only [F7]) | (go_at_call 3; refine (spanRuns_any _).mono ?_; rintro e w1 ⟨rfl, Y, rfl⟩))
        go_ret
        refine ⟨rfl, ?_⟩
        repeat (with_reducible first | exact Jk.refl _ | apply Jk.junk | apply Jk.alloc)

end Go.Proofs.Ytlllgpadifpbkaa
