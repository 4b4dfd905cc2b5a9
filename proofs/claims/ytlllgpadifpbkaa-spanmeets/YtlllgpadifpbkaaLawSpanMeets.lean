/- The law SpanMeets of chapter 4 answers true for every three spans and every int: what is in two spans is in where they meet; in whatever order they meet; one is within another just if it is where they meet. -/
import Derived.Test.YtlllgpadifpbkaaLawSpanRuns
import Derived.Test.YtlllgpadifpbkaaSpanIs
import Derived.Test.YtlllgpadifpbkaaRefSpan
import Derived.Test.YtlllgpadifpbkaaMathS2
import Derived.Deep.DeepCutAuto
namespace Go.Proofs.Ytlllgpadifpbkaa
open Go.RowKit M

theorem refmeet_is {a b c d u v : Int} (h : mLo a b c d = u ∧ mHi a b c d = v) (w : World) : Calls Try.prog 14 #[spanV a b, spanV c d] w fun e w' => e = .returned (spanV u v) ∧ Jk w w' := by
  obtain ⟨rfl, rfl⟩ := h
  exact refmeet_any a b c d w

set_option maxRecDepth 100000 in
set_option maxHeartbeats 1600000 in
theorem spanMeets_walk (a b c d e f n : Int) (_w1 : (Lit.int .i64 a).wf = true) (_w2 : (Lit.int .i64 b).wf = true) (_w3 : (Lit.int .i64 c).wf = true) (_w4 : (Lit.int .i64 d).wf = true) (_w5 : (Lit.int .i64 e).wf = true) (_w6 : (Lit.int .i64 f).wf = true) (_w7 : (Lit.int .i64 n).wf = true) (w : World) :
    Calls Try.prog 5 #[spanV a b, spanV c d, spanV e f, .int .i64 n] w fun e w' => e = .returned (.bool true) ∧ Jk w w' := by
  clear _w1 _w2 _w3 _w4 _w5 _w6 _w7
  have J := rules20
  have G1 : Aside (hasB (mLo a b c d) (mHi a b c d) n = (hasB a b n && hasB c d n)) := m_has a b c d n
  have G2 : Aside (mLo c d a b = mLo a b c d ∧ mHi c d a b = mHi a b c d) := m_swap a b c d
  have G3 : Aside (mLo (mLo a b c d) (mHi a b c d) e f = mLo a b (mLo c d e f) (mHi c d e f) ∧ mHi (mLo a b c d) (mHi a b c d) e f = mHi a b (mLo c d e f) (mHi c d e f)) := m_thrice a b c d e f
  have G4 : Aside (emB (mLo a b c d) (mHi a b c d) = true → mLo a b c d = 1 ∧ mHi a b c d = 0) := m_one a b c d
  obtain ⟨G5, G6, G7⟩ := m_in a b c d
  have G8 : Aside (inB a b c d = (((mLo a b c d == a) && (mHi a b c d == b)) || emB a b)) := m_same a b c d
  obtain ⟨p, hp⟩ : ∃ p, mLo a b c d = p := ⟨_, rfl⟩
  obtain ⟨q, hq⟩ : ∃ q, mHi a b c d = q := ⟨_, rfl⟩
  rw [hp, hq] at G1 G2 G3 G4 G5 G6 G8
  have HM : Aside (mLo a b c d = p ∧ mHi a b c d = q) := ⟨hp, hq⟩
  clear hp hq
  go_enter Try.func5, Try.ntmps5
  go_upto_region 2 with (first | (go_at_call 10; refine (meet_is HM.out _).mono ?_; rintro e w1 ⟨rfl, X1, rfl⟩))
  go_cut [43] (fun o wc => o = .bool false ∧ Jk ((junk (((w.alloc (.cells #[.int .i64 a, .int .i64 b] 23)).alloc (.cells #[.int .i64 c, .int .i64 d] 23)).alloc (.cells #[.int .i64 e, .int .i64 f] 23)) X1).alloc (.cells #[.int .i64 p, .int .i64 q] 23)) wc)
  case first =>
    clear G4 G5 G6 G7 G8 HM
    obtain ⟨r, hr⟩ : ∃ r, mLo c d e f = r := ⟨_, rfl⟩
    obtain ⟨s, hs⟩ : ∃ s, mHi c d e f = s := ⟨_, rfl⟩
    obtain ⟨u, hu⟩ : ∃ u, mLo p q e f = u := ⟨_, rfl⟩
    obtain ⟨v, hv⟩ : ∃ v, mHi p q e f = v := ⟨_, rfl⟩
    obtain ⟨A, hA⟩ : ∃ A, hasB a b n = A := ⟨_, rfl⟩
    obtain ⟨B, hB⟩ : ∃ B, hasB c d n = B := ⟨_, rfl⟩
    rw [hr, hs, hu, hv] at G3
    rw [hA, hB] at G1
    have H1 : Aside (mLo c d e f = r ∧ mHi c d e f = s) := ⟨hr, hs⟩
    have H2 : Aside (mLo p q e f = u ∧ mHi p q e f = v) := ⟨hu, hv⟩
    have H3 : Aside (mLo a b r s = u ∧ mHi a b r s = v) := ⟨G3.out.1.symm, G3.out.2.symm⟩
    have HA : Aside (hasB a b n = A) := hA
    have HB : Aside (hasB c d n = B) := hB
    have HP : Aside (hasB p q n = (A && B)) := G1
    clear hr hs hu hv hA hB G1 G3
    cases A
    · refine region_junk (by kernel_rfl) (by kernel_rfl) ?_
      repeat (go_big_quiet_step (first | (go_at_call 11; exact on_junk (has_is (by with_reducible first | exact HA.out | exact HB.out | exact HP.out)) _) | (go_at_call 10; exact on_junk (meet_is (by with_reducible first | exact G2.out | exact H1.out | exact H2.out | exact H3.out)) _) | exact rfl))
      refine wpQuiet_nil ?_
      rintro _ ⟨X, rfl⟩
      go_wp2_with fail
      go_meet
      case rel => exact ⟨rfl, (Jk.refl _).junk _⟩
    · cases B
      · refine region_junk (by kernel_rfl) (by kernel_rfl) ?_
        repeat (go_big_quiet_step (first | (go_at_call 11; exact on_junk (has_is (by with_reducible first | exact HA.out | exact HB.out | exact HP.out)) _) | (go_at_call 10; exact on_junk (meet_is (by with_reducible first | exact G2.out | exact H1.out | exact H2.out | exact H3.out)) _) | exact rfl))
        refine wpQuiet_nil ?_
        rintro _ ⟨X, rfl⟩
        go_wp2_with fail
        go_meet
        case rel => exact ⟨rfl, (Jk.refl _).junk _⟩
      · refine region_junk (by kernel_rfl) (by kernel_rfl) ?_
        repeat (go_big_quiet_step (first | (go_at_call 11; exact on_junk (has_is (by with_reducible first | exact HA.out | exact HB.out | exact HP.out)) _) | (go_at_call 10; exact on_junk (meet_is (by with_reducible first | exact G2.out | exact H1.out | exact H2.out | exact H3.out)) _) | exact rfl))
        refine wpQuiet_nil ?_
        rintro _ ⟨X, rfl⟩
        go_wp2_with fail
        go_meet
        case rel => exact ⟨rfl, (Jk.refl _).junk _⟩
  case rest =>
    obtain ⟨rfl, X2, rfl⟩ := hcut
    clear G1 G2 G3
    go_upto_region 4 with fail
    go_cut [68] (fun o wc => o = .bool false ∧ Jk ((junk (((w.alloc (.cells #[.int .i64 a, .int .i64 b] 23)).alloc (.cells #[.int .i64 c, .int .i64 d] 23)).alloc (.cells #[.int .i64 e, .int .i64 f] 23)) X1).alloc (.cells #[.int .i64 p, .int .i64 q] 23)) wc)
    case first =>
      clear G8 HM
      obtain ⟨A, hA⟩ : ∃ A, emB p q = A := ⟨_, rfl⟩
      cases A
      · clear G4
        go_wp2_with (first | (go_at_call 12; refine (empty_any _ _ _).mono ?_; rintro e w1 ⟨rfl, Y, rfl⟩; simp only [hA]) | (go_at_call 13; refine (within_span _ _ _ _ _).mono ?_; rintro e w1 ⟨rfl, Y, rfl⟩; simp only [G5, G6, G7]))
        go_meet
        case rel => exact ⟨rfl, (((((Jk.refl _).junk _).junk _).junk _).junk _).junk _⟩
      · obtain ⟨rfl, rfl⟩ := G4.out hA
        clear G4
        go_wp2_with (first | (go_at_call 12; refine (empty_any _ _ _).mono ?_; rintro e w1 ⟨rfl, Y, rfl⟩; simp only [hA]) | (go_at_call 13; refine (within_span _ _ _ _ _).mono ?_; rintro e w1 ⟨rfl, Y, rfl⟩; simp only [G5, G6, G7]))
        go_meet
        case rel => exact ⟨rfl, (((((Jk.refl _).junk _).junk _).junk _).junk _).junk _⟩
    case rest =>
      obtain ⟨rfl, X3, rfl⟩ := hcut
      clear G4 G5 G6 G7
      go_upto_region 6 with fail
      obtain ⟨I, hI⟩ : ∃ I, inB a b c d = I := ⟨_, rfl⟩
      go_cut [10] (fun o wc => o = .bool I ∧ Jk ((junk (((w.alloc (.cells #[.int .i64 a, .int .i64 b] 23)).alloc (.cells #[.int .i64 c, .int .i64 d] 23)).alloc (.cells #[.int .i64 e, .int .i64 f] 23)) X1).alloc (.cells #[.int .i64 p, .int .i64 q] 23)) wc)
      case first =>
        clear HM
        obtain ⟨E, hE⟩ : ∃ E, emB a b = E := ⟨_, rfl⟩
        rw [hI, hE] at G8
        by_cases h1 : p = a ∧ q = b
        · obtain ⟨rfl, rfl⟩ := h1
          obtain rfl : I = true := by simpa using G8.out
          clear G8
          go_wp2_with fail
          go_meet
          case rel => exact ⟨rfl, by repeat (with_reducible first | exact Jk.refl _ | apply Jk.junk | apply Jk.alloc)⟩
        · have h2 : ((p == a) && (q == b)) = false := by
            cases h : ((p == a) && (q == b))
            · rfl
            · exact absurd (by simpa using h) h1
          have h3 : Aside (I = E) := by
            have := G8.out
            rw [h2, Bool.false_or] at this
            exact this
          clear G8
          by_cases hp : p = a
          · subst hp
            have hq : (q == b) = false := by simpa using h2
            clear h2
            go_wp2_with (first | (go_at_call 12; refine (empty_any _ _ _).mono ?_; rintro e w1 ⟨rfl, Y, rfl⟩; simp only [hE]))
            go_meet
            case rel => exact ⟨by rw [h3.out], by repeat (with_reducible first | exact Jk.refl _ | apply Jk.junk | apply Jk.alloc)⟩
          · have hp' : (p == a) = false := by simpa using hp
            clear h2
            go_wp2_with (first | (go_at_call 12; refine (empty_any _ _ _).mono ?_; rintro e w1 ⟨rfl, Y, rfl⟩; simp only [hE]))
            go_meet
            case rel => exact ⟨by rw [h3.out], by repeat (with_reducible first | exact Jk.refl _ | apply Jk.junk | apply Jk.alloc)⟩
      case rest =>
        obtain ⟨rfl, X4, rfl⟩ := hcut
        have HI : Aside (inB a b c d = I) := hI
        clear G8 hI
        go_upto_region 7 with fail
        refine region_junk (by kernel_rfl) (by kernel_rfl) ?_
        repeat (go_big_quiet_step (first | (go_at_call 13; exact on_junk (within_is HI.out) _) | (go_at_call 14; exact on_junk (refmeet_is HM.out) _) | (go_at_call 3; exact on_junk spanRuns_any _) | exact rfl))
        refine wpQuiet_nil ?_
        rintro _ ⟨X, rfl⟩
        go_wp2_with fail
        go_ret
        refine ⟨rfl, ?_⟩
        repeat (with_reducible first | exact Jk.refl _ | apply Jk.junk | apply Jk.alloc)

end Go.Proofs.Ytlllgpadifpbkaa
