/- The law SpanTwice of chapter 4 answers true for every span and every two ints: cut at two places, in whatever order, a span has the same three parts; cut again where it was cut nothing more is cut off. -/
import Derived.Test.YtlllgpadifpbkaaLawSpanRuns
import Derived.Test.YtlllgpadifpbkaaSpanIs
import Derived.Test.YtlllgpadifpbkaaMathS3
import Derived.Deep.DeepCutAuto
namespace Go.Proofs.Ytlllgpadifpbkaa
open Go.RowKit M

/-- what a cut's call answers, its parts told by letters -/
def CutAt (a b t p q r s : Int) : Prop := ∀ w : World, Calls Try.prog 8 #[spanV a b, .int .i64 t] w fun e w' => e = .returned (.tuple #[spanV p q, spanV r s]) ∧ Jk w w'
theorem cutAt {a b t p q r s : Int} (a1 : -9223372036854775808 ≤ a) (b2 : b ≤ 9223372036854775807) (t1 : -9223372036854775808 ≤ t) (t2 : t ≤ 9223372036854775807)
    (h1 : lLo a b t = p) (h2 : lHi a b t = q) (h3 : uLo a b t = r) (h4 : uHi a b t = s) : CutAt a b t p q r s := by
  subst h1 h2 h3 h4
  exact fun w => cut_any a b t w a1 b2 t1 t2

theorem CutAt.on {a b t p q r s : Int} (h : CutAt a b t p q r s) (w : World) : Calls Try.prog 8 #[spanV a b, .int .i64 t] w fun e w' => e = .returned (.tuple #[spanV p q, spanV r s]) ∧ Jk w w' := h w

set_option maxRecDepth 100000 in
set_option maxHeartbeats 1600000 in
theorem spanTwice_walk (x y a b : Int) (w1 : (Lit.int .i64 x).wf = true) (w2 : (Lit.int .i64 y).wf = true) (w3 : (Lit.int .i64 a).wf = true) (w4 : (Lit.int .i64 b).wf = true) (w : World) :
    Calls Try.prog 7 #[spanV x y, .int .i64 a, .int .i64 b] w fun e w' => e = .returned (.bool true) ∧ Jk w w' := by
  obtain ⟨x1, x2⟩ := bdi w1
  obtain ⟨y1, y2⟩ := bdi w2
  obtain ⟨a1, a2⟩ := bdi w3
  obtain ⟨b1, b2⟩ := bdi w4
  clear w1 w2 w3 w4
  have J := rules40
  go_enter Try.func7, Try.ntmps7
  go_upto_region 1 with fail
  go_cut [7, 8] (fun o o' wc => ∃ m n : Int, m ≤ n ∧ -9223372036854775808 ≤ m ∧ n ≤ 9223372036854775807 ∧ o = .int .i64 m ∧ o' = .int .i64 n ∧ wc = w.alloc (.cells #[.int .i64 x, .int .i64 y] 23))
  case first =>
    go_wp2
    all_goals
      go_meet
      case rel => exact ⟨_, _, by omega, by omega, by omega, rfl, rfl, rfl⟩
  case rest =>
    obtain ⟨m, n, h, m1, n2, rfl, rfl, rfl⟩ := hcut
    clear a1 a2 b1 b2
    have m2 : m ≤ 9223372036854775807 := by omega
    have n1 : -9223372036854775808 ≤ n := by omega
    have T := cut_twice x y m n h
    have A := cut_again x y m
    have I := cut_in x y m n
    have bm := cut_bd x1 x2 y1 y2 m1 m2
    have bn := cut_bd x1 x2 y1 y2 n1 n2
    have C1 : Hid (CutAt x y m (lLo x y m) (lHi x y m) (uLo x y m) (uHi x y m)) := cutAt x1 y2 m1 m2 rfl rfl rfl rfl
    have C2 : Hid (CutAt (uLo x y m) (uHi x y m) n (lLo (uLo x y m) (uHi x y m) n) (lHi (uLo x y m) (uHi x y m) n) (uLo x y n) (uHi x y n)) := cutAt (by omega) (by omega) n1 n2 rfl rfl T.2.2.2.2.1 T.2.2.2.2.2
    have C3 : Hid (CutAt x y n (lLo x y n) (lHi x y n) (uLo x y n) (uHi x y n)) := cutAt x1 y2 n1 n2 rfl rfl rfl rfl
    have C4 : Hid (CutAt (lLo x y n) (lHi x y n) m (lLo x y m) (lHi x y m) (lLo (uLo x y m) (uHi x y m) n) (lHi (uLo x y m) (uHi x y m) n)) := cutAt (by omega) (by omega) m1 m2 T.1 T.2.1 T.2.2.1 T.2.2.2.1
    have C5 : Hid (CutAt (lLo x y m) (lHi x y m) m (lLo (lLo x y m) (lHi x y m) m) (lHi (lLo x y m) (lHi x y m) m) (uLo (lLo x y m) (lHi x y m) m) (uHi (lLo x y m) (lHi x y m) m)) := cutAt (by omega) (by omega) m1 m2 rfl rfl rfl rfl
    clear T bm bn x1 x2 y1 y2 m1 m2 n1 n2 h
    generalize lLo (lLo x y m) (lHi x y m) m = i1 at *
    generalize lHi (lLo x y m) (lHi x y m) m = i2 at *
    generalize uLo (lLo x y m) (lHi x y m) m = k1 at *
    generalize uHi (lLo x y m) (lHi x y m) m = k2 at *
    generalize lLo (uLo x y m) (uHi x y m) n = e1 at *
    generalize lHi (uLo x y m) (uHi x y m) n = e2 at *
    generalize lLo x y m = p at *
    generalize lHi x y m = q at *
    generalize uLo x y m = r at *
    generalize uHi x y m = s at *
    generalize lLo x y n = g1 at *
    generalize lHi x y n = g2 at *
    generalize uLo x y n = f1 at *
    generalize uHi x y n = f2 at *
    obtain ⟨A1, A2⟩ := A
    obtain ⟨E, hE⟩ : ∃ E, emB p q = E := ⟨_, rfl⟩
    rw [hE] at A1
    have A3 : E = true ∨ E = false ∧ i1 = p ∧ i2 = q := by
      cases E
      · exact .inr ⟨rfl, by simpa using A1⟩
      · exact .inl rfl
    clear A1
    rcases A3 with rfl | ⟨rfl, rfl, rfl⟩
    all_goals
      go_wp2_with (first | (go_at_call 8; refine (CutAt.on (by with_reducible first | exact C1.out | exact C2.out | exact C3.out | exact C4.out | exact C5.out) _).mono ?_; rintro e w1 ⟨rfl, Y, rfl⟩) | (go_at_call 12; refine (empty_any _ _ _).mono ?_; rintro e w1 ⟨rfl, Y, rfl⟩; simp only [hE, A2]) | (go_at_call 13; refine (within_span _ _ _ _ _).mono ?_; rintro e w1 ⟨rfl, Y, rfl⟩; simp only [I]) | (go_at_call 3; refine (spanRuns_any _).mono ?_; rintro e w1 ⟨rfl, Y, rfl⟩))
      go_ret
      exact ⟨rfl, by repeat (with_reducible first | exact Jk.refl _ | apply Jk.junk | apply Jk.alloc)⟩

end Go.Proofs.Ytlllgpadifpbkaa
