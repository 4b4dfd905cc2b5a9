/- The law BitsTells of chapter 1 answers true for every argument: code and document's own answer have one contract each, in the same words. -/
import Derived.Test.YtlpmnkkfphjhbaaLawRuns
import Derived.Test.YtlpmnkkfphjhbaaRef
namespace Go.Proofs.Ytlpmnkkfphjhbaa
open Go.RowKit M

theorem bd_u64 {a : Int} (h : (Lit.int .u64 a).wf = true) : 0 ≤ a ∧ a ≤ 18446744073709551615 := by
  simpa [Lit.wf, IntKind.min, IntKind.max, IntKind.signed, IntKind.bits] using h
theorem bd_i64 {a : Int} (h : (Lit.int .i64 a).wf = true) : -9223372036854775808 ≤ a ∧ a ≤ 9223372036854775807 := by
  simpa [Lit.wf, IntKind.min, IntKind.max, IntKind.signed, IntKind.bits] using h

theorem bitsTells_walk (a0 : Int) (a1 : Int) (a2 : Int) (a3 : Int) (a4 : Int) (a5 : Int) (w0 : (Lit.int .i64 a0).wf = true) (_w1 : (Lit.int .i64 a1).wf = true) (_w2 : (Lit.int .i64 a2).wf = true) (_w3 : (Lit.int .i64 a3).wf = true) (w4 : (Lit.int .u64 a4).wf = true) (w5 : (Lit.int .u64 a5).wf = true) (w : World) :
    Calls Try.prog 4 #[.int .i64 a0, .int .i64 a1, .int .i64 a2, .int .i64 a3, .int .u64 a4, .int .u64 a5] w fun e w' => e = .returned (.bool true) ∧ Grown w w' := by
  obtain ⟨p1, p2⟩ := bd_i64 w0
  obtain ⟨p3, p4⟩ := bd_u64 w4
  obtain ⟨p5, p6⟩ := bd_u64 w5
  clear w0 w4 w5 _w1 _w2 _w3
  go_enter Try.func4, Try.ntmps4
  go_wp2_with (first
    | (go_at_call 13; refine (fits_any _ _ _).mono ?_; rintro e w' ⟨rfl, rfl⟩)
    | (go_at_call 14; refine (rfits_any _ _ _).mono ?_; rintro e w' ⟨rfl, rfl⟩)
    | (go_at_call 10; refine (wrap_any _ _ _).mono ?_; rintro e w' ⟨rfl, rfl⟩)
    | (go_at_call 15; refine (rwrap_any _ _ _).mono ?_; rintro e w' ⟨rfl, rfl⟩)
    | (go_at_call 16; refine (get_any _ _ _ _ p3 p4).mono ?_; rintro e w' ⟨rfl, n, rfl⟩)
    | (go_at_call 17; refine (rget_any _ _ _ _ p3 p4).mono ?_; rintro e w' ⟨rfl, rfl⟩)
    | (go_at_call 9; refine (put_any _ _ _ _ _ p3 p4 p5 p6).mono ?_; rintro e w' ⟨rfl, n, rfl⟩)
    | (go_at_call 18; refine (rput_any _ _ _ _ _ p3 p4 p5 p6).mono ?_; rintro e w' ⟨rfl, rfl⟩)
    | (go_at_call 11; refine (signed_any _ _ _ _ p3 p4).mono ?_; rintro e w' ⟨rfl, n, rfl⟩)
    | (go_at_call 19; refine (rsigned_any _ _ _ _ p3 p4).mono ?_; rintro e w' ⟨rfl, rfl⟩)
    | (go_at_call 12; refine (round_any _ _ _ p1 p2).mono ?_; rintro e w' ⟨rfl, rfl⟩)
    | (go_at_call 20; refine (rround_any _ _ _ p1 p2).mono ?_; rintro e w' ⟨rfl, rfl⟩)
    | (go_at_call 3; refine (runs_any _).mono ?_; rintro e w' ⟨rfl, n, rfl⟩))
  go_ret
  exact ⟨rfl, grown_drewN _ _⟩

end Go.Proofs.Ytlpmnkkfphjhbaa
