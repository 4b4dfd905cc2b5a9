/- The law BoxRuns of chapter 5 answers true: its walk through the Go text, by the contracts of package box. -/
import Derived.Test.YtdmkaaehpcnpfaaBoxC
import Derived.Test.YtdmkaaehpcnpfaaBoxD1
import Derived.Test.YtdmkaaehpcnpfaaBoxS
import Derived.Test.YtdmkaaehpcnpfaaBoxE
namespace Go.Proofs.Ytdmkaaehpcnpfaa
open Go.RowKit Go.Maps M

theorem runs_whole : Bx.whole 2 ⟨1, 9⟩ = ⟨⟨1, 9⟩, ⟨1, 9⟩, ⟨0, 0⟩, ⟨0, 0⟩, ⟨0, 0⟩⟩ := by simp [Bx.whole, Sp.nil]
theorem runs_cut : Sp.low ⟨1, 9⟩ 4 = ⟨1, 4⟩ ∧ Sp.upp ⟨1, 9⟩ 4 = ⟨5, 9⟩ := by
  constructor <;> rfl
theorem runs_ok : Bx.ok ⟨⟨1, 9⟩, ⟨1, 9⟩, ⟨0, 0⟩, ⟨0, 0⟩, ⟨0, 0⟩⟩ := by simp [Bx.ok, Sp.ok, I64]
abbrev runsB : Bx := ⟨⟨1, 9⟩, ⟨1, 9⟩, ⟨0, 0⟩, ⟨0, 0⟩, ⟨0, 0⟩⟩
theorem whole_runs (w : World) : Calls Try.prog 9 #[.int .i64 2, .agg #[.int .i64 1, .int .i64 9]] w fun e w' => e = .returned (boxV runsB) ∧ Jk w w' := by
  have h := whole_any 2 ⟨1, 9⟩ w
  rwa [runs_whole] at h
theorem cut_runs (w : World) : Calls Try.prog 10 #[boxV runsB, .int .i64 1, .int .i64 4] w fun e w' => e = .returned (.tuple #[boxV ⟨⟨1, 9⟩, ⟨1, 4⟩, ⟨0, 0⟩, ⟨0, 0⟩, ⟨0, 0⟩⟩, boxV ⟨⟨1, 9⟩, ⟨5, 9⟩, ⟨0, 0⟩, ⟨0, 0⟩, ⟨0, 0⟩⟩]) ∧ Jk w w' := by
  have h := cut_1 runsB 4 w (by decide) (by decide) (by decide) (by decide)
  rwa [runs_cut.1, runs_cut.2] at h

set_option maxRecDepth 100000 in
set_option maxHeartbeats 1600000 in
theorem boxRuns_any (w : World) : Calls Try.prog 3 #[] w fun e w' => e = .returned (.bool true) ∧ Jk w w' := by
  have J := rules8
  obtain ⟨kl, hkl⟩ := key_box runsB runs_ok
  have HK : Hid (keyOf Try.prog 25 (boxV runsB) = some kl) := hkl
  clear hkl
  have hmm := @run_makeMap Try.prog
  have q0 : ∀ w : World, (Op.equalIn 10000 25 (.agg #[.int .i64 1, .int .i64 9, .int .i64 1, .int .i64 9, .int .i64 0, .int .i64 0, .int .i64 0, .int .i64 0, .int .i64 0, .int .i64 0]) (.agg #[.int .i64 1, .int .i64 9, .int .i64 1, .int .i64 9, .int .i64 0, .int .i64 0, .int .i64 0, .int .i64 0, .int .i64 0, .int .i64 0])).run Try.prog w = .ok true w := fun w => eq_box runsB runsB w
  have q1 : ∀ w : World, (Op.equalIn 10000 25 (.agg #[.int .i64 1, .int .i64 9, .int .i64 1, .int .i64 4, .int .i64 0, .int .i64 0, .int .i64 0, .int .i64 0, .int .i64 0, .int .i64 0]) (.agg #[.int .i64 1, .int .i64 9, .int .i64 1, .int .i64 4, .int .i64 0, .int .i64 0, .int .i64 0, .int .i64 0, .int .i64 0, .int .i64 0])).run Try.prog w = .ok true w := fun w => eq_box ⟨⟨1, 9⟩, ⟨1, 4⟩, ⟨0, 0⟩, ⟨0, 0⟩, ⟨0, 0⟩⟩ ⟨⟨1, 9⟩, ⟨1, 4⟩, ⟨0, 0⟩, ⟨0, 0⟩, ⟨0, 0⟩⟩ w
  have q2 : ∀ w : World, (Op.equalIn 10000 25 (.agg #[.int .i64 1, .int .i64 9, .int .i64 5, .int .i64 9, .int .i64 0, .int .i64 0, .int .i64 0, .int .i64 0, .int .i64 0, .int .i64 0]) (.agg #[.int .i64 1, .int .i64 9, .int .i64 5, .int .i64 9, .int .i64 0, .int .i64 0, .int .i64 0, .int .i64 0, .int .i64 0, .int .i64 0])).run Try.prog w = .ok true w := fun w => eq_box ⟨⟨1, 9⟩, ⟨5, 9⟩, ⟨0, 0⟩, ⟨0, 0⟩, ⟨0, 0⟩⟩ ⟨⟨1, 9⟩, ⟨5, 9⟩, ⟨0, 0⟩, ⟨0, 0⟩, ⟨0, 0⟩⟩ w
  go_enter Try.func3, Try.ntmps3
  go_wp2_with (first | (go_at_call 9; refine (whole_runs _).mono ?_; rintro e w1 ⟨rfl, X1, rfl⟩) | (go_at_call 10; refine (cut_runs _).mono ?_; rintro e w1 ⟨rfl, X2, rfl⟩))
  go_at_call 11
  refine (sadd_any runsB kl _ 0 (.map []) 0 _ HK.out (cnt_made _ _ (by simp [junk_size])) (by decide) (at_none kl) (by decide) (by decide)).mono ?_
  rintro e w1 ⟨rfl, hown1, hg1⟩
  have hj1 : Jk ((junk w X1).alloc (boxC runsB)) w1 := by
    refine Jk.grown (by repeat (with_reducible first | exact Jk.refl _ | apply Jk.junk | apply Jk.alloc)) hg1 ?_
    simp [junk_size]
    omega
  have hcells := box_cells (x := runsB) ((hj1.heap (k := w.heap.size + Jn X1) (by simp [junk_size])).trans (by rw [← junk_size w X1]; exact heap_new _ _))
  have HJ : Hid (Jk w w1) := ((((Jk.refl w).junk X1).alloc _).trans hj1)
  have HO : Hid (Cnt w1 (w.heap.size + Jn X1 + 1 + Jn X2 + 1 + 1) 1 (DataW.put (.map []) kl (.lit (.int .i64 1)))) := hown1
  clear hown1 hg1 hj1
  go_wp2_with fail
  go_at_call 11
  refine (sadd_any runsB kl _ 1 _ 1 _ HK.out HO.out (by decide) (atKey_put_same isMap_empty (lawBox.key HK.out) _ _) (by decide) (by decide)).mono ?_
  rintro e w2 ⟨rfl, _, hg2⟩
  have HJ2 : Hid (Jk w w2) := HJ.out.grown hg2 (by omega)
  clear hg2
  go_wp2_with fail
  go_ret
  exact ⟨rfl, HJ2.out⟩

theorem boxRuns_walk (w : World) : Calls Try.prog 3 #[] w fun e w' => e = .returned (.bool true) ∧ Jk w w' := boxRuns_any w

end Go.Proofs.Ytdmkaaehpcnpfaa
