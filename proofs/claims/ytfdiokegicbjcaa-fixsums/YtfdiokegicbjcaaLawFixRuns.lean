/- The law FixRuns of chapter 2 answers true: its walk through the Go text, by the contracts of package fix. -/
import Derived.Test.YtfdiokegicbjcaaFix
namespace Go.Proofs.Ytfdiokegicbjcaa
open Go.RowKit M

/-- the sum of a list that was made just now -/
theorem sum_new3 (a b c : Int) (cap : Nat) (w : World) (ha : okB a = true) (hb : okB b = true) (hc : okB c = true) :
    Calls Try.prog 9 #[.slice (some ⟨w.heap.size, 0, none⟩) 3 cap] (w.alloc (.cells #[.int .i64 a, .int .i64 b, .int .i64 c] 3)) fun e w' =>
      e = .returned (.tuple #[.int .i64 (valI (a + b + c)), .bool (okB (a + b + c))]) ∧ w' = w.alloc (.cells #[.int .i64 a, .int .i64 b, .int .i64 c] 3) := by
  have h := sum_at w.heap.size 0 3 cap [a, b, c] (w.alloc (.cells #[.int .i64 a, .int .i64 b, .int .i64 c] 3)) (by decide) ?_
  · have e : sumTo [a, b, c] 3 = a + b + c := by simp [sumTo, nth]
    rw [e] at h
    exact h
  · intro i hi
    have h1 := ok_of ha
    have h2 := ok_of hb
    have h3 := ok_of hc
    rw [World.cell?_alloc_at _ _ _ _ rfl]
    have : i = 0 ∨ i = 1 ∨ i = 2 := by omega
    rcases this with rfl | rfl | rfl
    · exact ⟨rfl, h1.1, h1.2⟩
    · exact ⟨rfl, h2.1, h2.2⟩
    · exact ⟨rfl, h3.1, h3.2⟩

theorem q1 : okB 9223372036854775808 = false := by decide +kernel
theorem q2 : shV 3 2 = 12 ∧ shOk 3 2 = true := by decide +kernel
theorem q3 : shV (-3) (-1) = -2 ∧ shOk (-3) (-1) = true := by decide +kernel
theorem q4 : shOk 1 63 = false := by decide +kernel
theorem q5 : shV (-1) 63 = -9223372036854775808 ∧ shOk (-1) 63 = true := by decide +kernel
theorem q6 : shV 0 99 = 0 ∧ shOk 0 99 = true := by decide +kernel
theorem q7 : valI 9223372036854775807 = 9223372036854775807 ∧ okB 9223372036854775807 = true := by decide +kernel

theorem fruns_any (w : World) : Calls Try.prog 3 #[] w fun e w' => e = .returned (.bool true) ∧ ∃ c, w' = w.alloc (.cells c 3) := by
  have e1 := q1
  obtain ⟨e2, e2'⟩ := q2
  obtain ⟨e3, e3'⟩ := q3
  have e4 := q4
  obtain ⟨e5, e5'⟩ := q5
  obtain ⟨e6, e6'⟩ := q6
  obtain ⟨e7, e7'⟩ := q7
  go_enter Try.func3, Try.ntmps3
  go_wp2_with (first | (go_at_call 8; refine (add_any _ _ _ (by omega) (by omega) (by omega) (by omega)).mono ?_; rintro e w' ⟨rfl, rfl⟩) | (go_at_call 10; refine (shift_any _ _ _ (by omega) (by omega) (by omega) (by omega)).mono ?_; rintro e w' ⟨rfl, rfl⟩) | (go_at_call 9; refine (sum_new3 _ _ _ _ _ rfl rfl rfl).mono ?_; rintro e w' ⟨rfl, rfl⟩))
  go_ret
  exact ⟨rfl, _, rfl⟩

theorem fixRuns_walk (w : World) : Calls Try.prog 3 #[] w fun e w' => e = .returned (.bool true) ∧ Grown w w' :=
  (fruns_any w).mono fun _ _ ⟨he, c, hw⟩ => ⟨he, hw ▸ (Grown.refl w).alloc c 3⟩

end Go.Proofs.Ytfdiokegicbjcaa
