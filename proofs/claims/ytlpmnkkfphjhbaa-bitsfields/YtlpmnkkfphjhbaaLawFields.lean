/- The law BitsFields of chapter 1 answers true for every argument: what is put into a field is got there, other fields stay, and put back the word is as it was. -/
import Derived.Test.YtlpmnkkfphjhbaaWithin
namespace Go.Proofs.Ytlpmnkkfphjhbaa
open Go.RowKit M

theorem bitsFields_walk (a0 : Int) (a1 : Int) (a2 : Int) (a3 : Int) (a4 : Int) (a5 : Int) (w0 : (Lit.int .u64 a0).wf = true) (w1 : (Lit.int .u64 a1).wf = true) (w2 : (Lit.int .i64 a2).wf = true) (w3 : (Lit.int .i64 a3).wf = true) (w4 : (Lit.int .i64 a4).wf = true) (w5 : (Lit.int .i64 a5).wf = true) (w : World) :
    Calls Try.prog 5 #[.int .u64 a0, .int .u64 a1, .int .i64 a2, .int .i64 a3, .int .i64 a4, .int .i64 a5] w fun e w' => e = .returned (.bool true) ∧ Grown w w' := by
  obtain ⟨u1, u2⟩ := bdu w0
  obtain ⟨u3, u4⟩ := bdu w1
  obtain ⟨i1, i2⟩ := bdi w2
  obtain ⟨i3, i4⟩ := bdi w3
  obtain ⟨i5, i6⟩ := bdi w4
  obtain ⟨i7, i8⟩ := bdi w5
  clear w0 w1 w2 w3 w4 w5
  obtain ⟨p, hp⟩ : ∃ p, withinI a2 0 63 = p := ⟨_, rfl⟩
  obtain ⟨p1, p2⟩ : 0 ≤ p ∧ p ≤ 63 := hp ▸ within_bd a2 0 63 (by omega)
  obtain ⟨k, hk⟩ : ∃ k, withinI a3 1 (64 - p) = k := ⟨_, rfl⟩
  obtain ⟨k1, k2⟩ : 1 ≤ k ∧ k ≤ 64 - p := hk ▸ within_bd a3 1 (64 - p) (by omega)
  obtain ⟨q, hq⟩ : ∃ q, withinI a4 0 63 = q := ⟨_, rfl⟩
  obtain ⟨q1, q2⟩ : 0 ≤ q ∧ q ≤ 63 := hq ▸ within_bd a4 0 63 (by omega)
  obtain ⟨j, hj⟩ : ∃ j, withinI a5 1 (64 - q) = j := ⟨_, rfl⟩
  obtain ⟨j1, j2⟩ : 1 ≤ j ∧ j ≤ 64 - q := hj ▸ within_bd a5 1 (64 - q) (by omega)
  have hf : fieldB p k = true := (field_iff p k).2 (by omega)
  have hg : fieldB q j = true := (field_iff q j).2 (by omega)
  have e1 := get_put a0 a1 p k hf
  have e2 := put_back a0 a1 p k hf u1
  have e3 : getI a0 64 1 = 0 := get_none _ _ _ (by decide)
  have e4 : getI a0 (-1) 1 = 0 := get_none _ _ _ (by decide)
  have e5 : putI a0 p (65 - p) a1 = a0 := put_none _ _ _ _ (by simp [fieldB])
  have e6 := get_all a0 u1 u2
  obtain ⟨y1, y2⟩ := putI_bd a0 p k a1 u1 u2
  obtain ⟨y3, y4⟩ := getI_bd' a0 p k
  by_cases hd : q + j ≤ p ∨ p + k ≤ q
  · have e7 := get_other a0 a1 p k q j hf hg hd
    clear hf hg
    rcases hd with hd | hd
    all_goals
      go_enter Try.func5, Try.ntmps5
      go_wp2_with (first
        | (go_at_call 21; refine (within_any _ _ _ _ ?_ ?_ ?_ ?_ ?_).mono ?_; assumption; assumption; omega; omega; omega; rintro e w' ⟨rfl, rfl⟩)
        | (go_at_call 16; refine (get_any _ _ _ _ ?_ ?_).mono ?_; assumption; assumption; rintro e w' ⟨rfl, n, rfl⟩)
        | (go_at_call 9; refine (put_any _ _ _ _ _ ?_ ?_ ?_ ?_).mono ?_; assumption; assumption; assumption; assumption; rintro e w' ⟨rfl, n, rfl⟩)
        | (go_at_call 3; refine (runs_any _).mono ?_; rintro e w' ⟨rfl, n, rfl⟩))
      go_ret
      exact ⟨rfl, grown_drewN _ _⟩
  · clear hf hg
    have d1 : ¬ q + j ≤ p := by omega
    have d2 : ¬ p + k ≤ q := by omega
    clear hd
    go_enter Try.func5, Try.ntmps5
    go_wp2_with (first
      | (go_at_call 21; refine (within_any _ _ _ _ ?_ ?_ ?_ ?_ ?_).mono ?_; assumption; assumption; omega; omega; omega; rintro e w' ⟨rfl, rfl⟩)
      | (go_at_call 16; refine (get_any _ _ _ _ ?_ ?_).mono ?_; assumption; assumption; rintro e w' ⟨rfl, n, rfl⟩)
      | (go_at_call 9; refine (put_any _ _ _ _ _ ?_ ?_ ?_ ?_).mono ?_; assumption; assumption; assumption; assumption; rintro e w' ⟨rfl, n, rfl⟩)
      | (go_at_call 3; refine (runs_any _).mono ?_; rintro e w' ⟨rfl, n, rfl⟩))
    go_ret
    exact ⟨rfl, grown_drewN _ _⟩

end Go.Proofs.Ytlpmnkkfphjhbaa
