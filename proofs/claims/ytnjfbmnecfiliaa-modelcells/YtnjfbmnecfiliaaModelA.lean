/- What hasClass, rightBiases, rightTrees and Right of package model answer. -/
import Derived.Test.YtnjfbmnecfiliaaRowsM
namespace Go.Proofs.Ytnjfbmnecfiliaa
open Go.RowKit M

def hasB (k c : Int) : Bool := decide (0 ≤ c) && decide (c < k)
theorem hasB_iff {k c : Int} : hasB k c = true ↔ 0 ≤ c ∧ c < k := by simp [hasB]
theorem has_ans (d k b0 b1 b2 : Int) (a : Option Addr) (n c' : Nat) (c : Int) : Ans 26 #[.agg #[.int .i64 d, .int .i64 k, .int .i64 b0, .int .i64 b1, .int .i64 b2, .slice a n c'], .int .i64 c] (.bool (hasB k c)) := fun w => by
  have J := rules8
  by_cases h1 : 0 ≤ c
  · by_cases h2 : c < k
    · have e : hasB k c = true := hasB_iff.2 ⟨h1, h2⟩
      rw [e]; clear e
      go_enter Try.func26, Try.ntmps26
      go_wp2
      go_ret
      exact ⟨rfl, (Jk.refl w).alloc _⟩
    · have e : hasB k c = false := by simp [hasB]; omega
      rw [e]; clear e
      go_enter Try.func26, Try.ntmps26
      go_wp2
      go_ret
      exact ⟨rfl, (Jk.refl w).alloc _⟩
  · have e : hasB k c = false := by simp [hasB]; omega
    rw [e]; clear e
    go_enter Try.func26, Try.ntmps26
    go_wp2
    go_ret
    exact ⟨rfl, (Jk.refl w).alloc _⟩
theorem has_is {k c : Int} {b : Bool} (h : hasB k c = b) (d b0 b1 b2 : Int) (a : Option Addr) (n c' : Nat) : Ans 26 #[.agg #[.int .i64 d, .int .i64 k, .int .i64 b0, .int .i64 b1, .int .i64 b2, .slice a n c'], .int .i64 c] (.bool b) := h ▸ has_ans d k b0 b1 b2 a n c' c
theorem fits_is {n : Int} {b : Bool} (h : fit32 n = b) : Ans 41 #[.int .i64 n, .int .i64 32] (.bool b) := h ▸ fits_ans

theorem bx0 (x y z : Int) (w : World) : (Instr.index 22 (.agg #[.int .i64 x, .int .i64 y, .int .i64 z]) (.int .i64 0)).run Try.prog w = .ok (.int .i64 x) w := by kernel_rfl
theorem bx1 (x y z : Int) (w : World) : (Instr.index 22 (.agg #[.int .i64 x, .int .i64 y, .int .i64 z]) (.int .i64 1)).run Try.prog w = .ok (.int .i64 y) w := by kernel_rfl
theorem bx2 (x y z : Int) (w : World) : (Instr.index 22 (.agg #[.int .i64 x, .int .i64 y, .int .i64 z]) (.int .i64 2)).run Try.prog w = .ok (.int .i64 z) w := by kernel_rfl

set_option maxRecDepth 100000 in
set_option maxHeartbeats 1600000 in
theorem biases_ans {d k b0 b1 b2 : Int} {a : Option Addr} {n c : Nat} {b : Bool} (hb : b = true ↔ BiasP k b0 b1 b2) : Ans 24 #[.agg #[.int .i64 d, .int .i64 k, .int .i64 b0, .int .i64 b1, .int .i64 b2, .slice a n c]] (.bool b) := fun w => by
  have J := rules8
  obtain ⟨f0, e0⟩ : ∃ f, fit32 b0 = f := ⟨_, rfl⟩
  obtain ⟨f1, e1⟩ : ∃ f, fit32 b1 = f := ⟨_, rfl⟩
  obtain ⟨f2, e2⟩ : ∃ f, fit32 b2 = f := ⟨_, rfl⟩
  obtain ⟨g0, q0⟩ : ∃ f, hasB k 0 = f := ⟨_, rfl⟩
  obtain ⟨g1, q1⟩ : ∃ f, hasB k 1 = f := ⟨_, rfl⟩
  obtain ⟨g2, q2⟩ : ∃ f, hasB k 2 = f := ⟨_, rfl⟩
  have F0 := hid (fits_is e0)
  have F1 := hid (fits_is e1)
  have F2 := hid (fits_is e2)
  have G0 := hid (has_is q0 d b0 b1 b2 a n c)
  have G1 := hid (has_is q1 d b0 b1 b2 a n c)
  have G2 := hid (has_is q2 d b0 b1 b2 a n c)
  have n0 : g0 = true ↔ ¬ k ≤ 0 := by rw [← q0, hasB_iff]; omega
  have n1 : g1 = true ↔ ¬ k ≤ 1 := by rw [← q1, hasB_iff]; omega
  have n2 : g2 = true ↔ ¬ k ≤ 2 := by rw [← q2, hasB_iff]; omega
  have HB : Hid (b = true ↔ (f0 = true ∧ f1 = true ∧ f2 = true) ∧ (g0 = false → b0 = 0) ∧ (g1 = false → b1 = 0) ∧ (g2 = false → b2 = 0)) := by
    show b = true ↔ _
    rw [hb, BiasP, e0, e1, e2]
    have m0 : g0 = false ↔ k ≤ 0 := by cases g0 <;> simp_all
    have m1 : g1 = false ↔ k ≤ 1 := by cases g1 <;> simp_all
    have m2 : g2 = false ↔ k ≤ 2 := by cases g2 <;> simp_all
    rw [m0, m1, m2]
  clear e0 e1 e2 q0 q1 q2 n0 n1 n2 hb
  obtain ⟨w0, hw0⟩ : ∃ w0, w.alloc (.cells #[.int .i64 d, .int .i64 k, .int .i64 b0, .int .i64 b1, .int .i64 b2, .slice a n c] 29) = w0 := ⟨_, rfl⟩
  have HI : Hid (MdIn w0 w.heap.size ⟨d, k, b0, b1, b2, a, n, c, []⟩) := hw0 ▸ MdIn.laid w ⟨d, k, b0, b1, b2, a, n, c, []⟩ _
  have H0 : Hid (Jk w w0) := hw0 ▸ (Jk.refl w).alloc _
  have hc0 : w0.cell? ⟨w.heap.size, 2, none⟩ = some (.int .i64 b0) := HI.out.2.2.2.1
  have hc1 : w0.cell? ⟨w.heap.size, 3, none⟩ = some (.int .i64 b1) := HI.out.2.2.2.2.1
  have hc2 : w0.cell? ⟨w.heap.size, 4, none⟩ = some (.int .i64 b2) := HI.out.2.2.2.2.2.1
  have x0 := bx0
  have x1 := bx1
  have x2 := bx2
  go_enter Try.func24, Try.ntmps24
  go_wp2
  go_loopg [7] 3 (fun r i wr => ∃ j : Nat, j + r = 3 ∧ i = .int .i64 (j : Int) ∧ Hid ((0 < j → f0 = true ∧ (g0 = false → b0 = 0)) ∧ (1 < j → f1 = true ∧ (g1 = false → b1 = 0)) ∧ (2 < j → f2 = true ∧ (g2 = false → b2 = 0))) ∧ Hid (Jk w0 wr))
  case atStart => exact ⟨0, by omega, rfl, hid ⟨fun h => by omega, fun h => by omega, fun h => by omega⟩, hid (Jk.refl _)⟩
  case round =>
    obtain ⟨j, hj, rfl, HP, HJ⟩ := hrel
    clear hc0 hc1 hc2
    obtain ⟨s1, c0, c1, c2, c3, c4, c5⟩ := HI.out.jk HJ.out
    simp only at c0 c1 c2 c3 c4 c5
    have hj3 : j = 3 ∨ j = 0 ∨ j = 1 ∨ j = 2 := by omega
    rcases hj3 with rfl | rfl | rfl | rfl
    · have hbt : true = b := (HB.out.2 (by have := HP.out; simp at this; grind)).symm
      subst hbt
      go_wp2
      refine bodyPost_ret (v := .bool true) (by simp [results, Try.results24, go_sem]) rfl ⟨rfl, H0.out.trans HJ.out⟩
    · cases f0
      · obtain rfl : false = b := (Bool.eq_false_iff.2 fun e => by have := HB.out.1 e; simp at this).symm
        go_wp2_with (first | (go_at_call 41; refine (F0.out.on _).mono ?_; rintro e w1 ⟨rfl, X1, rfl⟩) | (go_at_call 26; refine (G0.out.on _).mono ?_; rintro e w1 ⟨rfl, X2, rfl⟩))
        go_ret
        refine ⟨rfl, ?_⟩
        repeat (with_reducible first | exact (H0.out.trans HJ.out) | apply Jk.junk | apply Jk.alloc)
      · cases g0
        · by_cases hz : b0 = 0
          · subst hz
            go_wp2_with (first | (go_at_call 41; refine (F0.out.on _).mono ?_; rintro e w1 ⟨rfl, X1, rfl⟩) | (go_at_call 26; refine (G0.out.on _).mono ?_; rintro e w1 ⟨rfl, X2, rfl⟩))
            go_roundg 2
            case measure => omega
            case rel => exact ⟨1, by omega, by go_num, hid (by have := HP.out; simp at this ⊢ <;> grind), by repeat (with_reducible first | exact HJ | apply hid | exact HJ.out | apply Jk.junk | apply Jk.alloc)⟩
          · have hz2 : (b0 == 0) = false := by simpa using hz
            obtain rfl : false = b := (Bool.eq_false_iff.2 fun e => by have := HB.out.1 e; simp at this; grind).symm
            go_wp2_with (first | (go_at_call 41; refine (F0.out.on _).mono ?_; rintro e w1 ⟨rfl, X1, rfl⟩) | (go_at_call 26; refine (G0.out.on _).mono ?_; rintro e w1 ⟨rfl, X2, rfl⟩))
            go_ret
            refine ⟨rfl, ?_⟩
            repeat (with_reducible first | exact (H0.out.trans HJ.out) | apply Jk.junk | apply Jk.alloc)
        · go_wp2_with (first | (go_at_call 41; refine (F0.out.on _).mono ?_; rintro e w1 ⟨rfl, X1, rfl⟩) | (go_at_call 26; refine (G0.out.on _).mono ?_; rintro e w1 ⟨rfl, X2, rfl⟩))
          go_roundg 2
          case measure => omega
          case rel => exact ⟨1, by omega, by go_num, hid (by have := HP.out; simp at this ⊢ <;> grind), by repeat (with_reducible first | exact HJ | apply hid | exact HJ.out | apply Jk.junk | apply Jk.alloc)⟩
    · cases f1
      · obtain rfl : false = b := (Bool.eq_false_iff.2 fun e => by have := HB.out.1 e; simp at this).symm
        go_wp2_with (first | (go_at_call 41; refine (F1.out.on _).mono ?_; rintro e w1 ⟨rfl, X1, rfl⟩) | (go_at_call 26; refine (G1.out.on _).mono ?_; rintro e w1 ⟨rfl, X2, rfl⟩))
        go_ret
        refine ⟨rfl, ?_⟩
        repeat (with_reducible first | exact (H0.out.trans HJ.out) | apply Jk.junk | apply Jk.alloc)
      · cases g1
        · by_cases hz : b1 = 0
          · subst hz
            go_wp2_with (first | (go_at_call 41; refine (F1.out.on _).mono ?_; rintro e w1 ⟨rfl, X1, rfl⟩) | (go_at_call 26; refine (G1.out.on _).mono ?_; rintro e w1 ⟨rfl, X2, rfl⟩))
            go_roundg 1
            case measure => omega
            case rel => exact ⟨2, by omega, by go_num, hid (by have := HP.out; simp at this ⊢ <;> grind), by repeat (with_reducible first | exact HJ | apply hid | exact HJ.out | apply Jk.junk | apply Jk.alloc)⟩
          · have hz2 : (b1 == 0) = false := by simpa using hz
            obtain rfl : false = b := (Bool.eq_false_iff.2 fun e => by have := HB.out.1 e; simp at this; grind).symm
            go_wp2_with (first | (go_at_call 41; refine (F1.out.on _).mono ?_; rintro e w1 ⟨rfl, X1, rfl⟩) | (go_at_call 26; refine (G1.out.on _).mono ?_; rintro e w1 ⟨rfl, X2, rfl⟩))
            go_ret
            refine ⟨rfl, ?_⟩
            repeat (with_reducible first | exact (H0.out.trans HJ.out) | apply Jk.junk | apply Jk.alloc)
        · go_wp2_with (first | (go_at_call 41; refine (F1.out.on _).mono ?_; rintro e w1 ⟨rfl, X1, rfl⟩) | (go_at_call 26; refine (G1.out.on _).mono ?_; rintro e w1 ⟨rfl, X2, rfl⟩))
          go_roundg 1
          case measure => omega
          case rel => exact ⟨2, by omega, by go_num, hid (by have := HP.out; simp at this ⊢ <;> grind), by repeat (with_reducible first | exact HJ | apply hid | exact HJ.out | apply Jk.junk | apply Jk.alloc)⟩
    · cases f2
      · obtain rfl : false = b := (Bool.eq_false_iff.2 fun e => by have := HB.out.1 e; simp at this).symm
        go_wp2_with (first | (go_at_call 41; refine (F2.out.on _).mono ?_; rintro e w1 ⟨rfl, X1, rfl⟩) | (go_at_call 26; refine (G2.out.on _).mono ?_; rintro e w1 ⟨rfl, X2, rfl⟩))
        go_ret
        refine ⟨rfl, ?_⟩
        repeat (with_reducible first | exact (H0.out.trans HJ.out) | apply Jk.junk | apply Jk.alloc)
      · cases g2
        · by_cases hz : b2 = 0
          · subst hz
            go_wp2_with (first | (go_at_call 41; refine (F2.out.on _).mono ?_; rintro e w1 ⟨rfl, X1, rfl⟩) | (go_at_call 26; refine (G2.out.on _).mono ?_; rintro e w1 ⟨rfl, X2, rfl⟩))
            go_roundg 0
            case measure => omega
            case rel => exact ⟨3, by omega, by go_num, hid (by have := HP.out; simp at this ⊢ <;> grind), by repeat (with_reducible first | exact HJ | apply hid | exact HJ.out | apply Jk.junk | apply Jk.alloc)⟩
          · have hz2 : (b2 == 0) = false := by simpa using hz
            obtain rfl : false = b := (Bool.eq_false_iff.2 fun e => by have := HB.out.1 e; simp at this; grind).symm
            go_wp2_with (first | (go_at_call 41; refine (F2.out.on _).mono ?_; rintro e w1 ⟨rfl, X1, rfl⟩) | (go_at_call 26; refine (G2.out.on _).mono ?_; rintro e w1 ⟨rfl, X2, rfl⟩))
            go_ret
            refine ⟨rfl, ?_⟩
            repeat (with_reducible first | exact (H0.out.trans HJ.out) | apply Jk.junk | apply Jk.alloc)
        · go_wp2_with (first | (go_at_call 41; refine (F2.out.on _).mono ?_; rintro e w1 ⟨rfl, X1, rfl⟩) | (go_at_call 26; refine (G2.out.on _).mono ?_; rintro e w1 ⟨rfl, X2, rfl⟩))
          go_roundg 0
          case measure => omega
          case rel => exact ⟨3, by omega, by go_num, hid (by have := HP.out; simp at this ⊢ <;> grind), by repeat (with_reducible first | exact HJ | apply hid | exact HJ.out | apply Jk.junk | apply Jk.alloc)⟩

end Go.Proofs.Ytnjfbmnecfiliaa
