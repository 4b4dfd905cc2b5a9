/- What hasClass, rightBiases, rightTrees and Right of package model answer.
   What rightTrees and Right of package model answer.
   What sum, Eval and Size of package model answer.
   What Eval, Best and Size of package model answer.
   What Best of package model answers. -/
import Derived.Test.YtkkbeobocbgmeaaGreatRowsM
namespace Go.Proofs.YtkkbeobocbgmeaaGreat
open Go.RowKit M

def hasC (k c : Int) : Bool := decide (0 ≤ c) && decide (c < k)
theorem hasC_iff {k c : Int} : hasC k c = true ↔ 0 ≤ c ∧ c < k := by simp [hasC]
theorem hasC_ans (d k b0 b1 b2 : Int) (a : Option Addr) (n c' : Nat) (c : Int) : Ans 53 #[.agg #[.int .i64 d, .int .i64 k, .int .i64 b0, .int .i64 b1, .int .i64 b2, .slice a n c'], .int .i64 c] (.bool (hasC k c)) := fun w => by
  have J := rules8
  by_cases h1 : 0 ≤ c
  · by_cases h2 : c < k
    · have e : hasC k c = true := hasC_iff.2 ⟨h1, h2⟩
      rw [e]; clear e
      go_enter Tryz.func53, Tryz.ntmps53
      go_wp2
      go_ret
      exact ⟨rfl, (Jk.refl w).alloc _⟩
    · have e : hasC k c = false := by simp [hasC]; omega
      rw [e]; clear e
      go_enter Tryz.func53, Tryz.ntmps53
      go_wp2
      go_ret
      exact ⟨rfl, (Jk.refl w).alloc _⟩
  · have e : hasC k c = false := by simp [hasC]; omega
    rw [e]; clear e
    go_enter Tryz.func53, Tryz.ntmps53
    go_wp2
    go_ret
    exact ⟨rfl, (Jk.refl w).alloc _⟩

theorem hasC_is {k c : Int} {b : Bool} (h : hasC k c = b) (d b0 b1 b2 : Int) (a : Option Addr) (n c' : Nat) : Ans 53 #[.agg #[.int .i64 d, .int .i64 k, .int .i64 b0, .int .i64 b1, .int .i64 b2, .slice a n c'], .int .i64 c] (.bool b) := h ▸ hasC_ans d k b0 b1 b2 a n c' c

theorem fits_is {n : Int} {b : Bool} (h : fit32 n = b) : Ans 68 #[.int .i64 n, .int .i64 32] (.bool b) := h ▸ fits_ans

theorem bx0 (x y z : Int) (w : World) : (Instr.index 28 (.agg #[.int .i64 x, .int .i64 y, .int .i64 z]) (.int .i64 0)).run Tryz.prog w = .ok (.int .i64 x) w := by kernel_rfl
theorem bx1 (x y z : Int) (w : World) : (Instr.index 28 (.agg #[.int .i64 x, .int .i64 y, .int .i64 z]) (.int .i64 1)).run Tryz.prog w = .ok (.int .i64 y) w := by kernel_rfl
theorem bx2 (x y z : Int) (w : World) : (Instr.index 28 (.agg #[.int .i64 x, .int .i64 y, .int .i64 z]) (.int .i64 2)).run Tryz.prog w = .ok (.int .i64 z) w := by kernel_rfl

set_option maxRecDepth 100000 in
set_option maxHeartbeats 1600000 in
theorem biases_ans {d k b0 b1 b2 : Int} {a : Option Addr} {n c : Nat} {b : Bool} (hb : b = true ↔ BiasP k b0 b1 b2) : Ans 59 #[.agg #[.int .i64 d, .int .i64 k, .int .i64 b0, .int .i64 b1, .int .i64 b2, .slice a n c]] (.bool b) := fun w => by
  have J := rules8
  obtain ⟨f0, e0⟩ : ∃ f, fit32 b0 = f := ⟨_, rfl⟩
  obtain ⟨f1, e1⟩ : ∃ f, fit32 b1 = f := ⟨_, rfl⟩
  obtain ⟨f2, e2⟩ : ∃ f, fit32 b2 = f := ⟨_, rfl⟩
  obtain ⟨g0, q0⟩ : ∃ f, hasC k 0 = f := ⟨_, rfl⟩
  obtain ⟨g1, q1⟩ : ∃ f, hasC k 1 = f := ⟨_, rfl⟩
  obtain ⟨g2, q2⟩ : ∃ f, hasC k 2 = f := ⟨_, rfl⟩
  have F0 := hid (fits_is e0)
  have F1 := hid (fits_is e1)
  have F2 := hid (fits_is e2)
  have G0 := hid (hasC_is q0 d b0 b1 b2 a n c)
  have G1 := hid (hasC_is q1 d b0 b1 b2 a n c)
  have G2 := hid (hasC_is q2 d b0 b1 b2 a n c)
  have n0 : g0 = true ↔ ¬ k ≤ 0 := by rw [← q0, hasC_iff]; omega
  have n1 : g1 = true ↔ ¬ k ≤ 1 := by rw [← q1, hasC_iff]; omega
  have n2 : g2 = true ↔ ¬ k ≤ 2 := by rw [← q2, hasC_iff]; omega
  have HB : Hid (b = true ↔ (f0 = true ∧ f1 = true ∧ f2 = true) ∧ (g0 = false → b0 = 0) ∧ (g1 = false → b1 = 0) ∧ (g2 = false → b2 = 0)) := by
    show b = true ↔ _
    rw [hb, BiasP, e0, e1, e2]
    have m0 : g0 = false ↔ k ≤ 0 := by cases g0 <;> simp_all
    have m1 : g1 = false ↔ k ≤ 1 := by cases g1 <;> simp_all
    have m2 : g2 = false ↔ k ≤ 2 := by cases g2 <;> simp_all
    rw [m0, m1, m2]
  clear e0 e1 e2 q0 q1 q2 n0 n1 n2 hb
  obtain ⟨w0, hw0⟩ : ∃ w0, w.alloc (.cells #[.int .i64 d, .int .i64 k, .int .i64 b0, .int .i64 b1, .int .i64 b2, .slice a n c] 31) = w0 := ⟨_, rfl⟩
  have HI : Hid (MdIn w0 w.heap.size ⟨d, k, b0, b1, b2, a, n, c, []⟩) := hw0 ▸ MdIn.laid w ⟨d, k, b0, b1, b2, a, n, c, []⟩ _
  have H0 : Hid (Jk w w0) := hw0 ▸ (Jk.refl w).alloc _
  have hc0 : w0.cell? ⟨w.heap.size, 2, none⟩ = some (.int .i64 b0) := HI.out.2.2.2.1
  have hc1 : w0.cell? ⟨w.heap.size, 3, none⟩ = some (.int .i64 b1) := HI.out.2.2.2.2.1
  have hc2 : w0.cell? ⟨w.heap.size, 4, none⟩ = some (.int .i64 b2) := HI.out.2.2.2.2.2.1
  have x0 := bx0
  have x1 := bx1
  have x2 := bx2
  go_enter Tryz.func59, Tryz.ntmps59
  go_wp2
  go_loopg [7] 3 (fun r i wr => ∃ j : Nat, j + r = 3 ∧ i = .int .i64 (j : Int) ∧ Hid ((0 < j → f0 = true ∧ (g0 = false → b0 = 0)) ∧ (1 < j → f1 = true ∧ (g1 = false → b1 = 0)) ∧ (2 < j → f2 = true ∧ (g2 = false → b2 = 0))) ∧ Hid (Jk w0 wr))
  case atStart => exact ⟨0, by omega, rfl, hid ⟨fun h => by omega, fun h => by omega, fun h => by omega⟩, hid (Jk.refl _)⟩
  case round =>
    obtain ⟨j, hj, rfl, HP, HJ⟩ := hrel
    clear hc0 hc1 hc2
    obtain ⟨s1, c0, c1, c2, c3, c4, c5⟩ := HI.out.jk HJ.out
    simp only at c0 c1 c2 c3 c4 c5
    have hj3 : j = 3 ∨ j = 0 ∨ j = 1 ∨ j = 2 := by omega
    rcases hj3 with rfl | rfl | rfl | rfl
    · have hbt : true = b := (HB.out.2 (by have := HP.out; simp at this; grind)).symm
      subst hbt
      go_wp2
      refine bodyPost_ret (v := .bool true) (by simp [results, Tryz.results59, go_sem]) rfl ⟨rfl, H0.out.trans HJ.out⟩
    · cases f0
      · obtain rfl : false = b := (Bool.eq_false_iff.2 fun e => by have := HB.out.1 e; simp at this).symm
        go_wp2_with (first | (go_at_call 68; refine (F0.out.on _).mono ?_; rintro e w1 ⟨rfl, X1, rfl⟩) | (go_at_call 53; refine (G0.out.on _).mono ?_; rintro e w1 ⟨rfl, X2, rfl⟩))
        go_ret
        refine ⟨rfl, ?_⟩
        repeat (with_reducible first | exact (H0.out.trans HJ.out) | apply Jk.junk | apply Jk.alloc)
      · cases g0
        · by_cases hz : b0 = 0
          · subst hz
            go_wp2_with (first | (go_at_call 68; refine (F0.out.on _).mono ?_; rintro e w1 ⟨rfl, X1, rfl⟩) | (go_at_call 53; refine (G0.out.on _).mono ?_; rintro e w1 ⟨rfl, X2, rfl⟩))
            go_roundg 2
            case measure => omega
            case rel => exact ⟨1, by omega, by go_num, hid (by have := HP.out; simp at this ⊢ <;> grind), by repeat (with_reducible first | exact HJ | apply hid | exact HJ.out | apply Jk.junk | apply Jk.alloc)⟩
          · have hz2 : (b0 == 0) = false := by simpa using hz
            obtain rfl : false = b := (Bool.eq_false_iff.2 fun e => by have := HB.out.1 e; simp at this; grind).symm
            go_wp2_with (first | (go_at_call 68; refine (F0.out.on _).mono ?_; rintro e w1 ⟨rfl, X1, rfl⟩) | (go_at_call 53; refine (G0.out.on _).mono ?_; rintro e w1 ⟨rfl, X2, rfl⟩))
            go_ret
            refine ⟨rfl, ?_⟩
            repeat (with_reducible first | exact (H0.out.trans HJ.out) | apply Jk.junk | apply Jk.alloc)
        · go_wp2_with (first | (go_at_call 68; refine (F0.out.on _).mono ?_; rintro e w1 ⟨rfl, X1, rfl⟩) | (go_at_call 53; refine (G0.out.on _).mono ?_; rintro e w1 ⟨rfl, X2, rfl⟩))
          go_roundg 2
          case measure => omega
          case rel => exact ⟨1, by omega, by go_num, hid (by have := HP.out; simp at this ⊢ <;> grind), by repeat (with_reducible first | exact HJ | apply hid | exact HJ.out | apply Jk.junk | apply Jk.alloc)⟩
    · cases f1
      · obtain rfl : false = b := (Bool.eq_false_iff.2 fun e => by have := HB.out.1 e; simp at this).symm
        go_wp2_with (first | (go_at_call 68; refine (F1.out.on _).mono ?_; rintro e w1 ⟨rfl, X1, rfl⟩) | (go_at_call 53; refine (G1.out.on _).mono ?_; rintro e w1 ⟨rfl, X2, rfl⟩))
        go_ret
        refine ⟨rfl, ?_⟩
        repeat (with_reducible first | exact (H0.out.trans HJ.out) | apply Jk.junk | apply Jk.alloc)
      · cases g1
        · by_cases hz : b1 = 0
          · subst hz
            go_wp2_with (first | (go_at_call 68; refine (F1.out.on _).mono ?_; rintro e w1 ⟨rfl, X1, rfl⟩) | (go_at_call 53; refine (G1.out.on _).mono ?_; rintro e w1 ⟨rfl, X2, rfl⟩))
            go_roundg 1
            case measure => omega
            case rel => exact ⟨2, by omega, by go_num, hid (by have := HP.out; simp at this ⊢ <;> grind), by repeat (with_reducible first | exact HJ | apply hid | exact HJ.out | apply Jk.junk | apply Jk.alloc)⟩
          · have hz2 : (b1 == 0) = false := by simpa using hz
            obtain rfl : false = b := (Bool.eq_false_iff.2 fun e => by have := HB.out.1 e; simp at this; grind).symm
            go_wp2_with (first | (go_at_call 68; refine (F1.out.on _).mono ?_; rintro e w1 ⟨rfl, X1, rfl⟩) | (go_at_call 53; refine (G1.out.on _).mono ?_; rintro e w1 ⟨rfl, X2, rfl⟩))
            go_ret
            refine ⟨rfl, ?_⟩
            repeat (with_reducible first | exact (H0.out.trans HJ.out) | apply Jk.junk | apply Jk.alloc)
        · go_wp2_with (first | (go_at_call 68; refine (F1.out.on _).mono ?_; rintro e w1 ⟨rfl, X1, rfl⟩) | (go_at_call 53; refine (G1.out.on _).mono ?_; rintro e w1 ⟨rfl, X2, rfl⟩))
          go_roundg 1
          case measure => omega
          case rel => exact ⟨2, by omega, by go_num, hid (by have := HP.out; simp at this ⊢ <;> grind), by repeat (with_reducible first | exact HJ | apply hid | exact HJ.out | apply Jk.junk | apply Jk.alloc)⟩
    · cases f2
      · obtain rfl : false = b := (Bool.eq_false_iff.2 fun e => by have := HB.out.1 e; simp at this).symm
        go_wp2_with (first | (go_at_call 68; refine (F2.out.on _).mono ?_; rintro e w1 ⟨rfl, X1, rfl⟩) | (go_at_call 53; refine (G2.out.on _).mono ?_; rintro e w1 ⟨rfl, X2, rfl⟩))
        go_ret
        refine ⟨rfl, ?_⟩
        repeat (with_reducible first | exact (H0.out.trans HJ.out) | apply Jk.junk | apply Jk.alloc)
      · cases g2
        · by_cases hz : b2 = 0
          · subst hz
            go_wp2_with (first | (go_at_call 68; refine (F2.out.on _).mono ?_; rintro e w1 ⟨rfl, X1, rfl⟩) | (go_at_call 53; refine (G2.out.on _).mono ?_; rintro e w1 ⟨rfl, X2, rfl⟩))
            go_roundg 0
            case measure => omega
            case rel => exact ⟨3, by omega, by go_num, hid (by have := HP.out; simp at this ⊢ <;> grind), by repeat (with_reducible first | exact HJ | apply hid | exact HJ.out | apply Jk.junk | apply Jk.alloc)⟩
          · have hz2 : (b2 == 0) = false := by simpa using hz
            obtain rfl : false = b := (Bool.eq_false_iff.2 fun e => by have := HB.out.1 e; simp at this; grind).symm
            go_wp2_with (first | (go_at_call 68; refine (F2.out.on _).mono ?_; rintro e w1 ⟨rfl, X1, rfl⟩) | (go_at_call 53; refine (G2.out.on _).mono ?_; rintro e w1 ⟨rfl, X2, rfl⟩))
            go_ret
            refine ⟨rfl, ?_⟩
            repeat (with_reducible first | exact (H0.out.trans HJ.out) | apply Jk.junk | apply Jk.alloc)
        · go_wp2_with (first | (go_at_call 68; refine (F2.out.on _).mono ?_; rintro e w1 ⟨rfl, X1, rfl⟩) | (go_at_call 53; refine (G2.out.on _).mono ?_; rintro e w1 ⟨rfl, X2, rfl⟩))
          go_roundg 0
          case measure => omega
          case rel => exact ⟨3, by omega, by go_num, hid (by have := HP.out; simp at this ⊢ <;> grind), by repeat (with_reducible first | exact HJ | apply hid | exact HJ.out | apply Jk.junk | apply Jk.alloc)⟩

end Go.Proofs.YtkkbeobocbgmeaaGreat

namespace Go.Proofs.YtkkbeobocbgmeaaGreat
open Go.RowKit M

theorem TrsP.step {k d : Int} {ts : List Tr} {j : Nat} (h : ∀ i, i < j → TrP k d (tA ts i)) (hj : TrP k d (tA ts j)) : ∀ i, i < j + 1 → TrP k d (tA ts i) := fun i hi => by
  by_cases e : i = j
  · exact e ▸ hj
  · exact h i (by omega)
open Classical in
set_option maxRecDepth 100000 in
set_option maxHeartbeats 1600000 in
theorem trees_ans {d k b0 b1 b2 : Int} {a : Option Addr} {n c : Nat} {ts : List Tr} {b : Bool} {ww : World} (hw : IsT ww a n c ts) (hb : b = true ↔ TrsP k d ts) : AnsW ww 60 #[.agg #[.int .i64 d, .int .i64 k, .int .i64 b0, .int .i64 b1, .int .i64 b2, .slice a n c]] (.bool b) := fun w hjw => by
  have J := rules8
  have hT := hw.jk hjw
  have HL : Hid (ts.length = n) := hT.len
  have hmax := hT.max
  have hcap := hT.cap
  unfold maxLen at hmax
  clear hw hjw
  by_cases h8 : n ≤ 8
  · have HB : Hid (b = true ↔ ∀ i, i < n → TrP k d (tA ts i)) := by
      show b = true ↔ _
      rw [hb, TrsP, HL.out]
      exact ⟨fun h => h.2, fun h => ⟨h8, h⟩⟩
    have HG : Hid (∀ C, Ans 53 #[.agg #[.int .i64 d, .int .i64 k, .int .i64 b0, .int .i64 b1, .int .i64 b2, .slice a n c], .int .i64 C] (.bool (hasC k C))) := fun C => hasC_ans d k b0 b1 b2 a n c C
    clear hb
    obtain ⟨w0, hw0⟩ : ∃ w0, w.alloc (.cells #[.int .i64 d, .int .i64 k, .int .i64 b0, .int .i64 b1, .int .i64 b2, .slice a n c] 31) = w0 := ⟨_, rfl⟩
    have HI : Hid (MdIn w0 w.heap.size ⟨d, k, b0, b1, b2, a, n, c, ts⟩) := hw0 ▸ MdIn.laid w ⟨d, k, b0, b1, b2, a, n, c, ts⟩ _
    have H0 : Hid (Jk w w0) := hw0 ▸ (Jk.refl w).alloc _
    have HT : Hid (IsT w0 a n c ts) := hT.jk H0.out
    clear hT
    have hc5 : w0.cell? ⟨w.heap.size, 5, none⟩ = some (.slice a n c) := HI.out.2.2.2.2.2.2
    have hn8 : ¬ (8 : Int) < (n : Int) := by omega
    go_enter Tryz.func60, Tryz.ntmps60
    go_wp2
    go_loopg [12] n (fun r i wr => ∃ j : Nat, j + r = n ∧ i = .int .i64 (j : Int) ∧ Hid (∀ q, q < j → TrP k d (tA ts q)) ∧ Hid (Jk w0 wr))
    case atStart => exact ⟨0, by omega, rfl, hid fun q hq => by omega, hid (Jk.refl _)⟩
    case round =>
      obtain ⟨j, hj, rfl, HP, HJ⟩ := hrel
      clear hc5
      obtain ⟨s1, c0, c1, c2, c3, c4, c5⟩ := HI.out.jk HJ.out
      simp only at c0 c1 c2 c3 c4 c5
      by_cases hfuel : gk = 0
      · subst hfuel
        obtain rfl : j = n := by omega
        obtain rfl : true = b := (HB.out.2 HP.out).symm
        go_wp2
        go_ret
        exact ⟨rfl, H0.out.trans HJ.out⟩
      · obtain ⟨r, rfl⟩ : ∃ r, gk = r + 1 := ⟨gk - 1, by omega⟩
        have hjn : (j : Int) < (n : Int) := by omega
        obtain ⟨g, o, rfl, hg, hat⟩ := HT.out.lies (by omega)
        have hgr : g < wr.heap.size := Nat.lt_of_lt_of_le hg HJ.out.below.size
        obtain ⟨k0, k1⟩ := (hat.jk HJ.out hg) j (by rw [HL.out]; omega)
        have hok := (HT.out.all j (by omega)).jk HJ.out
        obtain ⟨t, ht⟩ : ∃ t, tA ts j = t := ⟨_, rfl⟩
        have HTr : Hid (tA ts j = t) := ht
        rw [ht] at k0 k1 hok
        clear ht hat
        obtain ⟨cl, ta, tn, tc, tw⟩ := t
        simp only at k0 k1
        obtain ⟨tb, htb⟩ : ∃ tb : Bool, tb = true ↔ TreeP tw d := ⟨decide (TreeP tw d), by simp⟩
        have HR := hid (right_tree hok.is htb)
        simp only at HR
        have HG2 := hid (HG.out cl)
        obtain ⟨x, hx⟩ : ∃ x, hasC k cl = x := ⟨_, rfl⟩
        rw [hx] at HG2
        have HX : Hid (hasC k cl = x) := hx
        have HTB := hid htb
        clear hx htb hok
        cases x
        · obtain rfl : false = b := (Bool.eq_false_iff.2 fun e => by
            have h := HB.out.1 e j (by omega)
            rw [HTr.out] at h
            have := hasC_iff.2 ⟨h.lo, h.hi⟩
            rw [HX.out] at this
            cases this).symm
          go_wp2_with (first | (go_at_call 53; refine (HG2.out.on _).mono ?_; rintro e w1 ⟨rfl, X1, rfl⟩) | (go_at_call 72; refine (HR.out.on _ (by repeat (with_reducible first | exact Jk.refl _ | apply Jk.junk | apply Jk.alloc))).mono ?_; rintro e w1 ⟨rfl, X2, rfl⟩))
          go_ret
          refine ⟨rfl, ?_⟩
          repeat (with_reducible first | exact (H0.out.trans HJ.out) | apply Jk.junk | apply Jk.alloc)
        · cases tb
          · obtain rfl : false = b := (Bool.eq_false_iff.2 fun e => by
              have h := HB.out.1 e j (by omega)
              rw [HTr.out] at h
              have := HTB.out.2 h.tree
              cases this).symm
            go_wp2_with (first | (go_at_call 53; refine (HG2.out.on _).mono ?_; rintro e w1 ⟨rfl, X1, rfl⟩) | (go_at_call 72; refine (HR.out.on _ (by repeat (with_reducible first | exact Jk.refl _ | apply Jk.junk | apply Jk.alloc))).mono ?_; rintro e w1 ⟨rfl, X2, rfl⟩))
            go_ret
            refine ⟨rfl, ?_⟩
            repeat (with_reducible first | exact (H0.out.trans HJ.out) | apply Jk.junk | apply Jk.alloc)
          · go_wp2_with (first | (go_at_call 53; refine (HG2.out.on _).mono ?_; rintro e w1 ⟨rfl, X1, rfl⟩) | (go_at_call 72; refine (HR.out.on _ (by repeat (with_reducible first | exact Jk.refl _ | apply Jk.junk | apply Jk.alloc))).mono ?_; rintro e w1 ⟨rfl, X2, rfl⟩))
            go_roundg r
            case measure => omega
            case rel => exact ⟨j + 1, by omega, by go_num, hid (TrsP.step HP.out (by
              have h := hasC_iff.1 HX.out
              rw [HTr.out]
              exact ⟨h.1, h.2, HTB.out.1 (by simp)⟩)), by repeat (with_reducible first | exact HJ | apply hid | exact HJ.out | apply Jk.junk | apply Jk.alloc)⟩
  · obtain rfl : false = b := (Bool.eq_false_iff.2 fun e => by
      have h := (hb.1 e).1
      rw [HL.out] at h
      exact h8 h).symm
    clear hb hT
    have hn8 : (8 : Int) < (n : Int) := by omega
    go_enter Tryz.func60, Tryz.ntmps60
    go_wp2
    go_ret
    exact ⟨rfl, (Jk.refl w).alloc _⟩

open Classical in
theorem right_bool (m : Md) : ∃ b : Bool, b = true ↔ RightM m := ⟨decide (RightM m), by simp⟩
open Classical in
set_option maxRecDepth 100000 in
set_option maxHeartbeats 1600000 in
theorem rightM_ans {m : Md} {b : Bool} {ww : World} (hw : m.ok ww) (hb : b = true ↔ RightM m) : AnsW ww 42 #[modelV m] (.bool b) := fun w hjw => by
  obtain ⟨d, k, b0, b1, b2, a, n, c, ts⟩ := m
  have hT := (hw.jk hjw).is
  simp only at hT
  have J := rules8
  obtain ⟨x, hx⟩ : ∃ x : Bool, x = true ↔ BiasP k b0 b1 b2 := ⟨decide (BiasP k b0 b1 b2), by simp⟩
  obtain ⟨y, hy⟩ : ∃ y : Bool, y = true ↔ TrsP k d ts := ⟨decide (TrsP k d ts), by simp⟩
  have HX : Hid (Ans 59 #[.agg #[.int .i64 d, .int .i64 k, .int .i64 b0, .int .i64 b1, .int .i64 b2, .slice a n c]] (.bool x)) := biases_ans hx
  have HY : Hid (AnsW w 60 #[.agg #[.int .i64 d, .int .i64 k, .int .i64 b0, .int .i64 b1, .int .i64 b2, .slice a n c]] (.bool y)) := trees_ans hT hy
  have HB : Hid (b = true ↔ 1 ≤ d ∧ d ≤ 4 ∧ 1 ≤ k ∧ k ≤ 3 ∧ x = true ∧ y = true) := by
    show b = true ↔ _
    rw [hb, hx, hy]
    exact ⟨fun ⟨h1, h2, h3, h4, h5, h6⟩ => ⟨h1, h2, h3, h4, h5, h6⟩, fun ⟨h1, h2, h3, h4, h5, h6⟩ => ⟨h1, h2, h3, h4, h5, h6⟩⟩
  clear hb hx hy hT hw hjw
  by_cases h1 : d < 1
  · obtain rfl : false = b := (Bool.eq_false_iff.2 fun e => by have := HB.out.1 e; omega).symm
    go_enter Tryz.func42, Tryz.ntmps42
    go_wp2
    go_ret
    exact ⟨rfl, (Jk.refl w).alloc _⟩
  by_cases h2 : 4 < d
  · obtain rfl : false = b := (Bool.eq_false_iff.2 fun e => by have := HB.out.1 e; omega).symm
    go_enter Tryz.func42, Tryz.ntmps42
    go_wp2
    go_ret
    exact ⟨rfl, (Jk.refl w).alloc _⟩
  by_cases h3 : k < 1
  · obtain rfl : false = b := (Bool.eq_false_iff.2 fun e => by have := HB.out.1 e; omega).symm
    go_enter Tryz.func42, Tryz.ntmps42
    go_wp2
    go_ret
    exact ⟨rfl, (Jk.refl w).alloc _⟩
  by_cases h4 : 3 < k
  · obtain rfl : false = b := (Bool.eq_false_iff.2 fun e => by have := HB.out.1 e; omega).symm
    go_enter Tryz.func42, Tryz.ntmps42
    go_wp2
    go_ret
    exact ⟨rfl, (Jk.refl w).alloc _⟩
  cases x
  · obtain rfl : false = b := (Bool.eq_false_iff.2 fun e => by have := HB.out.1 e; simp at this).symm
    go_enter Tryz.func42, Tryz.ntmps42
    go_wp2_with (first | (go_at_call 59; refine (HX.out.on _).mono ?_; rintro e w1 ⟨rfl, X1, rfl⟩) | (go_at_call 60; refine (HY.out.on _ (by repeat (with_reducible first | exact Jk.refl _ | apply Jk.junk | apply Jk.alloc))).mono ?_; rintro e w1 ⟨rfl, X2, rfl⟩))
    go_ret
    exact ⟨rfl, by repeat (with_reducible first | exact Jk.refl _ | apply Jk.junk | apply Jk.alloc)⟩
  · obtain rfl : y = b := by
      have := HB.out
      cases y <;> cases b <;> simp at this ⊢ <;> omega
    go_enter Tryz.func42, Tryz.ntmps42
    go_wp2_with (first | (go_at_call 59; refine (HX.out.on _).mono ?_; rintro e w1 ⟨rfl, X1, rfl⟩) | (go_at_call 60; refine (HY.out.on _ (by repeat (with_reducible first | exact Jk.refl _ | apply Jk.junk | apply Jk.alloc))).mono ?_; rintro e w1 ⟨rfl, X2, rfl⟩))
    go_ret
    exact ⟨rfl, by repeat (with_reducible first | exact Jk.refl _ | apply Jk.junk | apply Jk.alloc)⟩

end Go.Proofs.YtkkbeobocbgmeaaGreat

namespace Go.Proofs.YtkkbeobocbgmeaaGreat
open Go.RowKit M

set_option maxRecDepth 100000 in
set_option maxHeartbeats 1600000 in
theorem sum_ans {m : Md} {c S : Int} (p : Int → Int) {ww : World} (hw : m.ok ww) (h8 : m.n ≤ 8) (hb : m.b c = 0 ∨ fit32 (m.b c) = true) (hc0 : 0 ≤ c) (hc3 : c < 3) (hS : m.sum p c = S) : AnsW ww 54 #[modelV m, .int .i64 c, pointV p] (.int .i64 S) := fun w hjw => by
  have hT := (hw.jk hjw).is
  have hB : -2147483648 ≤ m.b c ∧ m.b c ≤ 2147483647 := by
    rcases hb with h | h
    · omega
    · simp [fit32] at h; omega
  obtain ⟨B, hBe⟩ : ∃ B, m.b c = B := ⟨_, rfl⟩
  rw [hBe] at hB
  obtain ⟨d, k, b0, b1, b2, a, n, cp, ts⟩ := m
  simp only at hT h8
  have HL : Hid (ts.length = n) := hT.len
  have HS : Hid (B + sumTo ts p c n = S) := by rw [← hS, Md.sum, hBe, HL.out]; rfl
  have J := rules8
  have hmax := hT.max
  have hcap := hT.cap
  unfold maxLen at hmax
  have HV : Hid (∀ {w : World} {a : Option Addr} {n c : Nat} {ws : List Int}, IsW w a n c ws → AnsW w 69 #[.slice a n c, pointV p] (.int .i64 (valW ws p))) := fun h => value_ans p h
  obtain ⟨p0, e0⟩ : ∃ z, p 0 = z := ⟨_, rfl⟩
  obtain ⟨p1, e1⟩ : ∃ z, p 1 = z := ⟨_, rfl⟩
  obtain ⟨p2, e2⟩ : ∃ z, p 2 = z := ⟨_, rfl⟩
  obtain ⟨p3, e3⟩ : ∃ z, p 3 = z := ⟨_, rfl⟩
  simp only [pointV, e0, e1, e2, e3] at HV ⊢
  clear e0 e1 e2 e3 hw hjw hS hb
  obtain ⟨w0, hw0⟩ : ∃ w0, w.alloc (.cells #[.int .i64 d, .int .i64 k, .int .i64 b0, .int .i64 b1, .int .i64 b2, .slice a n cp] 31) = w0 := ⟨_, rfl⟩
  have HI0 : Hid (MdIn w0 w.heap.size ⟨d, k, b0, b1, b2, a, n, cp, ts⟩) := hw0 ▸ MdIn.laid w ⟨d, k, b0, b1, b2, a, n, cp, ts⟩ _
  have hsz0 : w0.heap.size = w.heap.size + 1 := by rw [← hw0]; simp
  obtain ⟨w9, hw9⟩ : ∃ w9, w0.alloc (.cells #[.int .i64 p0, .int .i64 p1, .int .i64 p2, .int .i64 p3] 70) = w9 := ⟨_, rfl⟩
  have H00 : Hid (Jk w w0) := hw0 ▸ (Jk.refl w).alloc _
  have H09 : Hid (Jk w0 w9) := hw9 ▸ (Jk.refl w0).alloc _
  have HP : Hid (∀ wr, Jk w9 wr → wr.cell? ⟨w.heap.size + 1, 0, none⟩ = some (.int .i64 p0) ∧ wr.cell? ⟨w.heap.size + 1, 1, none⟩ = some (.int .i64 p1) ∧ wr.cell? ⟨w.heap.size + 1, 2, none⟩ = some (.int .i64 p2) ∧ wr.cell? ⟨w.heap.size + 1, 3, none⟩ = some (.int .i64 p3) ∧ w.heap.size + 1 < wr.heap.size) := fun wr hj => by
    rw [← hsz0]
    have hl : w0.heap.size < w9.heap.size := by rw [← hw9]; simp
    have e := fun i => hj.below.cell (p := ⟨w0.heap.size, i, none⟩) hl
    rw [e, e, e, e, ← hw9]
    exact ⟨World.cell?_alloc_at _ _ _ _ rfl, World.cell?_alloc_at _ _ _ _ rfl, World.cell?_alloc_at _ _ _ _ rfl, World.cell?_alloc_at _ _ _ _ rfl, Nat.lt_of_lt_of_le (hw9 ▸ hl) (hw9 ▸ hj.below.size)⟩
  have HI : Hid (MdIn w9 w.heap.size ⟨d, k, b0, b1, b2, a, n, cp, ts⟩) := HI0.out.jk H09.out
  have HT : Hid (IsT w9 a n cp ts) := hT.jk (H00.out.trans H09.out)
  have H0 : Hid (Jk w w9) := H00.out.trans H09.out
  obtain ⟨i0, i1, i2, i3, i4, i5, i6⟩ := HI.out
  simp only at i1 i2 i3 i4 i5 i6
  obtain ⟨C, rfl⟩ := Int.eq_ofNat_of_zero_le hc0
  have hcell : w9.cell? ⟨w.heap.size, 2 + C, none⟩ = some (.int .i64 B) := by
    simp [Md.b] at hBe
    have : C = 0 ∨ C = 1 ∨ C = 2 := by omega
    rcases this with rfl | rfl | rfl <;> simp_all
  clear hT HI0 H00 H09 hBe i1 i2 i3 i4 i5
  go_enter Tryz.func54, Tryz.ntmps54
  go_wp2
  go_loopg [7, 17] n (fun r s i wr => ∃ (j : Nat) (s' : Int), j + r = n ∧ i = .int .i64 (j : Int) ∧ s = .int .i64 s' ∧ Hid (B + sumTo ts p C j = s') ∧ Hid (Jk w9 wr))
  case atStart => exact ⟨0, _, by omega, rfl, rfl, hid (by simp [sumTo]), hid (Jk.refl _)⟩
  case round =>
    obtain ⟨j, s', hj, rfl, rfl, HSj, HJ⟩ := hrel
    clear i6 hcell i0
    obtain ⟨s1, c0, c1, c2, c3, c4, c5⟩ := HI.out.jk HJ.out
    clear c0 c1 c2 c3 c4
    obtain ⟨q0, q1, q2, q3, q4⟩ := HP.out _ HJ.out
    simp only at c5
    by_cases hfuel : gk = 0
    · subst hfuel
      obtain rfl : j = n := by omega
      obtain rfl : s' = S := HSj.out.symm.trans HS.out
      go_wp2
      go_ret
      exact ⟨rfl, H0.out.trans HJ.out⟩
    · obtain ⟨r, rfl⟩ : ∃ r, gk = r + 1 := ⟨gk - 1, by omega⟩
      have hjn : (j : Int) < (n : Int) := by omega
      obtain ⟨g, o, rfl, hg, hat⟩ := HT.out.lies (by omega)
      have hgr : g < wr.heap.size := Nat.lt_of_lt_of_le hg HJ.out.below.size
      obtain ⟨k0, k1⟩ := (hat.jk HJ.out hg) j (by rw [HL.out]; omega)
      have hok := (HT.out.all j (by omega)).jk HJ.out
      obtain ⟨t, ht⟩ : ∃ t, tA ts j = t := ⟨_, rfl⟩
      have HTr : Hid (tA ts j = t) := ht
      rw [ht] at k0 k1 hok
      clear ht hat
      obtain ⟨cl, ta, tn, tc, tw⟩ := t
      simp only at k0 k1
      have hv := valW_bd tw p
      have hsb := sumTo_bd ts p C j
      have HR := hid (HV.out hok.is)
      simp only at HR
      obtain ⟨V, hV⟩ : ∃ V, valW tw p = V := ⟨_, rfl⟩
      have HVe : Hid (valW tw p = V) := hV
      rw [hV] at hv HR
      have hs1 : -2147483648 * 9 ≤ s' ∧ s' ≤ 2147483647 * 9 := by have := HSj.out; omega
      have hwr : IntKind.i64.wrap (s' + V) = s' + V := i64_in (by omega) (by omega)
      clear hV hsb hok
      by_cases hcl : cl = C
      · subst hcl
        go_wp2_with (first | (go_at_call 69; refine (HR.out.on _ (by repeat (with_reducible first | exact Jk.refl _ | apply Jk.junk | apply Jk.alloc))).mono ?_; rintro e w1 ⟨rfl, X2, rfl⟩))
        go_roundg r
        case measure => omega
        case rel => exact ⟨j + 1, _, by omega, by go_num, rfl, hid (by simp only [sumTo, HTr.out, if_true, HVe.out]; have := HSj.out; omega), by repeat (with_reducible first | exact HJ | apply hid | exact HJ.out | apply Jk.junk | apply Jk.alloc)⟩
      · have hcl2 : (cl == (C : Int)) = false := by simpa using hcl
        go_wp2
        go_roundg r
        case measure => omega
        case rel => exact ⟨j + 1, _, by omega, by go_num, rfl, hid (by simp only [sumTo, HTr.out, if_neg hcl]; have := HSj.out; omega), by repeat (with_reducible first | exact HJ | apply hid | exact HJ.out | apply Jk.junk | apply Jk.alloc)⟩

end Go.Proofs.YtkkbeobocbgmeaaGreat

namespace Go.Proofs.YtkkbeobocbgmeaaGreat
open Go.RowKit M

theorem RightM.n8 {m : Md} {w : World} (h : RightM m) (hw : m.ok w) : m.n ≤ 8 := by have := h.trees.1; rw [hw.is.len] at this; exact this
theorem RightM.bc {m : Md} (h : RightM m) {c : Int} : m.b c = 0 ∨ fit32 (m.b c) = true := by
  obtain ⟨⟨h0, h1, h2⟩, _⟩ := h.bias
  right
  unfold Md.b
  split
  · exact h0
  · split <;> assumption
/-- what Eval comes to -/
def EvalP (m : Md) (p : Int → Int) (c E : Int) : Prop := (RightM m → 0 ≤ c → c < m.k → m.sum p c = E) ∧ (¬ (RightM m ∧ 0 ≤ c ∧ c < m.k) → E = 0)
open Classical in
theorem evalP_is (m : Md) (p : Int → Int) (c : Int) : ∃ E, EvalP m p c E := by
  by_cases h : RightM m ∧ 0 ≤ c ∧ c < m.k
  · exact ⟨_, fun _ _ _ => rfl, fun h' => absurd h h'⟩
  · exact ⟨0, fun h1 h2 h3 => absurd ⟨h1, h2, h3⟩ h, fun _ => rfl⟩
theorem EvalP.at {m : Md} {p : Int → Int} {c E : Int} (h : EvalP m p c E) (hr : RightM m) (h0 : 0 ≤ c) (h1 : c < m.k) : E = m.sum p c := (h.1 hr h0 h1).symm
theorem EvalP.no {m : Md} {p : Int → Int} {c E : Int} (h : EvalP m p c E) (hr : ¬ (RightM m ∧ 0 ≤ c ∧ c < m.k)) : E = 0 := h.2 hr
theorem RightM.evalP {m : Md} (hr : RightM m) (p : Int → Int) {c : Int} (h0 : 0 ≤ c) (h1 : c < m.k) : EvalP m p c (m.sum p c) := ⟨fun _ _ _ => rfl, fun h => absurd ⟨hr, h0, h1⟩ h⟩

set_option maxRecDepth 100000 in
set_option maxHeartbeats 1600000 in
theorem eval_ans {m : Md} {c E : Int} (p : Int → Int) {ww : World} (hw : m.ok ww) (hE : EvalP m p c E) : AnsW ww 37 #[modelV m, .int .i64 c, pointV p] (.int .i64 E) := fun w hjw => by
  have hw' := hw.jk hjw
  obtain ⟨x, hx⟩ := right_bool m
  have HX := hid (rightM_ans hw' hx)
  have HG := hid (hasC_ans m.d m.k m.b0 m.b1 m.b2 m.a m.n m.c c)
  obtain ⟨y, hy⟩ : ∃ y, hasC m.k c = y := ⟨_, rfl⟩
  rw [hy] at HG
  have HS : Hid (x = true → y = true → AnsW w 54 #[modelV m, .int .i64 c, pointV p] (.int .i64 E)) := fun e1 e2 => by
    have hr := hx.1 e1
    rw [e2] at hy
    have h := hasC_iff.1 hy
    exact sum_ans p hw' (hr.n8 hw') hr.bc h.1 (by have := hr.k3; omega) (hE.1 hr h.1 h.2)
  have HN : Hid (x = false ∨ y = false → 0 = E) := fun e => by
    refine (hE.2 fun h => ?_).symm
    rcases e with rfl | rfl
    · have := hx.2 h.1; cases this
    · have := hasC_iff.2 h.2; rw [hy] at this; cases this
  clear hE hw hw' hjw hx hy
  obtain ⟨d, k, b0, b1, b2, a, n, cp, ts⟩ := m
  simp only at HX HG HS
  obtain ⟨p0, e0⟩ : ∃ z, p 0 = z := ⟨_, rfl⟩
  obtain ⟨p1, e1⟩ : ∃ z, p 1 = z := ⟨_, rfl⟩
  obtain ⟨p2, e2⟩ : ∃ z, p 2 = z := ⟨_, rfl⟩
  obtain ⟨p3, e3⟩ : ∃ z, p 3 = z := ⟨_, rfl⟩
  simp only [pointV, modelV, e0, e1, e2, e3] at HS HX ⊢
  clear e0 e1 e2 e3
  have J := rules8
  cases x
  · obtain rfl := HN.out (.inl rfl)
    clear HS
    go_enter Tryz.func37, Tryz.ntmps37
    go_wp2_with (first | (go_at_call 42; refine (HX.out.on _ (by repeat (with_reducible first | exact Jk.refl _ | apply Jk.junk | apply Jk.alloc))).mono ?_; rintro e w1 ⟨rfl, X1, rfl⟩) | (go_at_call 53; refine (HG.out.on _).mono ?_; rintro e w1 ⟨rfl, X2, rfl⟩))
    go_ret
    exact ⟨rfl, by repeat (with_reducible first | exact Jk.refl _ | apply Jk.junk | apply Jk.alloc)⟩
  · cases y
    · obtain rfl := HN.out (.inr rfl)
      clear HS
      go_enter Tryz.func37, Tryz.ntmps37
      go_wp2_with (first | (go_at_call 42; refine (HX.out.on _ (by repeat (with_reducible first | exact Jk.refl _ | apply Jk.junk | apply Jk.alloc))).mono ?_; rintro e w1 ⟨rfl, X1, rfl⟩) | (go_at_call 53; refine (HG.out.on _).mono ?_; rintro e w1 ⟨rfl, X2, rfl⟩))
      go_ret
      exact ⟨rfl, by repeat (with_reducible first | exact Jk.refl _ | apply Jk.junk | apply Jk.alloc)⟩
    · have HT := hid (HS.out rfl rfl)
      clear HS HN
      go_enter Tryz.func37, Tryz.ntmps37
      go_wp2_with (first | (go_at_call 42; refine (HX.out.on _ (by repeat (with_reducible first | exact Jk.refl _ | apply Jk.junk | apply Jk.alloc))).mono ?_; rintro e w1 ⟨rfl, X1, rfl⟩) | (go_at_call 53; refine (HG.out.on _).mono ?_; rintro e w1 ⟨rfl, X2, rfl⟩) | (go_at_call 54; refine (HT.out.on _ (by repeat (with_reducible first | exact Jk.refl _ | apply Jk.junk | apply Jk.alloc))).mono ?_; rintro e w1 ⟨rfl, X3, rfl⟩))
      go_ret
      exact ⟨rfl, by repeat (with_reducible first | exact Jk.refl _ | apply Jk.junk | apply Jk.alloc)⟩

/-- how many words the first j trees have, as the code counts them -/

def sizeI (ts : List Tr) : Nat → Int
  | 0 => 0
  | j + 1 => wrap64 (sizeI ts j + ((tA ts j).n : Int))

end Go.Proofs.YtkkbeobocbgmeaaGreat

namespace Go.Proofs.YtkkbeobocbgmeaaGreat
open Go.RowKit M

/-- the best of the classes 0 to j -/
def bestTo (m : Md) (p : Int → Int) : Nat → Int
  | 0 => 0
  | j + 1 => if m.sum p (bestTo m p j) < m.sum p ((j + 1 : Nat) : Int) then ((j + 1 : Nat) : Int) else bestTo m p j
theorem bestTo_bd (m : Md) (p : Int → Int) (j : Nat) : 0 ≤ bestTo m p j ∧ bestTo m p j ≤ j := by
  induction j with
  | zero => simp [bestTo]
  | succ j ih =>
    simp only [bestTo]
    split <;> omega
theorem bestTo_best (m : Md) (p : Int → Int) (j : Nat) : ∀ c : Int, 0 ≤ c → c ≤ j → m.sum p c ≤ m.sum p (bestTo m p j) ∧ (c < bestTo m p j → m.sum p c < m.sum p (bestTo m p j)) := by
  induction j with
  | zero =>
    intro c h0 h1
    obtain rfl : c = 0 := by omega
    simp [bestTo]
  | succ j ih =>
    intro c h0 h1
    have hb := bestTo_bd m p j
    simp only [bestTo]
    split
    · by_cases e : c = ((j + 1 : Nat) : Int)
      · subst e; simp
      · have := ih c h0 (by omega)
        constructor <;> intros <;> omega
    · by_cases e : c = ((j + 1 : Nat) : Int)
      · subst e; constructor <;> intros <;> omega
      · exact ih c h0 (by omega)


end Go.Proofs.YtkkbeobocbgmeaaGreat
