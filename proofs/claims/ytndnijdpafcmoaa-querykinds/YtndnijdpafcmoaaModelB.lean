/- What hasClass, rightBiases, rightTrees and Right of package model answer.
   What rightTrees and Right of package model answer. -/
import Derived.Test.YtndnijdpafcmoaaRowsM
namespace Go.Proofs.Ytndnijdpafcmoaa
open Go.RowKit M

def hasC (k c : Int) : Bool := decide (0 ≤ c) && decide (c < k)
theorem hasC_iff {k c : Int} : hasC k c = true ↔ 0 ≤ c ∧ c < k := by simp [hasC]
theorem hasC_ans (d k b0 b1 b2 : Int) (a : Option Addr) (n c' : Nat) (c : Int) : Ans 20 #[.agg #[.int .i64 d, .int .i64 k, .int .i64 b0, .int .i64 b1, .int .i64 b2, .slice a n c'], .int .i64 c] (.bool (hasC k c)) := fun w => by
  have J := rules8
  by_cases h1 : 0 ≤ c
  · by_cases h2 : c < k
    · have e : hasC k c = true := hasC_iff.2 ⟨h1, h2⟩
      rw [e]; clear e
      go_enter Try.func20, Try.ntmps20
      go_wp2
      go_ret
      exact ⟨rfl, (Jk.refl w).alloc _⟩
    · have e : hasC k c = false := by simp [hasC]; omega
      rw [e]; clear e
      go_enter Try.func20, Try.ntmps20
      go_wp2
      go_ret
      exact ⟨rfl, (Jk.refl w).alloc _⟩
  · have e : hasC k c = false := by simp [hasC]; omega
    rw [e]; clear e
    go_enter Try.func20, Try.ntmps20
    go_wp2
    go_ret
    exact ⟨rfl, (Jk.refl w).alloc _⟩

theorem hasC_is {k c : Int} {b : Bool} (h : hasC k c = b) (d b0 b1 b2 : Int) (a : Option Addr) (n c' : Nat) : Ans 20 #[.agg #[.int .i64 d, .int .i64 k, .int .i64 b0, .int .i64 b1, .int .i64 b2, .slice a n c'], .int .i64 c] (.bool b) := h ▸ hasC_ans d k b0 b1 b2 a n c' c

theorem fits_is {n : Int} {b : Bool} (h : fit32 n = b) : Ans 32 #[.int .i64 n, .int .i64 32] (.bool b) := h ▸ fits_ans

theorem bx0 (x y z : Int) (w : World) : (Instr.index 30 (.agg #[.int .i64 x, .int .i64 y, .int .i64 z]) (.int .i64 0)).run Try.prog w = .ok (.int .i64 x) w := by kernel_rfl
theorem bx1 (x y z : Int) (w : World) : (Instr.index 30 (.agg #[.int .i64 x, .int .i64 y, .int .i64 z]) (.int .i64 1)).run Try.prog w = .ok (.int .i64 y) w := by kernel_rfl
theorem bx2 (x y z : Int) (w : World) : (Instr.index 30 (.agg #[.int .i64 x, .int .i64 y, .int .i64 z]) (.int .i64 2)).run Try.prog w = .ok (.int .i64 z) w := by kernel_rfl

set_option maxRecDepth 100000 in
set_option maxHeartbeats 1600000 in
theorem biases_ans {d k b0 b1 b2 : Int} {a : Option Addr} {n c : Nat} {b : Bool} (hb : b = true ↔ BiasP k b0 b1 b2) : Ans 29 #[.agg #[.int .i64 d, .int .i64 k, .int .i64 b0, .int .i64 b1, .int .i64 b2, .slice a n c]] (.bool b) := fun w => by
  have J := rules8
  obtain ⟨f0, e0⟩ : ∃ f, fit32 b0 = f := ⟨_, rfl⟩
  obtain ⟨f1, e1⟩ : ∃ f, fit32 b1 = f := ⟨_, rfl⟩
  obtain ⟨f2, e2⟩ : ∃ f, fit32 b2 = f := ⟨_, rfl⟩
  obtain ⟨g0, q0⟩ : ∃ f, hasC k 0 = f := ⟨_, rfl⟩
  obtain ⟨g1, q1⟩ : ∃ f, hasC k 1 = f := ⟨_, rfl⟩
  obtain ⟨g2, q2⟩ : ∃ f, hasC k 2 = f := ⟨_, rfl⟩
  have F0 := hid (fits_is e0)
  have F1 := hid (fits_is e1)
  have F2 := hid (fits_is e2)
  have G0 := hid (hasC_is q0 d b0 b1 b2 a n c)
  have G1 := hid (hasC_is q1 d b0 b1 b2 a n c)
  have G2 := hid (hasC_is q2 d b0 b1 b2 a n c)
  have n0 : g0 = true ↔ ¬ k ≤ 0 := by rw [← q0, hasC_iff]; omega
  have n1 : g1 = true ↔ ¬ k ≤ 1 := by rw [← q1, hasC_iff]; omega
  have n2 : g2 = true ↔ ¬ k ≤ 2 := by rw [← q2, hasC_iff]; omega
  have HB : Hid (b = true ↔ (f0 = true ∧ f1 = true ∧ f2 = true) ∧ (g0 = false → b0 = 0) ∧ (g1 = false → b1 = 0) ∧ (g2 = false → b2 = 0)) := by
    show b = true ↔ _
    rw [hb, BiasP, e0, e1, e2]
    have m0 : g0 = false ↔ k ≤ 0 := by cases g0 <;> simp_all
    have m1 : g1 = false ↔ k ≤ 1 := by cases g1 <;> simp_all
    have m2 : g2 = false ↔ k ≤ 2 := by cases g2 <;> simp_all
    rw [m0, m1, m2]
  clear e0 e1 e2 q0 q1 q2 n0 n1 n2 hb
  obtain ⟨w0, hw0⟩ : ∃ w0, w.alloc (.cells #[.int .i64 d, .int .i64 k, .int .i64 b0, .int .i64 b1, .int .i64 b2, .slice a n c] 33) = w0 := ⟨_, rfl⟩
  have HI : Hid (MdIn w0 w.heap.size ⟨d, k, b0, b1, b2, a, n, c, []⟩) := hw0 ▸ MdIn.laid w ⟨d, k, b0, b1, b2, a, n, c, []⟩ _
  have H0 : Hid (Jk w w0) := hw0 ▸ (Jk.refl w).alloc _
  have hc0 : w0.cell? ⟨w.heap.size, 2, none⟩ = some (.int .i64 b0) := HI.out.2.2.2.1
  have hc1 : w0.cell? ⟨w.heap.size, 3, none⟩ = some (.int .i64 b1) := HI.out.2.2.2.2.1
  have hc2 : w0.cell? ⟨w.heap.size, 4, none⟩ = some (.int .i64 b2) := HI.out.2.2.2.2.2.1
  have x0 := bx0
  have x1 := bx1
  have x2 := bx2
  go_enter Try.func29, Try.ntmps29
  go_wp2
  go_loopg [7] 3 (fun r i wr => ∃ j : Nat, j + r = 3 ∧ i = .int .i64 (j : Int) ∧ Hid ((0 < j → f0 = true ∧ (g0 = false → b0 = 0)) ∧ (1 < j → f1 = true ∧ (g1 = false → b1 = 0)) ∧ (2 < j → f2 = true ∧ (g2 = false → b2 = 0))) ∧ Hid (Jk w0 wr))
  case atStart => exact ⟨0, by omega, rfl, hid ⟨fun h => by omega, fun h => by omega, fun h => by omega⟩, hid (Jk.refl _)⟩
  case round =>
    obtain ⟨j, hj, rfl, HP, HJ⟩ := hrel
    clear hc0 hc1 hc2
    obtain ⟨s1, c0, c1, c2, c3, c4, c5⟩ := HI.out.jk HJ.out
    simp only at c0 c1 c2 c3 c4 c5
    have hj3 : j = 3 ∨ j = 0 ∨ j = 1 ∨ j = 2 := by omega
    rcases hj3 with rfl | rfl | rfl | rfl
    · have hbt : true = b := (HB.out.2 (by have := HP.out; simp at this; grind)).symm
      subst hbt
      go_wp2
      refine bodyPost_ret (v := .bool true) (by simp [results, Try.results29, go_sem]) rfl ⟨rfl, H0.out.trans HJ.out⟩
    · cases f0
      · obtain rfl : false = b := (Bool.eq_false_iff.2 fun e => by have := HB.out.1 e; simp at this).symm
        go_wp2_with (first | (go_at_call 32; refine (F0.out.on _).mono ?_; rintro e w1 ⟨rfl, X1, rfl⟩) | (go_at_call 20; refine (G0.out.on _).mono ?_; rintro e w1 ⟨rfl, X2, rfl⟩))
        go_ret
        refine ⟨rfl, ?_⟩
        repeat (with_reducible first | exact (H0.out.trans HJ.out) | apply Jk.junk | apply Jk.alloc)
      · cases g0
        · by_cases hz : b0 = 0
          · subst hz
            go_wp2_with (first | (go_at_call 32; refine (F0.out.on _).mono ?_; rintro e w1 ⟨rfl, X1, rfl⟩) | (go_at_call 20; refine (G0.out.on _).mono ?_; rintro e w1 ⟨rfl, X2, rfl⟩))
            go_roundg 2
            case measure => omega
            case rel => exact ⟨1, by omega, by go_num, hid (by have := HP.out; simp at this ⊢ <;> grind), by repeat (with_reducible first | exact HJ | apply hid | exact HJ.out | apply Jk.junk | apply Jk.alloc)⟩
          · have hz2 : (b0 == 0) = false := by simpa using hz
            obtain rfl : false = b := (Bool.eq_false_iff.2 fun e => by have := HB.out.1 e; simp at this; grind).symm
            go_wp2_with (first | (go_at_call 32; refine (F0.out.on _).mono ?_; rintro e w1 ⟨rfl, X1, rfl⟩) | (go_at_call 20; refine (G0.out.on _).mono ?_; rintro e w1 ⟨rfl, X2, rfl⟩))
            go_ret
            refine ⟨rfl, ?_⟩
            repeat (with_reducible first | exact (H0.out.trans HJ.out) | apply Jk.junk | apply Jk.alloc)
        · go_wp2_with (first | (go_at_call 32; refine (F0.out.on _).mono ?_; rintro e w1 ⟨rfl, X1, rfl⟩) | (go_at_call 20; refine (G0.out.on _).mono ?_; rintro e w1 ⟨rfl, X2, rfl⟩))
          go_roundg 2
          case measure => omega
          case rel => exact ⟨1, by omega, by go_num, hid (by have := HP.out; simp at this ⊢ <;> grind), by repeat (with_reducible first | exact HJ | apply hid | exact HJ.out | apply Jk.junk | apply Jk.alloc)⟩
    · cases f1
      · obtain rfl : false = b := (Bool.eq_false_iff.2 fun e => by have := HB.out.1 e; simp at this).symm
        go_wp2_with (first | (go_at_call 32; refine (F1.out.on _).mono ?_; rintro e w1 ⟨rfl, X1, rfl⟩) | (go_at_call 20; refine (G1.out.on _).mono ?_; rintro e w1 ⟨rfl, X2, rfl⟩))
        go_ret
        refine ⟨rfl, ?_⟩
        repeat (with_reducible first | exact (H0.out.trans HJ.out) | apply Jk.junk | apply Jk.alloc)
      · cases g1
        · by_cases hz : b1 = 0
          · subst hz
            go_wp2_with (first | (go_at_call 32; refine (F1.out.on _).mono ?_; rintro e w1 ⟨rfl, X1, rfl⟩) | (go_at_call 20; refine (G1.out.on _).mono ?_; rintro e w1 ⟨rfl, X2, rfl⟩))
            go_roundg 1
            case measure => omega
            case rel => exact ⟨2, by omega, by go_num, hid (by have := HP.out; simp at this ⊢ <;> grind), by repeat (with_reducible first | exact HJ | apply hid | exact HJ.out | apply Jk.junk | apply Jk.alloc)⟩
          · have hz2 : (b1 == 0) = false := by simpa using hz
            obtain rfl : false = b := (Bool.eq_false_iff.2 fun e => by have := HB.out.1 e; simp at this; grind).symm
            go_wp2_with (first | (go_at_call 32; refine (F1.out.on _).mono ?_; rintro e w1 ⟨rfl, X1, rfl⟩) | (go_at_call 20; refine (G1.out.on _).mono ?_; rintro e w1 ⟨rfl, X2, rfl⟩))
            go_ret
            refine ⟨rfl, ?_⟩
            repeat (with_reducible first | exact (H0.out.trans HJ.out) | apply Jk.junk | apply Jk.alloc)
        · go_wp2_with (first | (go_at_call 32; refine (F1.out.on _).mono ?_; rintro e w1 ⟨rfl, X1, rfl⟩) | (go_at_call 20; refine (G1.out.on _).mono ?_; rintro e w1 ⟨rfl, X2, rfl⟩))
          go_roundg 1
          case measure => omega
          case rel => exact ⟨2, by omega, by go_num, hid (by have := HP.out; simp at this ⊢ <;> grind), by repeat (with_reducible first | exact HJ | apply hid | exact HJ.out | apply Jk.junk | apply Jk.alloc)⟩
    · cases f2
      · obtain rfl : false = b := (Bool.eq_false_iff.2 fun e => by have := HB.out.1 e; simp at this).symm
        go_wp2_with (first | (go_at_call 32; refine (F2.out.on _).mono ?_; rintro e w1 ⟨rfl, X1, rfl⟩) | (go_at_call 20; refine (G2.out.on _).mono ?_; rintro e w1 ⟨rfl, X2, rfl⟩))
        go_ret
        refine ⟨rfl, ?_⟩
        repeat (with_reducible first | exact (H0.out.trans HJ.out) | apply Jk.junk | apply Jk.alloc)
      · cases g2
        · by_cases hz : b2 = 0
          · subst hz
            go_wp2_with (first | (go_at_call 32; refine (F2.out.on _).mono ?_; rintro e w1 ⟨rfl, X1, rfl⟩) | (go_at_call 20; refine (G2.out.on _).mono ?_; rintro e w1 ⟨rfl, X2, rfl⟩))
            go_roundg 0
            case measure => omega
            case rel => exact ⟨3, by omega, by go_num, hid (by have := HP.out; simp at this ⊢ <;> grind), by repeat (with_reducible first | exact HJ | apply hid | exact HJ.out | apply Jk.junk | apply Jk.alloc)⟩
          · have hz2 : (b2 == 0) = false := by simpa using hz
            obtain rfl : false = b := (Bool.eq_false_iff.2 fun e => by have := HB.out.1 e; simp at this; grind).symm
            go_wp2_with (first | (go_at_call 32; refine (F2.out.on _).mono ?_; rintro e w1 ⟨rfl, X1, rfl⟩) | (go_at_call 20; refine (G2.out.on _).mono ?_; rintro e w1 ⟨rfl, X2, rfl⟩))
            go_ret
            refine ⟨rfl, ?_⟩
            repeat (with_reducible first | exact (H0.out.trans HJ.out) | apply Jk.junk | apply Jk.alloc)
        · go_wp2_with (first | (go_at_call 32; refine (F2.out.on _).mono ?_; rintro e w1 ⟨rfl, X1, rfl⟩) | (go_at_call 20; refine (G2.out.on _).mono ?_; rintro e w1 ⟨rfl, X2, rfl⟩))
          go_roundg 0
          case measure => omega
          case rel => exact ⟨3, by omega, by go_num, hid (by have := HP.out; simp at this ⊢ <;> grind), by repeat (with_reducible first | exact HJ | apply hid | exact HJ.out | apply Jk.junk | apply Jk.alloc)⟩

end Go.Proofs.Ytndnijdpafcmoaa

namespace Go.Proofs.Ytndnijdpafcmoaa
open Go.RowKit M

theorem TrsP.step {k d : Int} {ts : List Tr} {j : Nat} (h : ∀ i, i < j → TrP k d (tA ts i)) (hj : TrP k d (tA ts j)) : ∀ i, i < j + 1 → TrP k d (tA ts i) := fun i hi => by
  by_cases e : i = j
  · exact e ▸ hj
  · exact h i (by omega)
open Classical in
set_option maxRecDepth 100000 in
set_option maxHeartbeats 1600000 in
theorem trees_ans {d k b0 b1 b2 : Int} {a : Option Addr} {n c : Nat} {ts : List Tr} {b : Bool} {ww : World} (hw : IsT ww a n c ts) (hb : b = true ↔ TrsP k d ts) : AnsW ww 30 #[.agg #[.int .i64 d, .int .i64 k, .int .i64 b0, .int .i64 b1, .int .i64 b2, .slice a n c]] (.bool b) := fun w hjw => by
  have J := rules8
  have hT := hw.jk hjw
  have HL : Hid (ts.length = n) := hT.len
  have hmax := hT.max
  have hcap := hT.cap
  unfold maxLen at hmax
  clear hw hjw
  by_cases h8 : n ≤ 8
  · have HB : Hid (b = true ↔ ∀ i, i < n → TrP k d (tA ts i)) := by
      show b = true ↔ _
      rw [hb, TrsP, HL.out]
      exact ⟨fun h => h.2, fun h => ⟨h8, h⟩⟩
    have HG : Hid (∀ C, Ans 20 #[.agg #[.int .i64 d, .int .i64 k, .int .i64 b0, .int .i64 b1, .int .i64 b2, .slice a n c], .int .i64 C] (.bool (hasC k C))) := fun C => hasC_ans d k b0 b1 b2 a n c C
    clear hb
    obtain ⟨w0, hw0⟩ : ∃ w0, w.alloc (.cells #[.int .i64 d, .int .i64 k, .int .i64 b0, .int .i64 b1, .int .i64 b2, .slice a n c] 33) = w0 := ⟨_, rfl⟩
    have HI : Hid (MdIn w0 w.heap.size ⟨d, k, b0, b1, b2, a, n, c, ts⟩) := hw0 ▸ MdIn.laid w ⟨d, k, b0, b1, b2, a, n, c, ts⟩ _
    have H0 : Hid (Jk w w0) := hw0 ▸ (Jk.refl w).alloc _
    have HT : Hid (IsT w0 a n c ts) := hT.jk H0.out
    clear hT
    have hc5 : w0.cell? ⟨w.heap.size, 5, none⟩ = some (.slice a n c) := HI.out.2.2.2.2.2.2
    have hn8 : ¬ (8 : Int) < (n : Int) := by omega
    go_enter Try.func30, Try.ntmps30
    go_wp2
    go_loopg [12] n (fun r i wr => ∃ j : Nat, j + r = n ∧ i = .int .i64 (j : Int) ∧ Hid (∀ q, q < j → TrP k d (tA ts q)) ∧ Hid (Jk w0 wr))
    case atStart => exact ⟨0, by omega, rfl, hid fun q hq => by omega, hid (Jk.refl _)⟩
    case round =>
      obtain ⟨j, hj, rfl, HP, HJ⟩ := hrel
      clear hc5
      obtain ⟨s1, c0, c1, c2, c3, c4, c5⟩ := HI.out.jk HJ.out
      simp only at c0 c1 c2 c3 c4 c5
      by_cases hfuel : gk = 0
      · subst hfuel
        obtain rfl : j = n := by omega
        obtain rfl : true = b := (HB.out.2 HP.out).symm
        go_wp2
        go_ret
        exact ⟨rfl, H0.out.trans HJ.out⟩
      · obtain ⟨r, rfl⟩ : ∃ r, gk = r + 1 := ⟨gk - 1, by omega⟩
        have hjn : (j : Int) < (n : Int) := by omega
        obtain ⟨g, o, rfl, hg, hat⟩ := HT.out.lies (by omega)
        have hgr : g < wr.heap.size := Nat.lt_of_lt_of_le hg HJ.out.below.size
        obtain ⟨k0, k1⟩ := (hat.jk HJ.out hg) j (by rw [HL.out]; omega)
        have hok := (HT.out.all j (by omega)).jk HJ.out
        obtain ⟨t, ht⟩ : ∃ t, tA ts j = t := ⟨_, rfl⟩
        have HTr : Hid (tA ts j = t) := ht
        rw [ht] at k0 k1 hok
        clear ht hat
        obtain ⟨cl, ta, tn, tc, tw⟩ := t
        simp only at k0 k1
        obtain ⟨tb, htb⟩ : ∃ tb : Bool, tb = true ↔ TreeP tw d := ⟨decide (TreeP tw d), by simp⟩
        have HR := hid (right_tree hok.is htb)
        simp only at HR
        have HG2 := hid (HG.out cl)
        obtain ⟨x, hx⟩ : ∃ x, hasC k cl = x := ⟨_, rfl⟩
        rw [hx] at HG2
        have HX : Hid (hasC k cl = x) := hx
        have HTB := hid htb
        clear hx htb hok
        cases x
        · obtain rfl : false = b := (Bool.eq_false_iff.2 fun e => by
            have h := HB.out.1 e j (by omega)
            rw [HTr.out] at h
            have := hasC_iff.2 ⟨h.lo, h.hi⟩
            rw [HX.out] at this
            cases this).symm
          go_wp2_with (first | (go_at_call 20; refine (HG2.out.on _).mono ?_; rintro e w1 ⟨rfl, X1, rfl⟩) | (go_at_call 35; refine (HR.out.on _ (by repeat (with_reducible first | exact Jk.refl _ | apply Jk.junk | apply Jk.alloc))).mono ?_; rintro e w1 ⟨rfl, X2, rfl⟩))
          go_ret
          refine ⟨rfl, ?_⟩
          repeat (with_reducible first | exact (H0.out.trans HJ.out) | apply Jk.junk | apply Jk.alloc)
        · cases tb
          · obtain rfl : false = b := (Bool.eq_false_iff.2 fun e => by
              have h := HB.out.1 e j (by omega)
              rw [HTr.out] at h
              have := HTB.out.2 h.tree
              cases this).symm
            go_wp2_with (first | (go_at_call 20; refine (HG2.out.on _).mono ?_; rintro e w1 ⟨rfl, X1, rfl⟩) | (go_at_call 35; refine (HR.out.on _ (by repeat (with_reducible first | exact Jk.refl _ | apply Jk.junk | apply Jk.alloc))).mono ?_; rintro e w1 ⟨rfl, X2, rfl⟩))
            go_ret
            refine ⟨rfl, ?_⟩
            repeat (with_reducible first | exact (H0.out.trans HJ.out) | apply Jk.junk | apply Jk.alloc)
          · go_wp2_with (first | (go_at_call 20; refine (HG2.out.on _).mono ?_; rintro e w1 ⟨rfl, X1, rfl⟩) | (go_at_call 35; refine (HR.out.on _ (by repeat (with_reducible first | exact Jk.refl _ | apply Jk.junk | apply Jk.alloc))).mono ?_; rintro e w1 ⟨rfl, X2, rfl⟩))
            go_roundg r
            case measure => omega
            case rel => exact ⟨j + 1, by omega, by go_num, hid (TrsP.step HP.out (by
              have h := hasC_iff.1 HX.out
              rw [HTr.out]
              exact ⟨h.1, h.2, HTB.out.1 (by simp)⟩)), by repeat (with_reducible first | exact HJ | apply hid | exact HJ.out | apply Jk.junk | apply Jk.alloc)⟩
  · obtain rfl : false = b := (Bool.eq_false_iff.2 fun e => by
      have h := (hb.1 e).1
      rw [HL.out] at h
      exact h8 h).symm
    clear hb hT
    have hn8 : (8 : Int) < (n : Int) := by omega
    go_enter Try.func30, Try.ntmps30
    go_wp2
    go_ret
    exact ⟨rfl, (Jk.refl w).alloc _⟩

open Classical in
theorem right_bool (m : Md) : ∃ b : Bool, b = true ↔ RightM m := ⟨decide (RightM m), by simp⟩
open Classical in
set_option maxRecDepth 100000 in
set_option maxHeartbeats 1600000 in
theorem rightM_ans {m : Md} {b : Bool} {ww : World} (hw : m.ok ww) (hb : b = true ↔ RightM m) : AnsW ww 16 #[modelV m] (.bool b) := fun w hjw => by
  obtain ⟨d, k, b0, b1, b2, a, n, c, ts⟩ := m
  have hT := (hw.jk hjw).is
  simp only at hT
  have J := rules8
  obtain ⟨x, hx⟩ : ∃ x : Bool, x = true ↔ BiasP k b0 b1 b2 := ⟨decide (BiasP k b0 b1 b2), by simp⟩
  obtain ⟨y, hy⟩ : ∃ y : Bool, y = true ↔ TrsP k d ts := ⟨decide (TrsP k d ts), by simp⟩
  have HX : Hid (Ans 29 #[.agg #[.int .i64 d, .int .i64 k, .int .i64 b0, .int .i64 b1, .int .i64 b2, .slice a n c]] (.bool x)) := biases_ans hx
  have HY : Hid (AnsW w 30 #[.agg #[.int .i64 d, .int .i64 k, .int .i64 b0, .int .i64 b1, .int .i64 b2, .slice a n c]] (.bool y)) := trees_ans hT hy
  have HB : Hid (b = true ↔ 1 ≤ d ∧ d ≤ 4 ∧ 1 ≤ k ∧ k ≤ 3 ∧ x = true ∧ y = true) := by
    show b = true ↔ _
    rw [hb, hx, hy]
    exact ⟨fun ⟨h1, h2, h3, h4, h5, h6⟩ => ⟨h1, h2, h3, h4, h5, h6⟩, fun ⟨h1, h2, h3, h4, h5, h6⟩ => ⟨h1, h2, h3, h4, h5, h6⟩⟩
  clear hb hx hy hT hw hjw
  by_cases h1 : d < 1
  · obtain rfl : false = b := (Bool.eq_false_iff.2 fun e => by have := HB.out.1 e; omega).symm
    go_enter Try.func16, Try.ntmps16
    go_wp2
    go_ret
    exact ⟨rfl, (Jk.refl w).alloc _⟩
  by_cases h2 : 4 < d
  · obtain rfl : false = b := (Bool.eq_false_iff.2 fun e => by have := HB.out.1 e; omega).symm
    go_enter Try.func16, Try.ntmps16
    go_wp2
    go_ret
    exact ⟨rfl, (Jk.refl w).alloc _⟩
  by_cases h3 : k < 1
  · obtain rfl : false = b := (Bool.eq_false_iff.2 fun e => by have := HB.out.1 e; omega).symm
    go_enter Try.func16, Try.ntmps16
    go_wp2
    go_ret
    exact ⟨rfl, (Jk.refl w).alloc _⟩
  by_cases h4 : 3 < k
  · obtain rfl : false = b := (Bool.eq_false_iff.2 fun e => by have := HB.out.1 e; omega).symm
    go_enter Try.func16, Try.ntmps16
    go_wp2
    go_ret
    exact ⟨rfl, (Jk.refl w).alloc _⟩
  cases x
  · obtain rfl : false = b := (Bool.eq_false_iff.2 fun e => by have := HB.out.1 e; simp at this).symm
    go_enter Try.func16, Try.ntmps16
    go_wp2_with (first | (go_at_call 29; refine (HX.out.on _).mono ?_; rintro e w1 ⟨rfl, X1, rfl⟩) | (go_at_call 30; refine (HY.out.on _ (by repeat (with_reducible first | exact Jk.refl _ | apply Jk.junk | apply Jk.alloc))).mono ?_; rintro e w1 ⟨rfl, X2, rfl⟩))
    go_ret
    exact ⟨rfl, by repeat (with_reducible first | exact Jk.refl _ | apply Jk.junk | apply Jk.alloc)⟩
  · obtain rfl : y = b := by
      have := HB.out
      cases y <;> cases b <;> simp at this ⊢ <;> omega
    go_enter Try.func16, Try.ntmps16
    go_wp2_with (first | (go_at_call 29; refine (HX.out.on _).mono ?_; rintro e w1 ⟨rfl, X1, rfl⟩) | (go_at_call 30; refine (HY.out.on _ (by repeat (with_reducible first | exact Jk.refl _ | apply Jk.junk | apply Jk.alloc))).mono ?_; rintro e w1 ⟨rfl, X2, rfl⟩))
    go_ret
    exact ⟨rfl, by repeat (with_reducible first | exact Jk.refl _ | apply Jk.junk | apply Jk.alloc)⟩

end Go.Proofs.Ytndnijdpafcmoaa
