/- What rightTrees and Right of package model answer. -/
import Derived.Test.YtnjfbmnecfiliaaModelA
namespace Go.Proofs.Ytnjfbmnecfiliaa
open Go.RowKit M

theorem TrsP.step {k d : Int} {ts : List Tr} {j : Nat} (h : ∀ i, i < j → TrP k d (tA ts i)) (hj : TrP k d (tA ts j)) : ∀ i, i < j + 1 → TrP k d (tA ts i) := fun i hi => by
  by_cases e : i = j
  · exact e ▸ hj
  · exact h i (by omega)
open Classical in
set_option maxRecDepth 100000 in
set_option maxHeartbeats 1600000 in
theorem trees_ans {d k b0 b1 b2 : Int} {a : Option Addr} {n c : Nat} {ts : List Tr} {b : Bool} {ww : World} (hw : IsT ww a n c ts) (hb : b = true ↔ TrsP k d ts) : AnsW ww 25 #[.agg #[.int .i64 d, .int .i64 k, .int .i64 b0, .int .i64 b1, .int .i64 b2, .slice a n c]] (.bool b) := fun w hjw => by
  have J := rules8
  have hT := hw.jk hjw
  have HL : Hid (ts.length = n) := hT.len
  have hmax := hT.max
  have hcap := hT.cap
  unfold maxLen at hmax
  clear hw hjw
  by_cases h8 : n ≤ 8
  · have HB : Hid (b = true ↔ ∀ i, i < n → TrP k d (tA ts i)) := by
      show b = true ↔ _
      rw [hb, TrsP, HL.out]
      exact ⟨fun h => h.2, fun h => ⟨h8, h⟩⟩
    have HG : Hid (∀ C, Ans 26 #[.agg #[.int .i64 d, .int .i64 k, .int .i64 b0, .int .i64 b1, .int .i64 b2, .slice a n c], .int .i64 C] (.bool (hasB k C))) := fun C => has_ans d k b0 b1 b2 a n c C
    clear hb
    obtain ⟨w0, hw0⟩ : ∃ w0, w.alloc (.cells #[.int .i64 d, .int .i64 k, .int .i64 b0, .int .i64 b1, .int .i64 b2, .slice a n c] 29) = w0 := ⟨_, rfl⟩
    have HI : Hid (MdIn w0 w.heap.size ⟨d, k, b0, b1, b2, a, n, c, ts⟩) := hw0 ▸ MdIn.laid w ⟨d, k, b0, b1, b2, a, n, c, ts⟩ _
    have H0 : Hid (Jk w w0) := hw0 ▸ (Jk.refl w).alloc _
    have HT : Hid (IsT w0 a n c ts) := hT.jk H0.out
    clear hT
    have hc5 : w0.cell? ⟨w.heap.size, 5, none⟩ = some (.slice a n c) := HI.out.2.2.2.2.2.2
    have hn8 : ¬ (8 : Int) < (n : Int) := by omega
    go_enter Try.func25, Try.ntmps25
    go_wp2
    go_loopg [12] n (fun r i wr => ∃ j : Nat, j + r = n ∧ i = .int .i64 (j : Int) ∧ Hid (∀ q, q < j → TrP k d (tA ts q)) ∧ Hid (Jk w0 wr))
    case atStart => exact ⟨0, by omega, rfl, hid fun q hq => by omega, hid (Jk.refl _)⟩
    case round =>
      obtain ⟨j, hj, rfl, HP, HJ⟩ := hrel
      clear hc5
      obtain ⟨s1, c0, c1, c2, c3, c4, c5⟩ := HI.out.jk HJ.out
      simp only at c0 c1 c2 c3 c4 c5
      by_cases hfuel : gk = 0
      · subst hfuel
        obtain rfl : j = n := by omega
        obtain rfl : true = b := (HB.out.2 HP.out).symm
        go_wp2
        go_ret
        exact ⟨rfl, H0.out.trans HJ.out⟩
      · obtain ⟨r, rfl⟩ : ∃ r, gk = r + 1 := ⟨gk - 1, by omega⟩
        have hjn : (j : Int) < (n : Int) := by omega
        obtain ⟨g, o, rfl, hg, hat⟩ := HT.out.lies (by omega)
        have hgr : g < wr.heap.size := Nat.lt_of_lt_of_le hg HJ.out.below.size
        obtain ⟨k0, k1⟩ := (hat.jk HJ.out hg) j (by rw [HL.out]; omega)
        have hok := (HT.out.all j (by omega)).jk HJ.out
        obtain ⟨t, ht⟩ : ∃ t, tA ts j = t := ⟨_, rfl⟩
        have HTr : Hid (tA ts j = t) := ht
        rw [ht] at k0 k1 hok
        clear ht hat
        obtain ⟨cl, ta, tn, tc, tw⟩ := t
        simp only at k0 k1
        obtain ⟨tb, htb⟩ : ∃ tb : Bool, tb = true ↔ TreeP tw d := ⟨decide (TreeP tw d), by simp⟩
        have HR := hid (right_tree hok.is htb)
        simp only at HR
        have HG2 := hid (HG.out cl)
        obtain ⟨x, hx⟩ : ∃ x, hasB k cl = x := ⟨_, rfl⟩
        rw [hx] at HG2
        have HX : Hid (hasB k cl = x) := hx
        have HTB := hid htb
        clear hx htb hok
        cases x
        · obtain rfl : false = b := (Bool.eq_false_iff.2 fun e => by
            have h := HB.out.1 e j (by omega)
            rw [HTr.out] at h
            have := hasB_iff.2 ⟨h.lo, h.hi⟩
            rw [HX.out] at this
            cases this).symm
          go_wp2_with (first | (go_at_call 26; refine (HG2.out.on _).mono ?_; rintro e w1 ⟨rfl, X1, rfl⟩) | (go_at_call 42; refine (HR.out.on _ (by repeat (with_reducible first | exact Jk.refl _ | apply Jk.junk | apply Jk.alloc))).mono ?_; rintro e w1 ⟨rfl, X2, rfl⟩))
          go_ret
          refine ⟨rfl, ?_⟩
          repeat (with_reducible first | exact (H0.out.trans HJ.out) | apply Jk.junk | apply Jk.alloc)
        · cases tb
          · obtain rfl : false = b := (Bool.eq_false_iff.2 fun e => by
              have h := HB.out.1 e j (by omega)
              rw [HTr.out] at h
              have := HTB.out.2 h.tree
              cases this).symm
            go_wp2_with (first | (go_at_call 26; refine (HG2.out.on _).mono ?_; rintro e w1 ⟨rfl, X1, rfl⟩) | (go_at_call 42; refine (HR.out.on _ (by repeat (with_reducible first | exact Jk.refl _ | apply Jk.junk | apply Jk.alloc))).mono ?_; rintro e w1 ⟨rfl, X2, rfl⟩))
            go_ret
            refine ⟨rfl, ?_⟩
            repeat (with_reducible first | exact (H0.out.trans HJ.out) | apply Jk.junk | apply Jk.alloc)
          · go_wp2_with (first | (go_at_call 26; refine (HG2.out.on _).mono ?_; rintro e w1 ⟨rfl, X1, rfl⟩) | (go_at_call 42; refine (HR.out.on _ (by repeat (with_reducible first | exact Jk.refl _ | apply Jk.junk | apply Jk.alloc))).mono ?_; rintro e w1 ⟨rfl, X2, rfl⟩))
            go_roundg r
            case measure => omega
            case rel => exact ⟨j + 1, by omega, by go_num, hid (TrsP.step HP.out (by
              have h := hasB_iff.1 HX.out
              rw [HTr.out]
              exact ⟨h.1, h.2, HTB.out.1 (by simp)⟩)), by repeat (with_reducible first | exact HJ | apply hid | exact HJ.out | apply Jk.junk | apply Jk.alloc)⟩
  · obtain rfl : false = b := (Bool.eq_false_iff.2 fun e => by
      have h := (hb.1 e).1
      rw [HL.out] at h
      exact h8 h).symm
    clear hb hT
    have hn8 : (8 : Int) < (n : Int) := by omega
    go_enter Try.func25, Try.ntmps25
    go_wp2
    go_ret
    exact ⟨rfl, (Jk.refl w).alloc _⟩


open Classical in
theorem right_bool (m : Md) : ∃ b : Bool, b = true ↔ RightM m := ⟨decide (RightM m), by simp⟩
open Classical in
set_option maxRecDepth 100000 in
set_option maxHeartbeats 1600000 in
theorem rightM_ans {m : Md} {b : Bool} {ww : World} (hw : m.ok ww) (hb : b = true ↔ RightM m) : AnsW ww 10 #[modelV m] (.bool b) := fun w hjw => by
  obtain ⟨d, k, b0, b1, b2, a, n, c, ts⟩ := m
  have hT := (hw.jk hjw).is
  simp only at hT
  have J := rules8
  obtain ⟨x, hx⟩ : ∃ x : Bool, x = true ↔ BiasP k b0 b1 b2 := ⟨decide (BiasP k b0 b1 b2), by simp⟩
  obtain ⟨y, hy⟩ : ∃ y : Bool, y = true ↔ TrsP k d ts := ⟨decide (TrsP k d ts), by simp⟩
  have HX : Hid (Ans 24 #[.agg #[.int .i64 d, .int .i64 k, .int .i64 b0, .int .i64 b1, .int .i64 b2, .slice a n c]] (.bool x)) := biases_ans hx
  have HY : Hid (AnsW w 25 #[.agg #[.int .i64 d, .int .i64 k, .int .i64 b0, .int .i64 b1, .int .i64 b2, .slice a n c]] (.bool y)) := trees_ans hT hy
  have HB : Hid (b = true ↔ 1 ≤ d ∧ d ≤ 4 ∧ 1 ≤ k ∧ k ≤ 3 ∧ x = true ∧ y = true) := by
    show b = true ↔ _
    rw [hb, hx, hy]
    exact ⟨fun ⟨h1, h2, h3, h4, h5, h6⟩ => ⟨h1, h2, h3, h4, h5, h6⟩, fun ⟨h1, h2, h3, h4, h5, h6⟩ => ⟨h1, h2, h3, h4, h5, h6⟩⟩
  clear hb hx hy hT hw hjw
  by_cases h1 : d < 1
  · obtain rfl : false = b := (Bool.eq_false_iff.2 fun e => by have := HB.out.1 e; omega).symm
    go_enter Try.func10, Try.ntmps10
    go_wp2
    go_ret
    exact ⟨rfl, (Jk.refl w).alloc _⟩
  by_cases h2 : 4 < d
  · obtain rfl : false = b := (Bool.eq_false_iff.2 fun e => by have := HB.out.1 e; omega).symm
    go_enter Try.func10, Try.ntmps10
    go_wp2
    go_ret
    exact ⟨rfl, (Jk.refl w).alloc _⟩
  by_cases h3 : k < 1
  · obtain rfl : false = b := (Bool.eq_false_iff.2 fun e => by have := HB.out.1 e; omega).symm
    go_enter Try.func10, Try.ntmps10
    go_wp2
    go_ret
    exact ⟨rfl, (Jk.refl w).alloc _⟩
  by_cases h4 : 3 < k
  · obtain rfl : false = b := (Bool.eq_false_iff.2 fun e => by have := HB.out.1 e; omega).symm
    go_enter Try.func10, Try.ntmps10
    go_wp2
    go_ret
    exact ⟨rfl, (Jk.refl w).alloc _⟩
  cases x
  · obtain rfl : false = b := (Bool.eq_false_iff.2 fun e => by have := HB.out.1 e; simp at this).symm
    go_enter Try.func10, Try.ntmps10
    go_wp2_with (first | (go_at_call 24; refine (HX.out.on _).mono ?_; rintro e w1 ⟨rfl, X1, rfl⟩) | (go_at_call 25; refine (HY.out.on _ (by repeat (with_reducible first | exact Jk.refl _ | apply Jk.junk | apply Jk.alloc))).mono ?_; rintro e w1 ⟨rfl, X2, rfl⟩))
    go_ret
    exact ⟨rfl, by repeat (with_reducible first | exact Jk.refl _ | apply Jk.junk | apply Jk.alloc)⟩
  · obtain rfl : y = b := by
      have := HB.out
      cases y <;> cases b <;> simp at this ⊢ <;> omega
    go_enter Try.func10, Try.ntmps10
    go_wp2_with (first | (go_at_call 24; refine (HX.out.on _).mono ?_; rintro e w1 ⟨rfl, X1, rfl⟩) | (go_at_call 25; refine (HY.out.on _ (by repeat (with_reducible first | exact Jk.refl _ | apply Jk.junk | apply Jk.alloc))).mono ?_; rintro e w1 ⟨rfl, X2, rfl⟩))
    go_ret
    exact ⟨rfl, by repeat (with_reducible first | exact Jk.refl _ | apply Jk.junk | apply Jk.alloc)⟩

end Go.Proofs.Ytnjfbmnecfiliaa
