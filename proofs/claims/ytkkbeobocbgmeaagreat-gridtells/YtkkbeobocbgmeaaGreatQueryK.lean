/- What rightKind and Right of package query answer. -/
import Derived.Test.YtkkbeobocbgmeaaGreatQueryC
namespace Go.Proofs.YtkkbeobocbgmeaaGreat
open Go.RowKit M

set_option maxRecDepth 100000 in
set_option maxHeartbeats 3200000 in
theorem kind_ok {m : Md} {q : Qy} {b : Bool} (hb : b = true ↔ kindR m q) : Ans 52 #[modelV m, queryV q] (.bool b) := fun w => by
  have J := rules8
  have HB := hid hb
  clear hb
  obtain ⟨d, k, b0, b1, b2, ma, mn, mc, ts⟩ := m
  obtain ⟨kd, cl, ⟨⟨ra, rb⟩, ⟨rc, rd⟩, ⟨re, rf⟩, ⟨rg, rh⟩, ⟨ri, rj⟩⟩, lo, hi, f, fa, bu⟩ := q
  simp only [kindR] at HB
  by_cases h1 : kd = 1
  · subst h1
    by_cases h2 : lo ≤ hi
    rotate_left
    · obtain rfl : false = b := (Bool.eq_false_iff.2 fun e => by rcases HB.out.1 e with ⟨h1, h2, h3, h4⟩ | ⟨h1, h2, h3, h4, h5, h6⟩ | ⟨h1, h2, h3, h4, h5⟩ <;> first | omega | (cases h4; done) | (cases h6; done)).symm
      clear HB
      go_enter Tryz.func52, Tryz.ntmps52
      go_wp2
      go_ret
      exact ⟨by first | rfl | exact ret_bool (by simp [*]), ((Jk.refl w).alloc _).alloc _⟩
    by_cases h3 : f = 0
    rotate_left
    · obtain rfl : false = b := (Bool.eq_false_iff.2 fun e => by rcases HB.out.1 e with ⟨h1, h2, h3, h4⟩ | ⟨h1, h2, h3, h4, h5, h6⟩ | ⟨h1, h2, h3, h4, h5⟩ <;> first | omega | (cases h4; done) | (cases h6; done)).symm
      clear HB
      go_enter Tryz.func52, Tryz.ntmps52
      go_wp2
      go_ret
      exact ⟨by first | rfl | exact ret_bool (by simp [*]), ((Jk.refl w).alloc _).alloc _⟩
    subst h3
    cases fa
    · obtain rfl : true = b := (HB.out.2 (.inl ⟨rfl, by assumption, rfl, rfl⟩)).symm
      clear HB
      go_enter Tryz.func52, Tryz.ntmps52
      go_wp2
      go_ret
      exact ⟨by first | rfl | exact ret_bool (by simp [*]), ((Jk.refl w).alloc _).alloc _⟩
    · obtain rfl : false = b := (Bool.eq_false_iff.2 fun e => by rcases HB.out.1 e with ⟨h1, h2, h3, h4⟩ | ⟨h1, h2, h3, h4, h5, h6⟩ | ⟨h1, h2, h3, h4, h5⟩ <;> first | omega | (cases h4; done) | (cases h6; done)).symm
      clear HB
      go_enter Tryz.func52, Tryz.ntmps52
      go_wp2
      go_ret
      exact ⟨by first | rfl | exact ret_bool (by simp [*]), ((Jk.refl w).alloc _).alloc _⟩
  by_cases h2 : kd = 2
  · subst h2
    by_cases hk : 2 ≤ k
    rotate_left
    · obtain rfl : false = b := (Bool.eq_false_iff.2 fun e => by rcases HB.out.1 e with ⟨h1, h2, h3, h4⟩ | ⟨h1, h2, h3, h4, h5, h6⟩ | ⟨h1, h2, h3, h4, h5⟩ <;> first | omega | (cases h4; done) | (cases h6; done)).symm
      clear HB
      go_enter Tryz.func52, Tryz.ntmps52
      go_wp2
      go_ret
      exact ⟨by first | rfl | exact ret_bool (by simp [*]), ((Jk.refl w).alloc _).alloc _⟩
    by_cases h2 : lo = 0
    rotate_left
    · obtain rfl : false = b := (Bool.eq_false_iff.2 fun e => by rcases HB.out.1 e with ⟨h1, h2, h3, h4⟩ | ⟨h1, h2, h3, h4, h5, h6⟩ | ⟨h1, h2, h3, h4, h5⟩ <;> first | omega | (cases h4; done) | (cases h6; done)).symm
      clear HB
      go_enter Tryz.func52, Tryz.ntmps52
      go_wp2
      go_ret
      exact ⟨by first | rfl | exact ret_bool (by simp [*]), ((Jk.refl w).alloc _).alloc _⟩
    subst h2
    by_cases h3 : hi = 0
    rotate_left
    · obtain rfl : false = b := (Bool.eq_false_iff.2 fun e => by rcases HB.out.1 e with ⟨h1, h2, h3, h4⟩ | ⟨h1, h2, h3, h4, h5, h6⟩ | ⟨h1, h2, h3, h4, h5⟩ <;> first | omega | (cases h4; done) | (cases h6; done)).symm
      clear HB
      go_enter Tryz.func52, Tryz.ntmps52
      go_wp2
      go_ret
      exact ⟨by first | rfl | exact ret_bool (by simp [*]), ((Jk.refl w).alloc _).alloc _⟩
    subst h3
    by_cases h4 : f = 0
    rotate_left
    · obtain rfl : false = b := (Bool.eq_false_iff.2 fun e => by rcases HB.out.1 e with ⟨h1, h2, h3, h4⟩ | ⟨h1, h2, h3, h4, h5, h6⟩ | ⟨h1, h2, h3, h4, h5⟩ <;> first | omega | (cases h4; done) | (cases h6; done)).symm
      clear HB
      go_enter Tryz.func52, Tryz.ntmps52
      go_wp2
      go_ret
      exact ⟨by first | rfl | exact ret_bool (by simp [*]), ((Jk.refl w).alloc _).alloc _⟩
    subst h4
    cases fa
    · obtain rfl : true = b := (HB.out.2 (.inr (.inl ⟨rfl, by assumption, rfl, rfl, rfl, rfl⟩))).symm
      clear HB
      go_enter Tryz.func52, Tryz.ntmps52
      go_wp2
      go_ret
      exact ⟨by first | rfl | exact ret_bool (by simp [*]), ((Jk.refl w).alloc _).alloc _⟩
    · obtain rfl : false = b := (Bool.eq_false_iff.2 fun e => by rcases HB.out.1 e with ⟨h1, h2, h3, h4⟩ | ⟨h1, h2, h3, h4, h5, h6⟩ | ⟨h1, h2, h3, h4, h5⟩ <;> first | omega | (cases h4; done) | (cases h6; done)).symm
      clear HB
      go_enter Tryz.func52, Tryz.ntmps52
      go_wp2
      go_ret
      exact ⟨by first | rfl | exact ret_bool (by simp [*]), ((Jk.refl w).alloc _).alloc _⟩
  by_cases h3 : kd = 3
  · subst h3
    by_cases h4 : 0 ≤ f
    rotate_left
    · obtain rfl : false = b := (Bool.eq_false_iff.2 fun e => by rcases HB.out.1 e with ⟨h1, h2, h3, h4⟩ | ⟨h1, h2, h3, h4, h5, h6⟩ | ⟨h1, h2, h3, h4, h5⟩ <;> first | omega | (cases h4; done) | (cases h6; done)).symm
      clear HB
      go_enter Tryz.func52, Tryz.ntmps52
      go_wp2
      go_ret
      exact ⟨by first | rfl | exact ret_bool (by simp [*]), ((Jk.refl w).alloc _).alloc _⟩
    by_cases h5 : f < d
    rotate_left
    · obtain rfl : false = b := (Bool.eq_false_iff.2 fun e => by rcases HB.out.1 e with ⟨h1, h2, h3, h4⟩ | ⟨h1, h2, h3, h4, h5, h6⟩ | ⟨h1, h2, h3, h4, h5⟩ <;> first | omega | (cases h4; done) | (cases h6; done)).symm
      clear HB
      go_enter Tryz.func52, Tryz.ntmps52
      go_wp2
      go_ret
      exact ⟨by first | rfl | exact ret_bool (by simp [*]), ((Jk.refl w).alloc _).alloc _⟩
    by_cases h6 : lo = 0
    rotate_left
    · obtain rfl : false = b := (Bool.eq_false_iff.2 fun e => by rcases HB.out.1 e with ⟨h1, h2, h3, h4⟩ | ⟨h1, h2, h3, h4, h5, h6⟩ | ⟨h1, h2, h3, h4, h5⟩ <;> first | omega | (cases h4; done) | (cases h6; done)).symm
      clear HB
      go_enter Tryz.func52, Tryz.ntmps52
      go_wp2
      go_ret
      exact ⟨by first | rfl | exact ret_bool (by simp [*]), ((Jk.refl w).alloc _).alloc _⟩
    subst h6
    by_cases h7 : hi = 0
    rotate_left
    · obtain rfl : false = b := (Bool.eq_false_iff.2 fun e => by rcases HB.out.1 e with ⟨h1, h2, h3, h4⟩ | ⟨h1, h2, h3, h4, h5, h6⟩ | ⟨h1, h2, h3, h4, h5⟩ <;> first | omega | (cases h4; done) | (cases h6; done)).symm
      clear HB
      go_enter Tryz.func52, Tryz.ntmps52
      go_wp2
      go_ret
      exact ⟨by first | rfl | exact ret_bool (by simp [*]), ((Jk.refl w).alloc _).alloc _⟩
    subst h7
    obtain rfl : true = b := (HB.out.2 (.inr (.inr ⟨rfl, by assumption, by assumption, rfl, rfl⟩))).symm
    clear HB
    go_enter Tryz.func52, Tryz.ntmps52
    go_wp2
    go_ret
    exact ⟨by first | rfl | exact ret_bool (by simp [*]), ((Jk.refl w).alloc _).alloc _⟩
  obtain rfl : false = b := (Bool.eq_false_iff.2 fun e => by rcases HB.out.1 e with ⟨h1, h2, h3, h4⟩ | ⟨h1, h2, h3, h4, h5, h6⟩ | ⟨h1, h2, h3, h4, h5⟩ <;> first | omega | (cases h4; done) | (cases h6; done)).symm
  clear HB
  go_enter Tryz.func52, Tryz.ntmps52
  go_wp2
  go_ret
  exact ⟨by first | rfl | exact ret_bool (by simp [*]), ((Jk.refl w).alloc _).alloc _⟩

open Classical in
set_option maxRecDepth 100000 in
set_option maxHeartbeats 3200000 in
theorem qright_ans {m : Md} {q : Qy} {b : Bool} {ww : World} (hm : m.ok ww) (hb : b = true ↔ RightQ m q) : AnsW ww 35 #[modelV m, queryV q] (.bool b) := fun w hjw => by
  have J := rules8
  obtain ⟨x, hx⟩ : ∃ x : Bool, x = true ↔ RightM m := right_bool m
  obtain ⟨y, hy⟩ : ∃ y : Bool, y = true ↔ spansR m.d q.rg := ⟨decide (spansR m.d q.rg), by simp⟩
  obtain ⟨z, hz⟩ : ∃ z : Bool, z = true ↔ kindR m q := ⟨decide (kindR m q), by simp⟩
  have HX := hid (rightM_ans (hm.jk hjw) hx)
  have HY := hid (region_ok hy)
  have HZ := hid (kind_ok hz)
  have HB : Hid (b = true ↔ x = true ∧ 0 ≤ q.cl ∧ q.cl < m.k ∧ 0 ≤ q.bu ∧ q.bu ≤ 65536 ∧ y = true ∧ z = true) := by
    show b = true ↔ _
    rw [hb, hx, hy, hz]
    exact ⟨fun ⟨h1, h2, h3, h4, h5, h6, h7⟩ => ⟨h1, h2, h3, h4, h5, h6, h7⟩, fun ⟨h1, h2, h3, h4, h5, h6, h7⟩ => ⟨h1, h2, h3, h4, h5, h6, h7⟩⟩
  clear hb hx hy hz hm hjw
  obtain ⟨d, k, b0, b1, b2, ma, mn, mc, ts⟩ := m
  obtain ⟨kd, cl, ⟨⟨ra, rb⟩, ⟨rc, rd⟩, ⟨re, rf⟩, ⟨rg, rh⟩, ⟨ri, rj⟩⟩, lo, hi, f, fa, bu⟩ := q
  obtain ⟨hc, hce⟩ : ∃ z, hasC k cl = z := ⟨_, rfl⟩
  have HC : Hid (Ans 50 #[.agg #[.int .i64 d, .int .i64 k, .int .i64 b0, .int .i64 b1, .int .i64 b2, .slice ma mn mc], .int .i64 cl] (.bool hc)) := hce ▸ hasc_ans d k b0 b1 b2 ma mn mc cl
  have HCe : Hid (hc = true ↔ 0 ≤ cl ∧ cl < k) := hce ▸ hasC_iff
  clear hce
  simp only [modelV, queryV, boxV] at HX HY HZ ⊢
  simp only at HB
  cases x
  · obtain rfl : false = b := (Bool.eq_false_iff.2 fun e => by have := (HB.out.1 e).1; cases this).symm
    go_enter Tryz.func35, Tryz.ntmps35
    go_wp2_with (first | (go_at_call 42; refine (HX.out.on _ (by repeat (with_reducible first | exact Jk.refl _ | apply Jk.junk | apply Jk.alloc))).mono ?_; rintro e w1 ⟨rfl, X1, rfl⟩) | (go_at_call 50; refine (HC.out.on _).mono ?_; rintro e w2 ⟨rfl, X2, rfl⟩) | (go_at_call 51; refine (HY.out.on _).mono ?_; rintro e w3 ⟨rfl, X3, rfl⟩) | (go_at_call 52; refine (HZ.out.on _).mono ?_; rintro e w4 ⟨rfl, X4, rfl⟩))
    go_ret
    exact ⟨rfl, by repeat (with_reducible first | exact Jk.refl _ | apply Jk.junk | apply Jk.alloc)⟩
  cases hc
  · obtain rfl : false = b := (Bool.eq_false_iff.2 fun e => by have := HB.out.1 e; exact absurd (HCe.out.2 ⟨this.2.1, this.2.2.1⟩) (by simp)).symm
    go_enter Tryz.func35, Tryz.ntmps35
    go_wp2_with (first | (go_at_call 42; refine (HX.out.on _ (by repeat (with_reducible first | exact Jk.refl _ | apply Jk.junk | apply Jk.alloc))).mono ?_; rintro e w1 ⟨rfl, X1, rfl⟩) | (go_at_call 50; refine (HC.out.on _).mono ?_; rintro e w2 ⟨rfl, X2, rfl⟩) | (go_at_call 51; refine (HY.out.on _).mono ?_; rintro e w3 ⟨rfl, X3, rfl⟩) | (go_at_call 52; refine (HZ.out.on _).mono ?_; rintro e w4 ⟨rfl, X4, rfl⟩))
    go_ret
    exact ⟨rfl, by repeat (with_reducible first | exact Jk.refl _ | apply Jk.junk | apply Jk.alloc)⟩
  have hcc := HCe.out.1 rfl
  by_cases h1 : bu < 0
  · obtain rfl : false = b := (Bool.eq_false_iff.2 fun e => by have := HB.out.1 e; omega).symm
    go_enter Tryz.func35, Tryz.ntmps35
    go_wp2_with (first | (go_at_call 42; refine (HX.out.on _ (by repeat (with_reducible first | exact Jk.refl _ | apply Jk.junk | apply Jk.alloc))).mono ?_; rintro e w1 ⟨rfl, X1, rfl⟩) | (go_at_call 50; refine (HC.out.on _).mono ?_; rintro e w2 ⟨rfl, X2, rfl⟩) | (go_at_call 51; refine (HY.out.on _).mono ?_; rintro e w3 ⟨rfl, X3, rfl⟩) | (go_at_call 52; refine (HZ.out.on _).mono ?_; rintro e w4 ⟨rfl, X4, rfl⟩))
    go_ret
    exact ⟨rfl, by repeat (with_reducible first | exact Jk.refl _ | apply Jk.junk | apply Jk.alloc)⟩
  by_cases h2 : 65536 < bu
  · obtain rfl : false = b := (Bool.eq_false_iff.2 fun e => by have := HB.out.1 e; omega).symm
    go_enter Tryz.func35, Tryz.ntmps35
    go_wp2_with (first | (go_at_call 42; refine (HX.out.on _ (by repeat (with_reducible first | exact Jk.refl _ | apply Jk.junk | apply Jk.alloc))).mono ?_; rintro e w1 ⟨rfl, X1, rfl⟩) | (go_at_call 50; refine (HC.out.on _).mono ?_; rintro e w2 ⟨rfl, X2, rfl⟩) | (go_at_call 51; refine (HY.out.on _).mono ?_; rintro e w3 ⟨rfl, X3, rfl⟩) | (go_at_call 52; refine (HZ.out.on _).mono ?_; rintro e w4 ⟨rfl, X4, rfl⟩))
    go_ret
    exact ⟨rfl, by repeat (with_reducible first | exact Jk.refl _ | apply Jk.junk | apply Jk.alloc)⟩
  cases y
  · obtain rfl : false = b := (Bool.eq_false_iff.2 fun e => by have := (HB.out.1 e).2.2.2.2.2.1; cases this).symm
    go_enter Tryz.func35, Tryz.ntmps35
    go_wp2_with (first | (go_at_call 42; refine (HX.out.on _ (by repeat (with_reducible first | exact Jk.refl _ | apply Jk.junk | apply Jk.alloc))).mono ?_; rintro e w1 ⟨rfl, X1, rfl⟩) | (go_at_call 50; refine (HC.out.on _).mono ?_; rintro e w2 ⟨rfl, X2, rfl⟩) | (go_at_call 51; refine (HY.out.on _).mono ?_; rintro e w3 ⟨rfl, X3, rfl⟩) | (go_at_call 52; refine (HZ.out.on _).mono ?_; rintro e w4 ⟨rfl, X4, rfl⟩))
    go_ret
    exact ⟨rfl, by repeat (with_reducible first | exact Jk.refl _ | apply Jk.junk | apply Jk.alloc)⟩
  obtain rfl : z = b := by
    have := HB.out
    cases z <;> cases b <;> simp at this ⊢ <;> omega
  go_enter Tryz.func35, Tryz.ntmps35
  go_wp2_with (first | (go_at_call 42; refine (HX.out.on _ (by repeat (with_reducible first | exact Jk.refl _ | apply Jk.junk | apply Jk.alloc))).mono ?_; rintro e w1 ⟨rfl, X1, rfl⟩) | (go_at_call 50; refine (HC.out.on _).mono ?_; rintro e w2 ⟨rfl, X2, rfl⟩) | (go_at_call 51; refine (HY.out.on _).mono ?_; rintro e w3 ⟨rfl, X3, rfl⟩) | (go_at_call 52; refine (HZ.out.on _).mono ?_; rintro e w4 ⟨rfl, X4, rfl⟩))
  go_ret
  exact ⟨rfl, by repeat (with_reducible first | exact Jk.refl _ | apply Jk.junk | apply Jk.alloc)⟩

end Go.Proofs.YtkkbeobocbgmeaaGreat
