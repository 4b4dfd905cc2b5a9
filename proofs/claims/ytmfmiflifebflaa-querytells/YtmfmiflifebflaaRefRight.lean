/- What the document's own Right of chapter 10 answers. -/
import Derived.Test.YtmfmiflifebflaaQueryK
import Derived.Test.YtmfmiflifebflaaRefModel
namespace Go.Proofs.Ytmfmiflifebflaa
open Go.RowKit M


set_option maxRecDepth 100000 in
set_option maxHeartbeats 6400000 in
theorem rright_q {m : Md} {q : Qy} {b : Bool} {ww : World} (hm : m.ok ww) (hb : b = true ↔ RightQ m q) : AnsW ww 14 #[modelV m, queryV q] (.bool b) := fun w hjw => by
  have J := rules8
  obtain ⟨x, hx⟩ : ∃ x : Bool, x = true ↔ RightM m := right_bool m
  have HX0 := hid (rrightM_ans (hm.jk hjw) hx)
  have HB : Hid (b = true ↔ x = true ∧ 0 ≤ q.cl ∧ q.cl < m.k ∧ 0 ≤ q.bu ∧ q.bu ≤ 65536 ∧ (∀ j : Nat, j < 5 → placeR m.d (j : Int) (q.rg.at (j : Int))) ∧ kindR m q) := by
    show b = true ↔ _
    rw [hb, hx, ← spansR_at]
    exact ⟨fun ⟨h1, h2, h3, h4, h5, h6, h7⟩ => ⟨h1, h2, h3, h4, h5, h6, h7⟩, fun ⟨h1, h2, h3, h4, h5, h6, h7⟩ => ⟨h1, h2, h3, h4, h5, h6, h7⟩⟩
  have HIx : Hid (∀ (j : Nat) (w : World), j < 5 → (Instr.index 30 (boxV q.rg) (.int .i64 (j : Int))).run Try.prog w = .ok (spV (q.rg.at (j : Int))) w) := fun j w hj => ix_at q.rg hj w
  obtain ⟨S, hS⟩ : ∃ S : Nat → Sp, ∀ j : Nat, q.rg.at (j : Int) = S j := ⟨_, fun _ => rfl⟩
  simp only [hS] at HB HIx
  clear hb hx hm hjw hS
  obtain ⟨d, k, b0, b1, b2, ma, mn, mc, ts⟩ := m
  obtain ⟨kd, cl, ⟨⟨ra, rb⟩, ⟨rc, rd⟩, ⟨re, rf⟩, ⟨rg, rh⟩, ⟨ri, rj⟩⟩, lo, hi, f, fa, bu⟩ := q
  simp only [modelV, queryV, boxV] at HX0 HIx ⊢
  simp only [kindR] at HB
  obtain ⟨w0, hw0⟩ : ∃ w0, (w.alloc (.cells #[.int .i64 d, .int .i64 k, .int .i64 b0, .int .i64 b1, .int .i64 b2, .slice ma mn mc] 25)).alloc (.cells #[.int .i64 kd, .int .i64 cl, .int .i64 ra, .int .i64 rb, .int .i64 rc, .int .i64 rd, .int .i64 re, .int .i64 rf, .int .i64 rg, .int .i64 rh, .int .i64 ri, .int .i64 rj, .int .i64 lo, .int .i64 hi, .int .i64 f, .bool fa, .int .i64 bu] 32) = w0 := ⟨_, rfl⟩
  have HJ0 : Hid (Jk w w0) := hw0 ▸ ((Jk.refl w).alloc _).alloc _
  have HM : Hid (MdIn w0 w.heap.size ⟨d, k, b0, b1, b2, ma, mn, mc, ts⟩) := by
    rw [← hw0]
    exact (MdIn.laid w ⟨d, k, b0, b1, b2, ma, mn, mc, ts⟩ _).jk ((Jk.refl _).alloc _)
  have HQ : Hid (QyB w0 (w.heap.size + 1) ⟨kd, cl, ⟨⟨ra, rb⟩, ⟨rc, rd⟩, ⟨re, rf⟩, ⟨rg, rh⟩, ⟨ri, rj⟩⟩, lo, hi, f, fa, bu⟩) := by
    rw [← hw0]
    have := QyB.laid (w.alloc (.cells #[.int .i64 d, .int .i64 k, .int .i64 b0, .int .i64 b1, .int .i64 b2, .slice ma mn mc] 25)) ⟨kd, cl, ⟨⟨ra, rb⟩, ⟨rc, rd⟩, ⟨re, rf⟩, ⟨rg, rh⟩, ⟨ri, rj⟩⟩, lo, hi, f, fa, bu⟩
    rwa [World.size_alloc] at this
  have HX := hid (HX0.out.up HJ0.out)
  clear HX0
  obtain ⟨m0, m1, m2, m3, m4, m5, m6⟩ := HM.out
  obtain ⟨q0, q1, q2, q3, q4, q5, q6, q7, q8, q9, q10, q11, q12, q13, q14, q15, q16⟩ := HQ.out.in
  have ql := HQ.out.lt
  simp only at m1 m2 m3 m4 m5 m6 q0 q1 q2 q3 q4 q5 q6 q7 q8 q9 q10 q11 q12 q13 q14 q15 q16
  cases x
  · obtain rfl : false = b := (Bool.eq_false_iff.2 fun e => by have := (HB.out.1 e).1; cases this).symm
    go_enter Try.func14, Try.ntmps14
    go_wp2_with (first | (go_at_call 34; refine (HX.out.on _ (by exact Jk.refl _)).mono ?_; rintro e w1 ⟨rfl, hj1⟩; have HJ1 := hid hj1; clear hj1; clear m0 m1 m2 m3 m4 m5 m6 q0 q1 q2 q3 q4 q5 q6 q7 q8 q9 q10 q11 q12 q13 q14 q15 q16; obtain ⟨m0, m1, m2, m3, m4, m5, m6⟩ := HM.out.jk HJ1.out; obtain ⟨q0, q1, q2, q3, q4, q5, q6, q7, q8, q9, q10, q11, q12, q13, q14, q15, q16⟩ := (HQ.out.jk HJ1.out).in; simp only at m1 m2 m3 m4 m5 m6 q0 q1 q2 q3 q4 q5 q6 q7 q8 q9 q10 q11 q12 q13 q14 q15 q16))
    go_ret
    exact ⟨rfl, HJ0.out.trans HJ1.out⟩
  by_cases h1 : cl < 0
  · obtain rfl : false = b := (Bool.eq_false_iff.2 fun e => by have := HB.out.1 e; omega).symm
    go_enter Try.func14, Try.ntmps14
    go_wp2_with (first | (go_at_call 34; refine (HX.out.on _ (by exact Jk.refl _)).mono ?_; rintro e w1 ⟨rfl, hj1⟩; have HJ1 := hid hj1; clear hj1; clear m0 m1 m2 m3 m4 m5 m6 q0 q1 q2 q3 q4 q5 q6 q7 q8 q9 q10 q11 q12 q13 q14 q15 q16; obtain ⟨m0, m1, m2, m3, m4, m5, m6⟩ := HM.out.jk HJ1.out; obtain ⟨q0, q1, q2, q3, q4, q5, q6, q7, q8, q9, q10, q11, q12, q13, q14, q15, q16⟩ := (HQ.out.jk HJ1.out).in; simp only at m1 m2 m3 m4 m5 m6 q0 q1 q2 q3 q4 q5 q6 q7 q8 q9 q10 q11 q12 q13 q14 q15 q16))
    go_ret
    exact ⟨rfl, HJ0.out.trans HJ1.out⟩
  by_cases h2 : k ≤ cl
  · obtain rfl : false = b := (Bool.eq_false_iff.2 fun e => by have := HB.out.1 e; omega).symm
    go_enter Try.func14, Try.ntmps14
    go_wp2_with (first | (go_at_call 34; refine (HX.out.on _ (by exact Jk.refl _)).mono ?_; rintro e w1 ⟨rfl, hj1⟩; have HJ1 := hid hj1; clear hj1; clear m0 m1 m2 m3 m4 m5 m6 q0 q1 q2 q3 q4 q5 q6 q7 q8 q9 q10 q11 q12 q13 q14 q15 q16; obtain ⟨m0, m1, m2, m3, m4, m5, m6⟩ := HM.out.jk HJ1.out; obtain ⟨q0, q1, q2, q3, q4, q5, q6, q7, q8, q9, q10, q11, q12, q13, q14, q15, q16⟩ := (HQ.out.jk HJ1.out).in; simp only at m1 m2 m3 m4 m5 m6 q0 q1 q2 q3 q4 q5 q6 q7 q8 q9 q10 q11 q12 q13 q14 q15 q16))
    go_ret
    exact ⟨rfl, HJ0.out.trans HJ1.out⟩
  by_cases h3 : bu < 0
  · obtain rfl : false = b := (Bool.eq_false_iff.2 fun e => by have := HB.out.1 e; omega).symm
    go_enter Try.func14, Try.ntmps14
    go_wp2_with (first | (go_at_call 34; refine (HX.out.on _ (by exact Jk.refl _)).mono ?_; rintro e w1 ⟨rfl, hj1⟩; have HJ1 := hid hj1; clear hj1; clear m0 m1 m2 m3 m4 m5 m6 q0 q1 q2 q3 q4 q5 q6 q7 q8 q9 q10 q11 q12 q13 q14 q15 q16; obtain ⟨m0, m1, m2, m3, m4, m5, m6⟩ := HM.out.jk HJ1.out; obtain ⟨q0, q1, q2, q3, q4, q5, q6, q7, q8, q9, q10, q11, q12, q13, q14, q15, q16⟩ := (HQ.out.jk HJ1.out).in; simp only at m1 m2 m3 m4 m5 m6 q0 q1 q2 q3 q4 q5 q6 q7 q8 q9 q10 q11 q12 q13 q14 q15 q16))
    go_ret
    exact ⟨rfl, HJ0.out.trans HJ1.out⟩
  by_cases h4 : 65536 < bu
  · obtain rfl : false = b := (Bool.eq_false_iff.2 fun e => by have := HB.out.1 e; omega).symm
    go_enter Try.func14, Try.ntmps14
    go_wp2_with (first | (go_at_call 34; refine (HX.out.on _ (by exact Jk.refl _)).mono ?_; rintro e w1 ⟨rfl, hj1⟩; have HJ1 := hid hj1; clear hj1; clear m0 m1 m2 m3 m4 m5 m6 q0 q1 q2 q3 q4 q5 q6 q7 q8 q9 q10 q11 q12 q13 q14 q15 q16; obtain ⟨m0, m1, m2, m3, m4, m5, m6⟩ := HM.out.jk HJ1.out; obtain ⟨q0, q1, q2, q3, q4, q5, q6, q7, q8, q9, q10, q11, q12, q13, q14, q15, q16⟩ := (HQ.out.jk HJ1.out).in; simp only at m1 m2 m3 m4 m5 m6 q0 q1 q2 q3 q4 q5 q6 q7 q8 q9 q10 q11 q12 q13 q14 q15 q16))
    go_ret
    exact ⟨rfl, HJ0.out.trans HJ1.out⟩
  go_enter Try.func14, Try.ntmps14
  go_upto_region 4 with (first | (go_at_call 34; refine (HX.out.on _ (by exact Jk.refl _)).mono ?_; rintro e w1 ⟨rfl, hj1⟩; have HJ1 := hid hj1; clear hj1; clear m0 m1 m2 m3 m4 m5 m6 q0 q1 q2 q3 q4 q5 q6 q7 q8 q9 q10 q11 q12 q13 q14 q15 q16; obtain ⟨m0, m1, m2, m3, m4, m5, m6⟩ := HM.out.jk HJ1.out; obtain ⟨q0, q1, q2, q3, q4, q5, q6, q7, q8, q9, q10, q11, q12, q13, q14, q15, q16⟩ := (HQ.out.jk HJ1.out).in; simp only at m1 m2 m3 m4 m5 m6 q0 q1 q2 q3 q4 q5 q6 q7 q8 q9 q10 q11 q12 q13 q14 q15 q16))
  have HBr : Hid (b = true → ∀ j : Nat, j < 5 → placeR d (j : Int) (S j)) := fun e => (HB.out.1 e).2.2.2.2.2.1
  have HBk : Hid ((∀ j : Nat, j < 5 → placeR d (j : Int) (S j)) → (b = true ↔ (kd = 1 ∧ lo ≤ hi ∧ f = 0 ∧ fa = false ∨ kd = 2 ∧ 2 ≤ k ∧ lo = 0 ∧ hi = 0 ∧ f = 0 ∧ fa = false ∨ kd = 3 ∧ 0 ≤ f ∧ f < d ∧ lo = 0 ∧ hi = 0))) := fun h => HB.out.trans ⟨fun h' => h'.2.2.2.2.2.2, fun h' => ⟨by trivial, by omega, by omega, by omega, by omega, h, h'⟩⟩
  clear HB h1 h2 h3 h4
  have HJm := hid (HJ1.out)
  clear m0 m1 m2 m3 m4 m5 m6 q0 q1 q2 q3 q4 q5 q6 q7 q8 q9 q10 q11 q12 q13 q14 q15 q16 ql
  go_loopg [34] 5 (fun r i wr => ∃ j : Nat, j + r = 5 ∧ i = .int .i64 (j : Int) ∧ Hid (∀ q, q < j → placeR d (q : Int) (S q)) ∧ Hid (Jk w0 wr))
  case atStart => exact ⟨0, by omega, rfl, hid fun q hq => by omega, HJ1⟩
  case round =>
    obtain ⟨j, hj, rfl, HP, HJ⟩ := hrel
    clear HJ1 HJm
    obtain ⟨m0, m1, m2, m3, m4, m5, m6⟩ := HM.out.jk HJ.out
    obtain ⟨q0, q1, q2, q3, q4, q5, q6, q7, q8, q9, q10, q11, q12, q13, q14, q15, q16⟩ := (HQ.out.jk HJ.out).in
    have ql := (HQ.out.jk HJ.out).lt
    simp only at m1 m2 m3 m4 m5 m6 q0 q1 q2 q3 q4 q5 q6 q7 q8 q9 q10 q11 q12 q13 q14 q15 q16
    by_cases hk : gk = 0
    · subst hk
      obtain rfl : j = 5 := by omega
      have HBq := hid (HBk.out HP.out)
      clear HBk HBr HP HIx
      by_cases h1 : kd = 1
      · subst h1
        by_cases h2 : lo ≤ hi
        rotate_left
        · obtain rfl : false = b := (Bool.eq_false_iff.2 fun e => by rcases HBq.out.1 e with ⟨h1, h2, h3, h4⟩ | ⟨h1, h2, h3, h4, h5, h6⟩ | ⟨h1, h2, h3, h4, h5⟩ <;> first | omega | (cases h4; done) | (cases h6; done)).symm
          clear HBq
          go_wp2
          go_ret
          exact ⟨by first | rfl | exact ret_bool (by simp [*]), HJ0.out.trans HJ.out⟩
        by_cases h3 : f = 0
        rotate_left
        · obtain rfl : false = b := (Bool.eq_false_iff.2 fun e => by rcases HBq.out.1 e with ⟨h1, h2, h3, h4⟩ | ⟨h1, h2, h3, h4, h5, h6⟩ | ⟨h1, h2, h3, h4, h5⟩ <;> first | omega | (cases h4; done) | (cases h6; done)).symm
          clear HBq
          go_wp2
          go_ret
          exact ⟨by first | rfl | exact ret_bool (by simp [*]), HJ0.out.trans HJ.out⟩
        subst h3
        cases fa
        · obtain rfl : true = b := (HBq.out.2 (.inl ⟨rfl, by assumption, rfl, rfl⟩)).symm
          clear HBq
          go_wp2
          go_ret
          exact ⟨by first | rfl | exact ret_bool (by simp [*]), HJ0.out.trans HJ.out⟩
        · obtain rfl : false = b := (Bool.eq_false_iff.2 fun e => by rcases HBq.out.1 e with ⟨h1, h2, h3, h4⟩ | ⟨h1, h2, h3, h4, h5, h6⟩ | ⟨h1, h2, h3, h4, h5⟩ <;> first | omega | (cases h4; done) | (cases h6; done)).symm
          clear HBq
          go_wp2
          go_ret
          exact ⟨by first | rfl | exact ret_bool (by simp [*]), HJ0.out.trans HJ.out⟩
      by_cases h2 : kd = 2
      · subst h2
        by_cases hk : 2 ≤ k
        rotate_left
        · obtain rfl : false = b := (Bool.eq_false_iff.2 fun e => by rcases HBq.out.1 e with ⟨h1, h2, h3, h4⟩ | ⟨h1, h2, h3, h4, h5, h6⟩ | ⟨h1, h2, h3, h4, h5⟩ <;> first | omega | (cases h4; done) | (cases h6; done)).symm
          clear HBq
          go_wp2
          go_ret
          exact ⟨by first | rfl | exact ret_bool (by simp [*]), HJ0.out.trans HJ.out⟩
        by_cases h2 : lo = 0
        rotate_left
        · obtain rfl : false = b := (Bool.eq_false_iff.2 fun e => by rcases HBq.out.1 e with ⟨h1, h2, h3, h4⟩ | ⟨h1, h2, h3, h4, h5, h6⟩ | ⟨h1, h2, h3, h4, h5⟩ <;> first | omega | (cases h4; done) | (cases h6; done)).symm
          clear HBq
          go_wp2
          go_ret
          exact ⟨by first | rfl | exact ret_bool (by simp [*]), HJ0.out.trans HJ.out⟩
        subst h2
        by_cases h3 : hi = 0
        rotate_left
        · obtain rfl : false = b := (Bool.eq_false_iff.2 fun e => by rcases HBq.out.1 e with ⟨h1, h2, h3, h4⟩ | ⟨h1, h2, h3, h4, h5, h6⟩ | ⟨h1, h2, h3, h4, h5⟩ <;> first | omega | (cases h4; done) | (cases h6; done)).symm
          clear HBq
          go_wp2
          go_ret
          exact ⟨by first | rfl | exact ret_bool (by simp [*]), HJ0.out.trans HJ.out⟩
        subst h3
        by_cases h4 : f = 0
        rotate_left
        · obtain rfl : false = b := (Bool.eq_false_iff.2 fun e => by rcases HBq.out.1 e with ⟨h1, h2, h3, h4⟩ | ⟨h1, h2, h3, h4, h5, h6⟩ | ⟨h1, h2, h3, h4, h5⟩ <;> first | omega | (cases h4; done) | (cases h6; done)).symm
          clear HBq
          go_wp2
          go_ret
          exact ⟨by first | rfl | exact ret_bool (by simp [*]), HJ0.out.trans HJ.out⟩
        subst h4
        cases fa
        · obtain rfl : true = b := (HBq.out.2 (.inr (.inl ⟨rfl, by assumption, rfl, rfl, rfl, rfl⟩))).symm
          clear HBq
          go_wp2
          go_ret
          exact ⟨by first | rfl | exact ret_bool (by simp [*]), HJ0.out.trans HJ.out⟩
        · obtain rfl : false = b := (Bool.eq_false_iff.2 fun e => by rcases HBq.out.1 e with ⟨h1, h2, h3, h4⟩ | ⟨h1, h2, h3, h4, h5, h6⟩ | ⟨h1, h2, h3, h4, h5⟩ <;> first | omega | (cases h4; done) | (cases h6; done)).symm
          clear HBq
          go_wp2
          go_ret
          exact ⟨by first | rfl | exact ret_bool (by simp [*]), HJ0.out.trans HJ.out⟩
      by_cases h3 : kd = 3
      · subst h3
        by_cases h4 : 0 ≤ f
        rotate_left
        · obtain rfl : false = b := (Bool.eq_false_iff.2 fun e => by rcases HBq.out.1 e with ⟨h1, h2, h3, h4⟩ | ⟨h1, h2, h3, h4, h5, h6⟩ | ⟨h1, h2, h3, h4, h5⟩ <;> first | omega | (cases h4; done) | (cases h6; done)).symm
          clear HBq
          go_wp2
          go_ret
          exact ⟨by first | rfl | exact ret_bool (by simp [*]), HJ0.out.trans HJ.out⟩
        by_cases h5 : f < d
        rotate_left
        · obtain rfl : false = b := (Bool.eq_false_iff.2 fun e => by rcases HBq.out.1 e with ⟨h1, h2, h3, h4⟩ | ⟨h1, h2, h3, h4, h5, h6⟩ | ⟨h1, h2, h3, h4, h5⟩ <;> first | omega | (cases h4; done) | (cases h6; done)).symm
          clear HBq
          go_wp2
          go_ret
          exact ⟨by first | rfl | exact ret_bool (by simp [*]), HJ0.out.trans HJ.out⟩
        by_cases h6 : lo = 0
        rotate_left
        · obtain rfl : false = b := (Bool.eq_false_iff.2 fun e => by rcases HBq.out.1 e with ⟨h1, h2, h3, h4⟩ | ⟨h1, h2, h3, h4, h5, h6⟩ | ⟨h1, h2, h3, h4, h5⟩ <;> first | omega | (cases h4; done) | (cases h6; done)).symm
          clear HBq
          go_wp2
          go_ret
          exact ⟨by first | rfl | exact ret_bool (by simp [*]), HJ0.out.trans HJ.out⟩
        subst h6
        by_cases h7 : hi = 0
        rotate_left
        · obtain rfl : false = b := (Bool.eq_false_iff.2 fun e => by rcases HBq.out.1 e with ⟨h1, h2, h3, h4⟩ | ⟨h1, h2, h3, h4, h5, h6⟩ | ⟨h1, h2, h3, h4, h5⟩ <;> first | omega | (cases h4; done) | (cases h6; done)).symm
          clear HBq
          go_wp2
          go_ret
          exact ⟨by first | rfl | exact ret_bool (by simp [*]), HJ0.out.trans HJ.out⟩
        subst h7
        obtain rfl : true = b := (HBq.out.2 (.inr (.inr ⟨rfl, by assumption, by assumption, rfl, rfl⟩))).symm
        clear HBq
        go_wp2
        go_ret
        exact ⟨by first | rfl | exact ret_bool (by simp [*]), HJ0.out.trans HJ.out⟩
      obtain rfl : false = b := (Bool.eq_false_iff.2 fun e => by rcases HBq.out.1 e with ⟨h1, h2, h3, h4⟩ | ⟨h1, h2, h3, h4, h5, h6⟩ | ⟨h1, h2, h3, h4, h5⟩ <;> first | omega | (cases h4; done) | (cases h6; done)).symm
      clear HBq
      go_wp2
      go_ret
      exact ⟨by first | rfl | exact ret_bool (by simp [*]), HJ0.out.trans HJ.out⟩
    · obtain ⟨r, rfl⟩ : ∃ r, gk = r + 1 := ⟨gk - 1, by omega⟩
      have hj5 : j < 5 := by omega
      have hj5' : (j : Int) < 5 := by omega
      have hix := fun w => HIx.out j w hj5
      have HPj : Hid (b = true → placeR d (j : Int) (S j)) := fun e => HBr.out e j hj5
      have HNx : Hid (placeR d (j : Int) (S j) → ∀ q, q < j + 1 → placeR d (q : Int) (S q)) := fun h q hq => by
        rcases Nat.lt_succ_iff_lt_or_eq.1 hq with h1 | rfl
        · exact HP.out q h1
        · exact h
      obtain ⟨⟨sa, sb⟩, hSj⟩ : ∃ s, S j = s := ⟨_, rfl⟩
      rw [hSj] at HPj HNx
      simp only [hSj, spV] at hix
      clear hSj HBk HBr HIx HP
      have heq := fun w => eq_nil sa sb w
      have hlm := lt_more8 m0
      obtain ⟨fl, hfl⟩ : ∃ z, fit32 sa = z := ⟨_, rfl⟩
      obtain ⟨fh, hfh⟩ : ∃ z, fit32 sb = z := ⟨_, rfl⟩
      have HFl := hid (rfits_is hfl)
      have HFh := hid (rfits_is hfh)
      have Hem : Hid (fit32 sa = fl ∧ fit32 sb = fh) := ⟨hfl, hfh⟩
      clear hfl hfh
      have HNo : Hid ((¬ placeR d (j : Int) ⟨sa, sb⟩) → false = b) := fun h => (Bool.eq_false_iff.2 fun e => h (HPj.out e)).symm
      by_cases hd : d ≤ (j : Int)
      · have hd' : ¬ (j : Int) < d := by omega
        by_cases hs : sa = 0 ∧ sb = 0
        · obtain ⟨rfl, rfl⟩ := hs
          have HPl : Hid (placeR d (j : Int) ⟨0, 0⟩) := ⟨fun h => by omega, fun _ => ⟨rfl, rfl⟩⟩
          go_wp2_with (first | (go_at_call 35; refine (Ans.on (by with_reducible first | exact HFl.out | exact HFh.out) _).mono ?_; rintro e w2 ⟨rfl, X2, rfl⟩))
          go_roundg r
          case measure => omega
          case rel => exact ⟨j + 1, by omega, by go_num, hid (HNx.out HPl.out), by have := HJ.out; exact hid (by repeat (with_reducible first | exact this | apply Jk.junk | apply Jk.alloc))⟩
        · obtain rfl : false = b := HNo.out fun h => hs (h.2 hd)
          have hq : ((sa == 0) && (sb == 0)) = false := by
            rw [Bool.eq_false_iff]
            intro e
            simp at e
            exact hs e
          go_wp2_with (first | (go_at_call 35; refine (Ans.on (by with_reducible first | exact HFl.out | exact HFh.out) _).mono ?_; rintro e w2 ⟨rfl, X2, rfl⟩))
          go_ret
          exact ⟨rfl, by have := HJ0.out.trans HJ.out; repeat (with_reducible first | exact this | apply Jk.junk | apply Jk.alloc)⟩
      · have hd' : (j : Int) < d := by omega
        by_cases hs : sb < sa
        · obtain rfl : false = b := HNo.out fun h => by
            have h1 := (h.1 hd').1
            simp only at h1
            omega
          go_wp2_with (first | (go_at_call 35; refine (Ans.on (by with_reducible first | exact HFl.out | exact HFh.out) _).mono ?_; rintro e w2 ⟨rfl, X2, rfl⟩))
          go_ret
          exact ⟨rfl, by have := HJ0.out.trans HJ.out; repeat (with_reducible first | exact this | apply Jk.junk | apply Jk.alloc)⟩
        cases fl
        · obtain rfl : false = b := HNo.out fun h => by
            have h1 := (h.1 hd').2.1
            have := Hem.out.1
            simp only at h1
            rw [h1] at this
            cases this
          go_wp2_with (first | (go_at_call 35; refine (Ans.on (by with_reducible first | exact HFl.out | exact HFh.out) _).mono ?_; rintro e w2 ⟨rfl, X2, rfl⟩))
          go_ret
          exact ⟨rfl, by have := HJ0.out.trans HJ.out; repeat (with_reducible first | exact this | apply Jk.junk | apply Jk.alloc)⟩
        · cases fh
          · obtain rfl : false = b := HNo.out fun h => by
              have h1 := (h.1 hd').2.2
              have := Hem.out.2
              simp only at h1
              rw [h1] at this
              cases this
            go_wp2_with (first | (go_at_call 35; refine (Ans.on (by with_reducible first | exact HFl.out | exact HFh.out) _).mono ?_; rintro e w2 ⟨rfl, X2, rfl⟩))
            go_ret
            exact ⟨rfl, by have := HJ0.out.trans HJ.out; repeat (with_reducible first | exact this | apply Jk.junk | apply Jk.alloc)⟩
          · have HPl : Hid (placeR d (j : Int) ⟨sa, sb⟩) := ⟨fun _ => ⟨by simp only; omega, Hem.out.1, Hem.out.2⟩, fun h => absurd h hd⟩
            go_wp2_with (first | (go_at_call 35; refine (Ans.on (by with_reducible first | exact HFl.out | exact HFh.out) _).mono ?_; rintro e w2 ⟨rfl, X2, rfl⟩))
            go_roundg r
            case measure => omega
            case rel => exact ⟨j + 1, by omega, by go_num, hid (HNx.out HPl.out), by have := HJ.out; exact hid (by repeat (with_reducible first | exact this | apply Jk.junk | apply Jk.alloc))⟩

end Go.Proofs.Ytmfmiflifebflaa
