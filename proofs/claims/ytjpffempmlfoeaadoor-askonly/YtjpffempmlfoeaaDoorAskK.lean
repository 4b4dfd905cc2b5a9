/- What numbersFit, way and kindWords of package ask answer. Conditions: what package ask asks of the functions beyond it ('LibA'). -/
import Derived.Test.YtjpffempmlfoeaaDoorAskT
import Derived.Test.YtjpffempmlfoeaaDoorHeld
namespace Go.Proofs.YtjpffempmlfoeaaDoor
open Go.RowKit M

set_option maxRecDepth 100000 in
set_option maxHeartbeats 3200000 in
theorem fits_ans (q : Qy) {b : Bool} (hb : b = true ↔ smallN q.cl ∧ smallN q.f ∧ smallN q.bu) : Ans 15 #[queryV q] (.bool b) := fun w => by
  have J := rules8
  obtain ⟨kd, cl, ⟨⟨ra, rb⟩, ⟨rc, rd⟩, ⟨re, rf⟩, ⟨rg, rh⟩, ⟨ri, rj⟩⟩, lo, hi, f, fa, bu⟩ := q
  obtain ⟨w0, hw0⟩ : ∃ w0, w.alloc (.cells #[.int .i64 kd, .int .i64 cl, .int .i64 ra, .int .i64 rb, .int .i64 rc, .int .i64 rd, .int .i64 re, .int .i64 rf, .int .i64 rg, .int .i64 rh, .int .i64 ri, .int .i64 rj, .int .i64 lo, .int .i64 hi, .int .i64 f, .bool fa, .int .i64 bu] 27) = w0 := ⟨_, rfl⟩
  have HJ0 : Hid (Jk w w0) := hw0 ▸ (Jk.refl w).alloc _
  have HQ : Hid (QyB w0 w.heap.size ⟨kd, cl, ⟨⟨ra, rb⟩, ⟨rc, rd⟩, ⟨re, rf⟩, ⟨rg, rh⟩, ⟨ri, rj⟩⟩, lo, hi, f, fa, bu⟩) := by
    rw [← hw0]
    exact QyB.laid w ⟨kd, cl, ⟨⟨ra, rb⟩, ⟨rc, rd⟩, ⟨re, rf⟩, ⟨rg, rh⟩, ⟨ri, rj⟩⟩, lo, hi, f, fa, bu⟩
  obtain ⟨q0, q1, q2, q3, q4, q5, q6, q7, q8, q9, q10, q11, q12, q13, q14, q15, q16⟩ := HQ.out.in
  have ql := HQ.out.lt
  simp only at q0 q1 q2 q3 q4 q5 q6 q7 q8 q9 q10 q11 q12 q13 q14 q15 q16
  clear q2 q3 q4 q5 q6 q7 q8 q9 q10 q11
  have HB : Hid (b = true ↔ smallN cl ∧ smallN f ∧ smallN bu) := hb
  have i0 := bx0 cl f bu
  have i1 := bx1 cl f bu
  have i2 := bx2 cl f bu
  clear hb
  go_enter Tryd.func15, Tryd.ntmps15
  go_upto_region 2 with fail
  go_loopg [12] 3 (fun r i wr => ∃ j : Nat, j + r = 3 ∧ i = .int .i64 (j : Int) ∧ Hid ((0 < j → smallN cl) ∧ (1 < j → smallN f) ∧ (2 < j → smallN bu)) ∧ Hid (Jk w0 wr))
  case atStart => exact ⟨0, by omega, rfl, hid ⟨fun h => absurd h (by omega), fun h => absurd h (by omega), fun h => absurd h (by omega)⟩, hid (Jk.refl w0)⟩
  case round =>
    obtain ⟨j, hj, rfl, HN, HJ⟩ := hrel
    by_cases hk : gk = 0
    · subst hk
      obtain rfl : j = 3 := by omega
      obtain rfl : true = b := (HB.out.2 ⟨HN.out.1 (by omega), HN.out.2.1 (by omega), HN.out.2.2 (by omega)⟩).symm
      go_wp2
      go_ret
      exact ⟨rfl, HJ0.out.trans HJ.out⟩
    · obtain ⟨r, rfl⟩ : ∃ r, gk = r + 1 := ⟨gk - 1, by omega⟩
      have : j = 0 ∨ j = 1 ∨ j = 2 := by omega
      rcases this with rfl | rfl | rfl
      · by_cases ha : cl < 0
        · have hd := decide_eq_true ha
          obtain rfl : false = b := (Bool.eq_false_iff.2 fun e => by
            have := (HB.out.1 e).1
            unfold smallN at this
            omega).symm
          go_wp2
          go_ret
          exact ⟨rfl, HJ0.out.trans HJ.out⟩
        · have hd := decide_eq_false ha
          by_cases hg : 1073741824 < cl
          · have hd2 := decide_eq_true hg
            obtain rfl : false = b := (Bool.eq_false_iff.2 fun e => by
              have := (HB.out.1 e).1
              unfold smallN at this
              omega).symm
            go_wp2
            go_ret
            exact ⟨rfl, HJ0.out.trans HJ.out⟩
          · have hd2 := decide_eq_false hg
            have hs : smallN cl := ⟨by omega, by omega⟩
            have HS : Hid (smallN cl) := hs
            have HN2 : Hid ((0 < 1 → smallN cl) ∧ (1 < 1 → smallN f) ∧ (2 < 1 → smallN bu)) := ⟨fun _ => hs, fun h => absurd h (by omega), fun h => absurd h (by omega)⟩
            clear hs
            go_wp2
            go_roundg r
            case measure => omega
            case rel => exact ⟨1, by omega, rfl, HN2, HJ⟩
      · by_cases ha : f < 0
        · have hd := decide_eq_true ha
          obtain rfl : false = b := (Bool.eq_false_iff.2 fun e => by
            have := (HB.out.1 e).2.1
            unfold smallN at this
            omega).symm
          go_wp2
          go_ret
          exact ⟨rfl, HJ0.out.trans HJ.out⟩
        · have hd := decide_eq_false ha
          by_cases hg : 1073741824 < f
          · have hd2 := decide_eq_true hg
            obtain rfl : false = b := (Bool.eq_false_iff.2 fun e => by
              have := (HB.out.1 e).2.1
              unfold smallN at this
              omega).symm
            go_wp2
            go_ret
            exact ⟨rfl, HJ0.out.trans HJ.out⟩
          · have hd2 := decide_eq_false hg
            have hs : smallN f := ⟨by omega, by omega⟩
            have HS : Hid (smallN f) := hs
            have HN2 : Hid ((0 < 2 → smallN cl) ∧ (1 < 2 → smallN f) ∧ (2 < 2 → smallN bu)) := ⟨fun _ => HN.out.1 (by omega), fun _ => hs, fun h => absurd h (by omega)⟩
            clear hs
            go_wp2
            go_roundg r
            case measure => omega
            case rel => exact ⟨2, by omega, rfl, HN2, HJ⟩
      · by_cases ha : bu < 0
        · have hd := decide_eq_true ha
          obtain rfl : false = b := (Bool.eq_false_iff.2 fun e => by
            have := (HB.out.1 e).2.2
            unfold smallN at this
            omega).symm
          go_wp2
          go_ret
          exact ⟨rfl, HJ0.out.trans HJ.out⟩
        · have hd := decide_eq_false ha
          by_cases hg : 1073741824 < bu
          · have hd2 := decide_eq_true hg
            obtain rfl : false = b := (Bool.eq_false_iff.2 fun e => by
              have := (HB.out.1 e).2.2
              unfold smallN at this
              omega).symm
            go_wp2
            go_ret
            exact ⟨rfl, HJ0.out.trans HJ.out⟩
          · have hd2 := decide_eq_false hg
            have hs : smallN bu := ⟨by omega, by omega⟩
            have HS : Hid (smallN bu) := hs
            have HN2 : Hid ((0 < 3 → smallN cl) ∧ (1 < 3 → smallN f) ∧ (2 < 3 → smallN bu)) := ⟨fun _ => HN.out.1 (by omega), fun _ => HN.out.2.1 (by omega), fun _ => hs⟩
            clear hs
            go_wp2
            go_roundg r
            case measure => omega
            case rel => exact ⟨3, by omega, rfl, HN2, HJ⟩

theorem way_ans (b : Bool) : AnsP 28 #[.bool b] (tx (wayT b)) := fun w => by
  cases b
  all_goals
    go_enter Tryd.func28, Tryd.ntmps28
    go_wp2
    go_ret
    exact ⟨rfl, rfl⟩

/-- a row of words of one's own -/
def WordsP (w : World) (L : List Txt) (e : Ending) (w' : World) : Prop := ∃ (g : Nat) (c : Nat), e = .returned (.slice (some ⟨g, 0, none⟩) L.length c) ∧ OwnS w.heap.size w' (.slice (some ⟨g, 0, none⟩) L.length c) L.length L ∧ Jk w w'

set_option maxRecDepth 100000 in
set_option maxHeartbeats 3200000 in
theorem kindW_1 {wb : World} (hL : LibA wb) (q : Qy) (hq : q.ok) (hk : q.kd = 1) (hc : smallN q.cl) {w : World} (hw : Jk wb w) : Calls Tryd.prog 16 #[queryV q] w fun e w' => WordsP w (headW q) e w' := by
  have J := rules8
  obtain ⟨kd, cl, ⟨⟨ra, rb⟩, ⟨rc, rd⟩, ⟨re, rf⟩, ⟨rg, rh⟩, ⟨ri, rj⟩⟩, lo, hi, f, fa, bu⟩ := q
  simp only at hk hc
  subst hk
  obtain ⟨w0, hw0⟩ : ∃ w0, w.alloc (.cells #[.int .i64 1, .int .i64 cl, .int .i64 ra, .int .i64 rb, .int .i64 rc, .int .i64 rd, .int .i64 re, .int .i64 rf, .int .i64 rg, .int .i64 rh, .int .i64 ri, .int .i64 rj, .int .i64 lo, .int .i64 hi, .int .i64 f, .bool fa, .int .i64 bu] 27) = w0 := ⟨_, rfl⟩
  have HJ0 : Hid (Jk w w0) := hw0 ▸ (Jk.refl w).alloc _
  have HQ : Hid (QyB w0 w.heap.size ⟨1, cl, ⟨⟨ra, rb⟩, ⟨rc, rd⟩, ⟨re, rf⟩, ⟨rg, rh⟩, ⟨ri, rj⟩⟩, lo, hi, f, fa, bu⟩) := by
    rw [← hw0]
    exact QyB.laid w ⟨1, cl, ⟨⟨ra, rb⟩, ⟨rc, rd⟩, ⟨re, rf⟩, ⟨rg, rh⟩, ⟨ri, rj⟩⟩, lo, hi, f, fa, bu⟩
  obtain ⟨q0, q1, q2, q3, q4, q5, q6, q7, q8, q9, q10, q11, q12, q13, q14, q15, q16⟩ := HQ.out.in
  have ql := HQ.out.lt
  simp only at q0 q1 q2 q3 q4 q5 q6 q7 q8 q9 q10 q11 q12 q13 q14 q15 q16
  clear q2 q3 q4 q5 q6 q7 q8 q9 q10 q11
  have HC := hid ((hL.itoa cl hc).at (hw.trans HJ0.out))
  have HLo := hid ((hL.print lo hq.lo).at (hw.trans HJ0.out))
  have HHi := hid ((hL.print hi hq.hi).at (hw.trans HJ0.out))
  obtain ⟨tc, htc⟩ : ∃ t, dg cl = t := ⟨_, rfl⟩
  obtain ⟨tl, htl⟩ : ∃ t, printL lo = t := ⟨_, rfl⟩
  obtain ⟨th, hth⟩ : ∃ t, printL hi = t := ⟨_, rfl⟩
  have HW : Hid (headW ⟨1, cl, ⟨⟨ra, rb⟩, ⟨rc, rd⟩, ⟨re, rf⟩, ⟨rg, rh⟩, ⟨ri, rj⟩⟩, lo, hi, f, fa, bu⟩ = [[114, 97, 110, 103, 101], tc, [102, 114, 111, 109], tl, [116, 111], th]) := by rw [← htc, ← htl, ← hth]; exact rfl
  rw [htc] at HC
  rw [htl] at HLo
  rw [hth] at HHi
  rw [HW.out]
  clear hL hw hq hc htc htl hth HW
  go_enter Tryd.func16, Tryd.ntmps16
  go_upto_region 4 with (go_at_call 19; refine (HC.out _ (Jk.refl _)).mono ?_; rintro e w1 ⟨rfl, X1, rfl⟩)
  have HJ1 : Hid (Jk w0 (junk w0 X1)) := ⟨X1, rfl⟩
  generalize junk w0 X1 = w1 at HJ1 ⊢
  clear q0 q1 q12 q13 q14 q15 q16 ql hw0
  obtain ⟨q0, q1, q2, q3, q4, q5, q6, q7, q8, q9, q10, q11, q12, q13, q14, q15, q16⟩ := (HQ.out.jk HJ1.out).in
  have ql := (HQ.out.jk HJ1.out).lt
  simp only at q0 q1 q2 q3 q4 q5 q6 q7 q8 q9 q10 q11 q12 q13 q14 q15 q16
  clear q2 q3 q4 q5 q6 q7 q8 q9 q10 q11
  refine region_tail 7 #[true, true, true, true, true, true, true, false, false] (by kernel_rfl) (by decide) (by kernel_rfl) ?_
  dsimp only [List.take, List.drop]
  repeat (go_big_quiet_step (first | (go_at_call 17; exact AnsW.junk (by with_reducible first | exact HLo.out.at HJ1.out | exact HHi.out.at HJ1.out) _) | exact rfl))
  refine wpQuiet_nil ?_
  rintro _ ⟨X, rfl⟩
  have HJX : Hid (Jk w (junk w1 X)) := (HJ0.out.trans HJ1.out).junk X
  generalize junk w1 X = wx at HJX ⊢
  go_wp2
  go_ret
  refine ⟨wx.heap.size, 6, rfl, ⟨rfl, lit_own wx #[tx [114, 97, 110, 103, 101], tx tc, tx [102, 114, 111, 109], tx tl, tx [116, 111], tx th] 9 1 6 rfl HJX.out.below.size (by decide) rfl⟩, HJX.out.alloc _⟩

set_option maxRecDepth 100000 in
set_option maxHeartbeats 3200000 in
theorem kindW_2 {wb : World} (hL : LibA wb) (q : Qy) (hk : q.kd = 2) (hc : smallN q.cl) {w : World} (hw : Jk wb w) : Calls Tryd.prog 16 #[queryV q] w fun e w' => WordsP w (headW q) e w' := by
  have J := rules8
  obtain ⟨kd, cl, ⟨⟨ra, rb⟩, ⟨rc, rd⟩, ⟨re, rf⟩, ⟨rg, rh⟩, ⟨ri, rj⟩⟩, lo, hi, f, fa, bu⟩ := q
  simp only at hk hc
  subst hk
  obtain ⟨w0, hw0⟩ : ∃ w0, w.alloc (.cells #[.int .i64 2, .int .i64 cl, .int .i64 ra, .int .i64 rb, .int .i64 rc, .int .i64 rd, .int .i64 re, .int .i64 rf, .int .i64 rg, .int .i64 rh, .int .i64 ri, .int .i64 rj, .int .i64 lo, .int .i64 hi, .int .i64 f, .bool fa, .int .i64 bu] 27) = w0 := ⟨_, rfl⟩
  have HJ0 : Hid (Jk w w0) := hw0 ▸ (Jk.refl w).alloc _
  have HQ : Hid (QyB w0 w.heap.size ⟨2, cl, ⟨⟨ra, rb⟩, ⟨rc, rd⟩, ⟨re, rf⟩, ⟨rg, rh⟩, ⟨ri, rj⟩⟩, lo, hi, f, fa, bu⟩) := by
    rw [← hw0]
    exact QyB.laid w ⟨2, cl, ⟨⟨ra, rb⟩, ⟨rc, rd⟩, ⟨re, rf⟩, ⟨rg, rh⟩, ⟨ri, rj⟩⟩, lo, hi, f, fa, bu⟩
  obtain ⟨q0, q1, q2, q3, q4, q5, q6, q7, q8, q9, q10, q11, q12, q13, q14, q15, q16⟩ := HQ.out.in
  have ql := HQ.out.lt
  simp only at q0 q1 q2 q3 q4 q5 q6 q7 q8 q9 q10 q11 q12 q13 q14 q15 q16
  clear q2 q3 q4 q5 q6 q7 q8 q9 q10 q11
  have HC := hid ((hL.itoa cl hc).at (hw.trans HJ0.out))
  obtain ⟨tc, htc⟩ : ∃ t, dg cl = t := ⟨_, rfl⟩
  have HW : Hid (headW ⟨2, cl, ⟨⟨ra, rb⟩, ⟨rc, rd⟩, ⟨re, rf⟩, ⟨rg, rh⟩, ⟨ri, rj⟩⟩, lo, hi, f, fa, bu⟩ = [[98, 101, 115, 116], tc]) := by rw [← htc]; exact rfl
  rw [htc] at HC
  rw [HW.out]
  clear hL hw hc htc HW
  go_enter Tryd.func16, Tryd.ntmps16
  go_upto_region 6 with (go_at_call 19; refine (HC.out _ (Jk.refl _)).mono ?_; rintro e w1 ⟨rfl, X1, rfl⟩)
  have HJX : Hid (Jk w (junk w0 X1)) := HJ0.out.junk X1
  generalize junk w0 X1 = wx at HJX ⊢
  go_wp2
  go_ret
  refine ⟨wx.heap.size, 2, rfl, ⟨rfl, lit_own wx #[tx [98, 101, 115, 116], tx tc] 9 1 2 rfl HJX.out.below.size (by decide) rfl⟩, HJX.out.alloc _⟩

set_option maxRecDepth 100000 in
set_option maxHeartbeats 3200000 in
theorem kindW_3 {wb : World} (hL : LibA wb) (q : Qy) (hk : q.kd = 3) (hc : smallN q.cl) (hf : smallN q.f) {w : World} (hw : Jk wb w) : Calls Tryd.prog 16 #[queryV q] w fun e w' => WordsP w (headW q) e w' := by
  have J := rules8
  obtain ⟨kd, cl, ⟨⟨ra, rb⟩, ⟨rc, rd⟩, ⟨re, rf⟩, ⟨rg, rh⟩, ⟨ri, rj⟩⟩, lo, hi, f, fa, bu⟩ := q
  simp only at hk hc hf
  subst hk
  obtain ⟨w0, hw0⟩ : ∃ w0, w.alloc (.cells #[.int .i64 3, .int .i64 cl, .int .i64 ra, .int .i64 rb, .int .i64 rc, .int .i64 rd, .int .i64 re, .int .i64 rf, .int .i64 rg, .int .i64 rh, .int .i64 ri, .int .i64 rj, .int .i64 lo, .int .i64 hi, .int .i64 f, .bool fa, .int .i64 bu] 27) = w0 := ⟨_, rfl⟩
  have HJ0 : Hid (Jk w w0) := hw0 ▸ (Jk.refl w).alloc _
  have HQ : Hid (QyB w0 w.heap.size ⟨3, cl, ⟨⟨ra, rb⟩, ⟨rc, rd⟩, ⟨re, rf⟩, ⟨rg, rh⟩, ⟨ri, rj⟩⟩, lo, hi, f, fa, bu⟩) := by
    rw [← hw0]
    exact QyB.laid w ⟨3, cl, ⟨⟨ra, rb⟩, ⟨rc, rd⟩, ⟨re, rf⟩, ⟨rg, rh⟩, ⟨ri, rj⟩⟩, lo, hi, f, fa, bu⟩
  obtain ⟨q0, q1, q2, q3, q4, q5, q6, q7, q8, q9, q10, q11, q12, q13, q14, q15, q16⟩ := HQ.out.in
  have ql := HQ.out.lt
  simp only at q0 q1 q2 q3 q4 q5 q6 q7 q8 q9 q10 q11 q12 q13 q14 q15 q16
  clear q2 q3 q4 q5 q6 q7 q8 q9 q10 q11
  have HC := hid ((hL.itoa cl hc).at (hw.trans HJ0.out))
  have HF := hid ((hL.itoa f hf).at (hw.trans HJ0.out))
  have HWy := hid ((way_ans fa).ansW w0)
  obtain ⟨tc, htc⟩ : ∃ t, dg cl = t := ⟨_, rfl⟩
  obtain ⟨tf, htf⟩ : ∃ t, dg f = t := ⟨_, rfl⟩
  obtain ⟨ty, hty⟩ : ∃ t, wayT fa = t := ⟨_, rfl⟩
  have HW : Hid (headW ⟨3, cl, ⟨⟨ra, rb⟩, ⟨rc, rd⟩, ⟨re, rf⟩, ⟨rg, rh⟩, ⟨ri, rj⟩⟩, lo, hi, f, fa, bu⟩ = [ty, tc, [98, 121], tf]) := by rw [← htc, ← htf, ← hty]; exact rfl
  rw [htc] at HC
  rw [htf] at HF
  rw [hty] at HWy
  rw [HW.out]
  clear hL hw hc hf htc htf hty HW
  go_enter Tryd.func16, Tryd.ntmps16
  go_upto_region 8 with (go_at_call 19; refine (HC.out _ (Jk.refl _)).mono ?_; rintro e w1 ⟨rfl, X1, rfl⟩)
  have HJ1 : Hid (Jk w0 (junk w0 X1)) := ⟨X1, rfl⟩
  generalize junk w0 X1 = w1 at HJ1 ⊢
  clear q0 q1 q12 q13 q14 q15 q16 ql hw0
  obtain ⟨q0, q1, q2, q3, q4, q5, q6, q7, q8, q9, q10, q11, q12, q13, q14, q15, q16⟩ := (HQ.out.jk HJ1.out).in
  have ql := (HQ.out.jk HJ1.out).lt
  simp only at q0 q1 q2 q3 q4 q5 q6 q7 q8 q9 q10 q11 q12 q13 q14 q15 q16
  clear q2 q3 q4 q5 q6 q7 q8 q9 q10 q11
  refine region_tail 7 #[true, true, true, true, true, true, true, false, false] (by kernel_rfl) (by decide) (by kernel_rfl) ?_
  dsimp only [List.take, List.drop]
  repeat (go_big_quiet_step (first | (go_at_call 28; exact AnsW.junk (by with_reducible exact HWy.out.at HJ1.out) _) | (go_at_call 19; exact AnsW.junk (by with_reducible exact HF.out.at HJ1.out) _) | exact rfl))
  refine wpQuiet_nil ?_
  rintro _ ⟨X, rfl⟩
  have HJX : Hid (Jk w (junk w1 X)) := (HJ0.out.trans HJ1.out).junk X
  generalize junk w1 X = wx at HJX ⊢
  go_wp2
  go_ret
  refine ⟨wx.heap.size, 4, rfl, ⟨rfl, lit_own wx #[tx ty, tx tc, tx [98, 121], tx tf] 9 1 4 rfl HJX.out.below.size (by decide) rfl⟩, HJX.out.alloc _⟩

set_option maxRecDepth 100000 in
set_option maxHeartbeats 3200000 in
theorem kindW_no {wb : World} (hL : LibA wb) (q : Qy) (h1 : ¬ q.kd = 1) (h2 : ¬ q.kd = 2) (h3 : ¬ q.kd = 3) (hc : smallN q.cl) : AnsW wb 16 #[queryV q] (.slice none 0 0) := fun w hw => by
  have J := rules8
  obtain ⟨kd, cl, ⟨⟨ra, rb⟩, ⟨rc, rd⟩, ⟨re, rf⟩, ⟨rg, rh⟩, ⟨ri, rj⟩⟩, lo, hi, f, fa, bu⟩ := q
  simp only at h1 h2 h3 hc
  obtain ⟨w0, hw0⟩ : ∃ w0, w.alloc (.cells #[.int .i64 kd, .int .i64 cl, .int .i64 ra, .int .i64 rb, .int .i64 rc, .int .i64 rd, .int .i64 re, .int .i64 rf, .int .i64 rg, .int .i64 rh, .int .i64 ri, .int .i64 rj, .int .i64 lo, .int .i64 hi, .int .i64 f, .bool fa, .int .i64 bu] 27) = w0 := ⟨_, rfl⟩
  have HJ0 : Hid (Jk w w0) := hw0 ▸ (Jk.refl w).alloc _
  have HQ : Hid (QyB w0 w.heap.size ⟨kd, cl, ⟨⟨ra, rb⟩, ⟨rc, rd⟩, ⟨re, rf⟩, ⟨rg, rh⟩, ⟨ri, rj⟩⟩, lo, hi, f, fa, bu⟩) := by
    rw [← hw0]
    exact QyB.laid w ⟨kd, cl, ⟨⟨ra, rb⟩, ⟨rc, rd⟩, ⟨re, rf⟩, ⟨rg, rh⟩, ⟨ri, rj⟩⟩, lo, hi, f, fa, bu⟩
  obtain ⟨q0, q1, q2, q3, q4, q5, q6, q7, q8, q9, q10, q11, q12, q13, q14, q15, q16⟩ := HQ.out.in
  have ql := HQ.out.lt
  simp only at q0 q1 q2 q3 q4 q5 q6 q7 q8 q9 q10 q11 q12 q13 q14 q15 q16
  clear q2 q3 q4 q5 q6 q7 q8 q9 q10 q11
  have HC := hid ((hL.itoa cl hc).at (hw.trans HJ0.out))
  obtain ⟨tc, htc⟩ : ∃ t, dg cl = t := ⟨_, rfl⟩
  rw [htc] at HC
  clear hL hw hc htc
  go_enter Tryd.func16, Tryd.ntmps16
  go_wp2_with (go_at_call 19; refine (HC.out _ (Jk.refl _)).mono ?_; rintro e w1 ⟨rfl, X1, rfl⟩)
  go_ret
  exact ⟨rfl, HJ0.out.junk X1⟩
end Go.Proofs.YtjpffempmlfoeaaDoor
