/- What told of package ask answers. No conditions beyond those written. -/
import Derived.Test.YtjpffempmlfoeaaDoorAskT
import Derived.Test.YtjpffempmlfoeaaDoorHeld
namespace Go.Proofs.YtjpffempmlfoeaaDoor
open Go.RowKit M

set_option maxRecDepth 100000 in
set_option maxHeartbeats 3200000 in
theorem told_ans (q : Qy) (d : Nat) (h1 : 1 ≤ d) (h4 : d ≤ 4) : Ans 14 #[queryV q, .int .i64 (d : Int)] (queryV (toldI q d)) := fun w => by
  have J := rules8
  obtain ⟨kd, cl, ⟨⟨ra, rb⟩, ⟨rc, rd⟩, ⟨re, rf⟩, ⟨rg, rh⟩, ⟨ri, rj⟩⟩, lo, hi, f, fa, bu⟩ := q
  obtain ⟨w0, hw0⟩ : ∃ w0, (w.alloc (.cells #[.int .i64 kd, .int .i64 cl, .int .i64 ra, .int .i64 rb, .int .i64 rc, .int .i64 rd, .int .i64 re, .int .i64 rf, .int .i64 rg, .int .i64 rh, .int .i64 ri, .int .i64 rj, .int .i64 lo, .int .i64 hi, .int .i64 f, .bool fa, .int .i64 bu] 27)).alloc (.cells #[.int .i64 0, .int .i64 0, .int .i64 0, .int .i64 0, .int .i64 0, .int .i64 0, .int .i64 0, .int .i64 0, .int .i64 0, .int .i64 0, .int .i64 0, .int .i64 0, .int .i64 0, .int .i64 0, .int .i64 0, .bool false, .int .i64 0] 27) = w0 := ⟨_, rfl⟩
  have hsz : w0.heap.size = w.heap.size + 1 + 1 := by rw [← hw0]; simp
  have HSz := hid hsz
  have HJ0 : Hid (Jk w w0) := hw0 ▸ ((Jk.refl w).alloc _).alloc _
  have HQ0 : QyB w0 w.heap.size ⟨kd, cl, ⟨⟨ra, rb⟩, ⟨rc, rd⟩, ⟨re, rf⟩, ⟨rg, rh⟩, ⟨ri, rj⟩⟩, lo, hi, f, fa, bu⟩ := by
    rw [← hw0]
    exact (QyB.laid w ⟨kd, cl, ⟨⟨ra, rb⟩, ⟨rc, rd⟩, ⟨re, rf⟩, ⟨rg, rh⟩, ⟨ri, rj⟩⟩, lo, hi, f, fa, bu⟩).jk ((Jk.refl _).alloc _)
  have hz0 : QyB w0 (w.heap.size + 1) Qy.nil := by
    rw [← hw0]
    have := QyB.laid (w.alloc (.cells #[.int .i64 kd, .int .i64 cl, .int .i64 ra, .int .i64 rb, .int .i64 rc, .int .i64 rd, .int .i64 re, .int .i64 rf, .int .i64 rg, .int .i64 rh, .int .i64 ri, .int .i64 rj, .int .i64 lo, .int .i64 hi, .int .i64 f, .bool fa, .int .i64 bu] 27)) Qy.nil
    rwa [World.size_alloc] at this
  have HQ := hid HQ0
  have HZ := hid hz0
  have HT : Hid (toldI ⟨kd, cl, ⟨⟨ra, rb⟩, ⟨rc, rd⟩, ⟨re, rf⟩, ⟨rg, rh⟩, ⟨ri, rj⟩⟩, lo, hi, f, fa, bu⟩ d = ⟨kd, cl, cutBx d ⟨⟨ra, rb⟩, ⟨rc, rd⟩, ⟨re, rf⟩, ⟨rg, rh⟩, ⟨ri, rj⟩⟩, if kd = 1 then lo else 0, if kd = 1 then hi else 0, if kd = 3 then f else 0, if kd = 3 then fa else false, bu⟩) := rfl
  obtain ⟨cx, hcx⟩ : ∃ z, cutBx d ⟨⟨ra, rb⟩, ⟨rc, rd⟩, ⟨re, rf⟩, ⟨rg, rh⟩, ⟨ri, rj⟩⟩ = z := ⟨_, rfl⟩
  rw [HT.out, hcx]
  have HCX := hid hcx
  clear hcx HT
  obtain ⟨q0, q1, q2, q3, q4, q5, q6, q7, q8, q9, q10, q11, q12, q13, q14, q15, q16⟩ := HQ0.in
  have ql := HQ0.lt
  simp only at q0 q1 q2 q3 q4 q5 q6 q7 q8 q9 q10 q11 q12 q13 q14 q15 q16
  clear hz0 HQ0 hsz q2 q3 q4 q5 q6 q7 q8 q9 q10 q11
  go_enter Tryd.func14, Tryd.ntmps14
  go_upto_region 1 with fail
  go_cut [5] (fun p wc => ∃ g, p = .pointer (some ⟨g, 0, none⟩) ∧ w0.heap.size ≤ g ∧ QyB wc g ⟨kd, cl, Bx.nil, 0, 0, 0, false, bu⟩ ∧ Jk w0 wc)
  case first =>
    go_wp2
    go_meet
    case rel => exact ⟨_, rfl, Nat.le_refl _, QyB.laid w0 ⟨kd, cl, Bx.nil, 0, 0, 0, false, bu⟩, (Jk.refl w0).alloc _⟩
  case rest =>
    obtain ⟨g, rfl, hg, hB, hj⟩ := hcut
    obtain ⟨w1, rfl⟩ : ∃ z, z = wc := ⟨_, rfl⟩
    have s1 := fun w : World => run_cutR w g d h4
    have s2 := fun z : World => run_cutR z w.heap.size d h4
    have HB := hid hB
    have HJ := hid hj
    have HG := hid hg
    clear hj hB hg q0 q1 q12 q13 q14 q15 q16
    go_upto_region 2 with fail
    refine region_tail 6 #[true, true, true, true, true, true, false] (by kernel_rfl) (by decide) (by kernel_rfl) ?_
    dsimp only [List.take, List.drop]
    repeat (go_big_quiet_step (exact rfl))
    refine wpQuiet_nil ?_
    rintro _ ⟨X, rfl⟩
    have HJX : Hid (Jk w1 (junk w1 X)) := ⟨X, rfl⟩
    generalize junk w1 X = wx at HJX ⊢
    obtain ⟨w2, hcp, hB2, hg2⟩ := copy_rg (HQ.out.jk (HJ.out.trans HJX.out)) (HB.out.jk HJX.out) rfl h1 h4 3
    have HB2 := hid hB2
    have HQ2 := hid ((HQ.out.jk (HJ.out.trans HJX.out)).by hg2 (by have := ql; have := HG.out; omega))
    have HZ2 := hid ((HZ.out.jk (HJ.out.trans HJX.out)).by hg2 (by have := HSz.out; have := HG.out; omega))
    have HJ2 := hid (((HJ0.out.trans HJ.out).trans HJX.out).grown hg2 (fun k hk => by cases hk; have := HSz.out; have := HG.out; omega))
    simp only [HCX.out] at HB2
    clear hg2 hB2 HB HJ HJX s1 s2
    go_upto_region 3 with fail
    clear hcp
    obtain ⟨q0, q1, q2, q3, q4, q5, q6, q7, q8, q9, q10, q11, q12, q13, q14, q15, q16⟩ := HQ2.out.in
    have ql := HQ2.out.lt
    obtain ⟨x0, x1, x2, x3, x4, x5, x6, x7, x8, x9, x10, x11, x12, x13, x14, x15, x16⟩ := HB2.out.in
    have xl := HB2.out.lt
    have xf := HB2.out.frozen
    simp only at q0 q1 q2 q3 q4 q5 q6 q7 q8 q9 q10 q11 q12 q13 q14 q15 q16
    clear q2 q3 q4 q5 q6 q7 q8 q9 q10 q11 x2 x3 x4 x5 x6 x7 x8 x9 x10 x11
    by_cases k1 : kd = 1
    · subst k1
      have HB3 := hid ((HB2.out.setLo lo).setHi hi)
      have HG3 := hid ((grown_set w2 g 12 (.int .i64 lo)).trans (grown_set _ g 13 (.int .i64 hi)))
      go_upto_region 8 with fail
      generalize hw3 : (w2.setCell ⟨g, 12, none⟩ (.int .i64 lo)).setCell ⟨g, 13, none⟩ (.int .i64 hi) = w3 at HB3 HG3 ⊢
      have HZ3 := hid (HZ2.out.by HG3.out (by have := HSz.out; have := HG.out; omega))
      have HJ3 := hid (HJ2.out.grown HG3.out (fun k hk => by cases hk; have := HSz.out; have := HG.out; omega))
      clear hw3
      refine wp_region_lit ?_
      refine list_loadQ rfl _ rfl HB3.out rfl ?_
      refine list_storeQ rfl _ _ rfl HZ3.out rfl ⟨1, cl, cx, lo, hi, 0, false, bu⟩ rfl fun w9 hq9 hg9 => ?_
      have HJ9 := hid (HJ3.out.grown hg9 (fun k hk => by cases hk; exact Nat.le_succ _))
      go_wp2
      exact bodyPost_ret (results_cell Tryd.results14 rfl (load_Q hq9)) rfl ⟨rfl, HJ9.out⟩
    · by_cases k3 : kd = 3
      · subst k3
        have HB3 := hid ((HB2.out.setF f).setFa fa)
        have HG3 := hid ((grown_set w2 g 14 (.int .i64 f)).trans (grown_set _ g 15 (.bool fa)))
        go_upto_region 8 with fail
        generalize hw3 : (w2.setCell ⟨g, 14, none⟩ (.int .i64 f)).setCell ⟨g, 15, none⟩ (.bool fa) = w3 at HB3 HG3 ⊢
        have HZ3 := hid (HZ2.out.by HG3.out (by have := HSz.out; have := HG.out; omega))
        have HJ3 := hid (HJ2.out.grown HG3.out (fun k hk => by cases hk; have := HSz.out; have := HG.out; omega))
        clear hw3
        refine wp_region_lit ?_
        refine list_loadQ rfl _ rfl HB3.out rfl ?_
        refine list_storeQ rfl _ _ rfl HZ3.out rfl ⟨3, cl, cx, 0, 0, f, fa, bu⟩ rfl fun w9 hq9 hg9 => ?_
        have HJ9 := hid (HJ3.out.grown hg9 (fun k hk => by cases hk; exact Nat.le_succ _))
        go_wp2
        exact bodyPost_ret (results_cell Tryd.results14 rfl (load_Q hq9)) rfl ⟨rfl, HJ9.out⟩
      · go_upto_region 8 with fail
        refine wp_region_lit ?_
        refine list_loadQ rfl _ rfl HB2.out rfl ?_
        refine list_storeQ rfl _ _ rfl HZ2.out rfl ⟨kd, cl, cx, 0, 0, 0, false, bu⟩ rfl fun w9 hq9 hg9 => ?_
        have HJ9 := hid (HJ2.out.grown hg9 (fun k hk => by cases hk; exact Nat.le_succ _))
        go_wp2
        exact bodyPost_ret (results_cell Tryd.results14 rfl (load_Q hq9)) rfl ⟨rfl, HJ9.out⟩
end Go.Proofs.YtjpffempmlfoeaaDoor
