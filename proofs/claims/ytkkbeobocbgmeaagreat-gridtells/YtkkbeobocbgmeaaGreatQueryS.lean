/- What Start of package query answers. -/
import Derived.Test.YtkkbeobocbgmeaaGreatQueryC
import Derived.Test.YtkkbeobocbgmeaaGreatBoxQ
namespace Go.Proofs.YtkkbeobocbgmeaaGreat
open Go.RowKit M

set_option maxRecDepth 100000 in
set_option maxHeartbeats 3200000 in
theorem start_no (kd f cl ra rb rc rd re rf rg rh ri rj lo hi bu : Int) (fa : Bool) (w : World) (HP : Ans 21 #[.agg #[.int .i64 kd, .int .i64 cl, .int .i64 ra, .int .i64 rb, .int .i64 rc, .int .i64 rd, .int .i64 re, .int .i64 rf, .int .i64 rg, .int .i64 rh, .int .i64 ri, .int .i64 rj, .int .i64 lo, .int .i64 hi, .int .i64 f, .bool fa, .int .i64 bu]] (.bool false)) : Calls Tryz.prog 6 #[.agg #[.int .i64 kd, .int .i64 cl, .int .i64 ra, .int .i64 rb, .int .i64 rc, .int .i64 rd, .int .i64 re, .int .i64 rf, .int .i64 rg, .int .i64 rh, .int .i64 ri, .int .i64 rj, .int .i64 lo, .int .i64 hi, .int .i64 f, .bool fa, .int .i64 bu]] w fun e w' => e = .returned (boxW ⟨⟨ra, rb⟩, ⟨rc, rd⟩, ⟨re, rf⟩, ⟨rg, rh⟩, ⟨0, 0⟩⟩) ∧ Jk w w' := by
  have J := rules8
  obtain ⟨w0, hw0⟩ : ∃ w0, (w.alloc (.cells #[.int .i64 kd, .int .i64 cl, .int .i64 ra, .int .i64 rb, .int .i64 rc, .int .i64 rd, .int .i64 re, .int .i64 rf, .int .i64 rg, .int .i64 rh, .int .i64 ri, .int .i64 rj, .int .i64 lo, .int .i64 hi, .int .i64 f, .bool fa, .int .i64 bu] 38)).alloc (.cells #[.int .i64 0, .int .i64 0, .int .i64 0, .int .i64 0, .int .i64 0, .int .i64 0, .int .i64 0, .int .i64 0, .int .i64 0, .int .i64 0] 36) = w0 := ⟨_, rfl⟩
  have hsz : w0.heap.size = w.heap.size + 1 + 1 := by rw [← hw0]; simp
  have HSz := hid hsz
  have HJ0 : Hid (Jk w w0) := hw0 ▸ ((Jk.refl w).alloc _).alloc _
  have HQ0 : QyB w0 w.heap.size ⟨kd, cl, ⟨⟨ra, rb⟩, ⟨rc, rd⟩, ⟨re, rf⟩, ⟨rg, rh⟩, ⟨ri, rj⟩⟩, lo, hi, f, fa, bu⟩ := by
    rw [← hw0]
    exact (QyB.laid w ⟨kd, cl, ⟨⟨ra, rb⟩, ⟨rc, rd⟩, ⟨re, rf⟩, ⟨rg, rh⟩, ⟨ri, rj⟩⟩, lo, hi, f, fa, bu⟩).jk ((Jk.refl _).alloc _)
  have hz0 : BxB w0 (w.heap.size + 1) Bx.nil := by
    rw [← hw0]
    have := BxB.laid (w.alloc (.cells #[.int .i64 kd, .int .i64 cl, .int .i64 ra, .int .i64 rb, .int .i64 rc, .int .i64 rd, .int .i64 re, .int .i64 rf, .int .i64 rg, .int .i64 rh, .int .i64 ri, .int .i64 rj, .int .i64 lo, .int .i64 hi, .int .i64 f, .bool fa, .int .i64 bu] 38)) Bx.nil
    rwa [World.size_alloc] at this
  have HQ := hid HQ0
  have HZ := hid hz0
  obtain ⟨q0, q1, q2, q3, q4, q5, q6, q7, q8, q9, q10, q11, q12, q13, q14, q15, q16⟩ := HQ0.in
  have ql := HQ0.lt
  simp only at q0 q1 q2 q3 q4 q5 q6 q7 q8 q9 q10 q11 q12 q13 q14 q15 q16
  clear hz0 HQ0 hsz
  go_enter Tryz.func6, Tryz.ntmps6
  go_upto_region 1 with fail
  go_cut [3] (fun p wc => ∃ g, p = .pointer (some ⟨g, 0, none⟩) ∧ w0.heap.size ≤ g ∧ BxB wc g ⟨⟨ra, rb⟩, ⟨rc, rd⟩, ⟨re, rf⟩, ⟨rg, rh⟩, ⟨ri, rj⟩⟩ ∧ Jk w0 wc)
  case first =>
    go_wp2
    go_meet
    case rel => exact ⟨_, rfl, Nat.le_refl _, BxB.laid w0 ⟨⟨ra, rb⟩, ⟨rc, rd⟩, ⟨re, rf⟩, ⟨rg, rh⟩, ⟨ri, rj⟩⟩, (Jk.refl w0).alloc _⟩
  case rest =>
    obtain ⟨g, rfl, hg, hB, hj⟩ := hcut
    obtain ⟨w1, rfl⟩ : ∃ z, z = wc := ⟨_, rfl⟩
    obtain ⟨x0, x1, x2, x3, x4, x5, x6, x7, x8, x9⟩ := hB.in
    have xf := hB.frozen
    have xl := hB.lt
    have HB2 := hid (hB.putE Sp.nil)
    have HJ2 := hid ((hj.set (p := ⟨g, 8, none⟩) hg (.int .i64 0)).set (p := ⟨g, 9, none⟩) hg (.int .i64 0))
    simp only [Sp.nil] at HB2
    clear q0 q1 q2 q3 q4 q5 q6 q7 q8 q9 q10 q11 q12 q13 q14 q15 q16
    go_upto_region 3 with fail
    generalize hwE : (w1.setCell ⟨g, 8, none⟩ (.int .i64 0)).setCell ⟨g, 9, none⟩ (.int .i64 0) = wE at HB2 HJ2 ⊢
    clear hwE x0 x1 x2 x3 x4 x5 x6 x7 x8 x9 xf xl hB hj
    refine wp_region_lit ?_
    refine list_loadQ rfl _ rfl (HQ.out.jk HJ2.out) rfl ?_
    go_upto_region 5 with (first | (go_at_call 21; refine (HP.on _).mono ?_; rintro e w2 ⟨rfl, X2, hX2⟩; have HJ3 : Hid (Jk wE w2) := ⟨X2, hX2⟩; clear hX2 X2))
    have HB3 := hid (HB2.out.jk HJ3.out)
    have HJ4 := hid (HJ2.out.trans HJ3.out)
    clear HB2 HJ2 HJ3
    have HB5 := HB3
    have HJ5 := HJ4
    refine wp_region_lit ?_
    refine list_loadX rfl _ rfl HB5.out rfl ?_
    refine list_storeX rfl _ _ rfl (HZ.out.jk HJ5.out) rfl ⟨⟨ra, rb⟩, ⟨rc, rd⟩, ⟨re, rf⟩, ⟨rg, rh⟩, ⟨0, 0⟩⟩ rfl fun w9 hq9 hg9 => ?_
    have HJ9 := hid ((HJ0.out.trans HJ5.out).grown hg9 (fun k hk => by cases hk; exact Nat.le_succ _))
    go_wp2
    exact bodyPost_ret (results_cell Tryz.results6 rfl (load_X hq9)) rfl ⟨rfl, HJ9.out⟩

set_option maxRecDepth 100000 in
set_option maxHeartbeats 3200000 in
theorem start_0 (cl ra rb rc rd re rf rg rh ri rj lo hi bu : Int) (fa : Bool) (w : World) (HP : Ans 21 #[.agg #[.int .i64 3, .int .i64 cl, .int .i64 ra, .int .i64 rb, .int .i64 rc, .int .i64 rd, .int .i64 re, .int .i64 rf, .int .i64 rg, .int .i64 rh, .int .i64 ri, .int .i64 rj, .int .i64 lo, .int .i64 hi, .int .i64 0, .bool fa, .int .i64 bu]] (.bool true)) : Calls Tryz.prog 6 #[.agg #[.int .i64 3, .int .i64 cl, .int .i64 ra, .int .i64 rb, .int .i64 rc, .int .i64 rd, .int .i64 re, .int .i64 rf, .int .i64 rg, .int .i64 rh, .int .i64 ri, .int .i64 rj, .int .i64 lo, .int .i64 hi, .int .i64 0, .bool fa, .int .i64 bu]] w fun e w' => e = .returned (boxW ⟨⟨ra, rb⟩, ⟨rc, rd⟩, ⟨re, rf⟩, ⟨rg, rh⟩, ⟨ra, rb⟩⟩) ∧ Jk w w' := by
  have J := rules8
  obtain ⟨w0, hw0⟩ : ∃ w0, (w.alloc (.cells #[.int .i64 3, .int .i64 cl, .int .i64 ra, .int .i64 rb, .int .i64 rc, .int .i64 rd, .int .i64 re, .int .i64 rf, .int .i64 rg, .int .i64 rh, .int .i64 ri, .int .i64 rj, .int .i64 lo, .int .i64 hi, .int .i64 0, .bool fa, .int .i64 bu] 38)).alloc (.cells #[.int .i64 0, .int .i64 0, .int .i64 0, .int .i64 0, .int .i64 0, .int .i64 0, .int .i64 0, .int .i64 0, .int .i64 0, .int .i64 0] 36) = w0 := ⟨_, rfl⟩
  have hsz : w0.heap.size = w.heap.size + 1 + 1 := by rw [← hw0]; simp
  have HSz := hid hsz
  have HJ0 : Hid (Jk w w0) := hw0 ▸ ((Jk.refl w).alloc _).alloc _
  have HQ0 : QyB w0 w.heap.size ⟨3, cl, ⟨⟨ra, rb⟩, ⟨rc, rd⟩, ⟨re, rf⟩, ⟨rg, rh⟩, ⟨ri, rj⟩⟩, lo, hi, 0, fa, bu⟩ := by
    rw [← hw0]
    exact (QyB.laid w ⟨3, cl, ⟨⟨ra, rb⟩, ⟨rc, rd⟩, ⟨re, rf⟩, ⟨rg, rh⟩, ⟨ri, rj⟩⟩, lo, hi, 0, fa, bu⟩).jk ((Jk.refl _).alloc _)
  have hz0 : BxB w0 (w.heap.size + 1) Bx.nil := by
    rw [← hw0]
    have := BxB.laid (w.alloc (.cells #[.int .i64 3, .int .i64 cl, .int .i64 ra, .int .i64 rb, .int .i64 rc, .int .i64 rd, .int .i64 re, .int .i64 rf, .int .i64 rg, .int .i64 rh, .int .i64 ri, .int .i64 rj, .int .i64 lo, .int .i64 hi, .int .i64 0, .bool fa, .int .i64 bu] 38)) Bx.nil
    rwa [World.size_alloc] at this
  have HQ := hid HQ0
  have HZ := hid hz0
  obtain ⟨q0, q1, q2, q3, q4, q5, q6, q7, q8, q9, q10, q11, q12, q13, q14, q15, q16⟩ := HQ0.in
  have ql := HQ0.lt
  simp only at q0 q1 q2 q3 q4 q5 q6 q7 q8 q9 q10 q11 q12 q13 q14 q15 q16
  clear hz0 HQ0 hsz
  go_enter Tryz.func6, Tryz.ntmps6
  go_upto_region 1 with fail
  go_cut [3] (fun p wc => ∃ g, p = .pointer (some ⟨g, 0, none⟩) ∧ w0.heap.size ≤ g ∧ BxB wc g ⟨⟨ra, rb⟩, ⟨rc, rd⟩, ⟨re, rf⟩, ⟨rg, rh⟩, ⟨ri, rj⟩⟩ ∧ Jk w0 wc)
  case first =>
    go_wp2
    go_meet
    case rel => exact ⟨_, rfl, Nat.le_refl _, BxB.laid w0 ⟨⟨ra, rb⟩, ⟨rc, rd⟩, ⟨re, rf⟩, ⟨rg, rh⟩, ⟨ri, rj⟩⟩, (Jk.refl w0).alloc _⟩
  case rest =>
    obtain ⟨g, rfl, hg, hB, hj⟩ := hcut
    obtain ⟨w1, rfl⟩ : ∃ z, z = wc := ⟨_, rfl⟩
    obtain ⟨x0, x1, x2, x3, x4, x5, x6, x7, x8, x9⟩ := hB.in
    have xf := hB.frozen
    have xl := hB.lt
    have HB2 := hid (hB.putE Sp.nil)
    have HJ2 := hid ((hj.set (p := ⟨g, 8, none⟩) hg (.int .i64 0)).set (p := ⟨g, 9, none⟩) hg (.int .i64 0))
    simp only [Sp.nil] at HB2
    clear q0 q1 q2 q3 q4 q5 q6 q7 q8 q9 q10 q11 q12 q13 q14 q15 q16
    go_upto_region 3 with fail
    generalize hwE : (w1.setCell ⟨g, 8, none⟩ (.int .i64 0)).setCell ⟨g, 9, none⟩ (.int .i64 0) = wE at HB2 HJ2 ⊢
    clear hwE x0 x1 x2 x3 x4 x5 x6 x7 x8 x9 xf xl hB hj
    refine wp_region_lit ?_
    refine list_loadQ rfl _ rfl (HQ.out.jk HJ2.out) rfl ?_
    go_upto_region 4 with (first | (go_at_call 21; refine (HP.on _).mono ?_; rintro e w2 ⟨rfl, X2, hX2⟩; have HJ3 : Hid (Jk wE w2) := ⟨X2, hX2⟩; clear hX2 X2))
    have HB3 := hid (HB2.out.jk HJ3.out)
    have HJ4 := hid (HJ2.out.trans HJ3.out)
    clear HB2 HJ2 HJ3
    obtain ⟨q0, q1, q2, q3, q4, q5, q6, q7, q8, q9, q10, q11, q12, q13, q14, q15, q16⟩ := (HQ.out.jk HJ4.out).in
    simp only at q0 q1 q2 q3 q4 q5 q6 q7 q8 q9 q10 q11 q12 q13 q14 q15 q16
    obtain ⟨x0, x1, x2, x3, x4, x5, x6, x7, x8, x9⟩ := HB3.out.in
    have xf := HB3.out.frozen
    have xl := HB3.out.lt
    have HB5 := hid (HB3.out.putE ⟨ra, rb⟩)
    have HJ5 := hid ((HJ4.out.set (p := ⟨g, 8, none⟩) hg (.int .i64 ra)).set (p := ⟨g, 9, none⟩) hg (.int .i64 rb))
    simp only at HB5
    go_upto_region 5 with fail
    generalize hwE : (w2.setCell ⟨g, 8, none⟩ (.int .i64 ra)).setCell ⟨g, 9, none⟩ (.int .i64 rb) = w3 at HB5 HJ5 ⊢
    clear hwE x0 x1 x2 x3 x4 x5 x6 x7 x8 x9 xf xl q0 q1 q2 q3 q4 q5 q6 q7 q8 q9 q10 q11 q12 q13 q14 q15 q16
    refine wp_region_lit ?_
    refine list_loadX rfl _ rfl HB5.out rfl ?_
    refine list_storeX rfl _ _ rfl (HZ.out.jk HJ5.out) rfl ⟨⟨ra, rb⟩, ⟨rc, rd⟩, ⟨re, rf⟩, ⟨rg, rh⟩, ⟨ra, rb⟩⟩ rfl fun w9 hq9 hg9 => ?_
    have HJ9 := hid ((HJ0.out.trans HJ5.out).grown hg9 (fun k hk => by cases hk; exact Nat.le_succ _))
    go_wp2
    exact bodyPost_ret (results_cell Tryz.results6 rfl (load_X hq9)) rfl ⟨rfl, HJ9.out⟩

set_option maxRecDepth 100000 in
set_option maxHeartbeats 3200000 in
theorem start_1 (cl ra rb rc rd re rf rg rh ri rj lo hi bu : Int) (fa : Bool) (w : World) (HP : Ans 21 #[.agg #[.int .i64 3, .int .i64 cl, .int .i64 ra, .int .i64 rb, .int .i64 rc, .int .i64 rd, .int .i64 re, .int .i64 rf, .int .i64 rg, .int .i64 rh, .int .i64 ri, .int .i64 rj, .int .i64 lo, .int .i64 hi, .int .i64 1, .bool fa, .int .i64 bu]] (.bool true)) : Calls Tryz.prog 6 #[.agg #[.int .i64 3, .int .i64 cl, .int .i64 ra, .int .i64 rb, .int .i64 rc, .int .i64 rd, .int .i64 re, .int .i64 rf, .int .i64 rg, .int .i64 rh, .int .i64 ri, .int .i64 rj, .int .i64 lo, .int .i64 hi, .int .i64 1, .bool fa, .int .i64 bu]] w fun e w' => e = .returned (boxW ⟨⟨ra, rb⟩, ⟨rc, rd⟩, ⟨re, rf⟩, ⟨rg, rh⟩, ⟨rc, rd⟩⟩) ∧ Jk w w' := by
  have J := rules8
  obtain ⟨w0, hw0⟩ : ∃ w0, (w.alloc (.cells #[.int .i64 3, .int .i64 cl, .int .i64 ra, .int .i64 rb, .int .i64 rc, .int .i64 rd, .int .i64 re, .int .i64 rf, .int .i64 rg, .int .i64 rh, .int .i64 ri, .int .i64 rj, .int .i64 lo, .int .i64 hi, .int .i64 1, .bool fa, .int .i64 bu] 38)).alloc (.cells #[.int .i64 0, .int .i64 0, .int .i64 0, .int .i64 0, .int .i64 0, .int .i64 0, .int .i64 0, .int .i64 0, .int .i64 0, .int .i64 0] 36) = w0 := ⟨_, rfl⟩
  have hsz : w0.heap.size = w.heap.size + 1 + 1 := by rw [← hw0]; simp
  have HSz := hid hsz
  have HJ0 : Hid (Jk w w0) := hw0 ▸ ((Jk.refl w).alloc _).alloc _
  have HQ0 : QyB w0 w.heap.size ⟨3, cl, ⟨⟨ra, rb⟩, ⟨rc, rd⟩, ⟨re, rf⟩, ⟨rg, rh⟩, ⟨ri, rj⟩⟩, lo, hi, 1, fa, bu⟩ := by
    rw [← hw0]
    exact (QyB.laid w ⟨3, cl, ⟨⟨ra, rb⟩, ⟨rc, rd⟩, ⟨re, rf⟩, ⟨rg, rh⟩, ⟨ri, rj⟩⟩, lo, hi, 1, fa, bu⟩).jk ((Jk.refl _).alloc _)
  have hz0 : BxB w0 (w.heap.size + 1) Bx.nil := by
    rw [← hw0]
    have := BxB.laid (w.alloc (.cells #[.int .i64 3, .int .i64 cl, .int .i64 ra, .int .i64 rb, .int .i64 rc, .int .i64 rd, .int .i64 re, .int .i64 rf, .int .i64 rg, .int .i64 rh, .int .i64 ri, .int .i64 rj, .int .i64 lo, .int .i64 hi, .int .i64 1, .bool fa, .int .i64 bu] 38)) Bx.nil
    rwa [World.size_alloc] at this
  have HQ := hid HQ0
  have HZ := hid hz0
  obtain ⟨q0, q1, q2, q3, q4, q5, q6, q7, q8, q9, q10, q11, q12, q13, q14, q15, q16⟩ := HQ0.in
  have ql := HQ0.lt
  simp only at q0 q1 q2 q3 q4 q5 q6 q7 q8 q9 q10 q11 q12 q13 q14 q15 q16
  clear hz0 HQ0 hsz
  go_enter Tryz.func6, Tryz.ntmps6
  go_upto_region 1 with fail
  go_cut [3] (fun p wc => ∃ g, p = .pointer (some ⟨g, 0, none⟩) ∧ w0.heap.size ≤ g ∧ BxB wc g ⟨⟨ra, rb⟩, ⟨rc, rd⟩, ⟨re, rf⟩, ⟨rg, rh⟩, ⟨ri, rj⟩⟩ ∧ Jk w0 wc)
  case first =>
    go_wp2
    go_meet
    case rel => exact ⟨_, rfl, Nat.le_refl _, BxB.laid w0 ⟨⟨ra, rb⟩, ⟨rc, rd⟩, ⟨re, rf⟩, ⟨rg, rh⟩, ⟨ri, rj⟩⟩, (Jk.refl w0).alloc _⟩
  case rest =>
    obtain ⟨g, rfl, hg, hB, hj⟩ := hcut
    obtain ⟨w1, rfl⟩ : ∃ z, z = wc := ⟨_, rfl⟩
    obtain ⟨x0, x1, x2, x3, x4, x5, x6, x7, x8, x9⟩ := hB.in
    have xf := hB.frozen
    have xl := hB.lt
    have HB2 := hid (hB.putE Sp.nil)
    have HJ2 := hid ((hj.set (p := ⟨g, 8, none⟩) hg (.int .i64 0)).set (p := ⟨g, 9, none⟩) hg (.int .i64 0))
    simp only [Sp.nil] at HB2
    clear q0 q1 q2 q3 q4 q5 q6 q7 q8 q9 q10 q11 q12 q13 q14 q15 q16
    go_upto_region 3 with fail
    generalize hwE : (w1.setCell ⟨g, 8, none⟩ (.int .i64 0)).setCell ⟨g, 9, none⟩ (.int .i64 0) = wE at HB2 HJ2 ⊢
    clear hwE x0 x1 x2 x3 x4 x5 x6 x7 x8 x9 xf xl hB hj
    refine wp_region_lit ?_
    refine list_loadQ rfl _ rfl (HQ.out.jk HJ2.out) rfl ?_
    go_upto_region 4 with (first | (go_at_call 21; refine (HP.on _).mono ?_; rintro e w2 ⟨rfl, X2, hX2⟩; have HJ3 : Hid (Jk wE w2) := ⟨X2, hX2⟩; clear hX2 X2))
    have HB3 := hid (HB2.out.jk HJ3.out)
    have HJ4 := hid (HJ2.out.trans HJ3.out)
    clear HB2 HJ2 HJ3
    obtain ⟨q0, q1, q2, q3, q4, q5, q6, q7, q8, q9, q10, q11, q12, q13, q14, q15, q16⟩ := (HQ.out.jk HJ4.out).in
    simp only at q0 q1 q2 q3 q4 q5 q6 q7 q8 q9 q10 q11 q12 q13 q14 q15 q16
    obtain ⟨x0, x1, x2, x3, x4, x5, x6, x7, x8, x9⟩ := HB3.out.in
    have xf := HB3.out.frozen
    have xl := HB3.out.lt
    have HB5 := hid (HB3.out.putE ⟨rc, rd⟩)
    have HJ5 := hid ((HJ4.out.set (p := ⟨g, 8, none⟩) hg (.int .i64 rc)).set (p := ⟨g, 9, none⟩) hg (.int .i64 rd))
    simp only at HB5
    go_upto_region 5 with fail
    generalize hwE : (w2.setCell ⟨g, 8, none⟩ (.int .i64 rc)).setCell ⟨g, 9, none⟩ (.int .i64 rd) = w3 at HB5 HJ5 ⊢
    clear hwE x0 x1 x2 x3 x4 x5 x6 x7 x8 x9 xf xl q0 q1 q2 q3 q4 q5 q6 q7 q8 q9 q10 q11 q12 q13 q14 q15 q16
    refine wp_region_lit ?_
    refine list_loadX rfl _ rfl HB5.out rfl ?_
    refine list_storeX rfl _ _ rfl (HZ.out.jk HJ5.out) rfl ⟨⟨ra, rb⟩, ⟨rc, rd⟩, ⟨re, rf⟩, ⟨rg, rh⟩, ⟨rc, rd⟩⟩ rfl fun w9 hq9 hg9 => ?_
    have HJ9 := hid ((HJ0.out.trans HJ5.out).grown hg9 (fun k hk => by cases hk; exact Nat.le_succ _))
    go_wp2
    exact bodyPost_ret (results_cell Tryz.results6 rfl (load_X hq9)) rfl ⟨rfl, HJ9.out⟩

set_option maxRecDepth 100000 in
set_option maxHeartbeats 3200000 in
theorem start_2 (cl ra rb rc rd re rf rg rh ri rj lo hi bu : Int) (fa : Bool) (w : World) (HP : Ans 21 #[.agg #[.int .i64 3, .int .i64 cl, .int .i64 ra, .int .i64 rb, .int .i64 rc, .int .i64 rd, .int .i64 re, .int .i64 rf, .int .i64 rg, .int .i64 rh, .int .i64 ri, .int .i64 rj, .int .i64 lo, .int .i64 hi, .int .i64 2, .bool fa, .int .i64 bu]] (.bool true)) : Calls Tryz.prog 6 #[.agg #[.int .i64 3, .int .i64 cl, .int .i64 ra, .int .i64 rb, .int .i64 rc, .int .i64 rd, .int .i64 re, .int .i64 rf, .int .i64 rg, .int .i64 rh, .int .i64 ri, .int .i64 rj, .int .i64 lo, .int .i64 hi, .int .i64 2, .bool fa, .int .i64 bu]] w fun e w' => e = .returned (boxW ⟨⟨ra, rb⟩, ⟨rc, rd⟩, ⟨re, rf⟩, ⟨rg, rh⟩, ⟨re, rf⟩⟩) ∧ Jk w w' := by
  have J := rules8
  obtain ⟨w0, hw0⟩ : ∃ w0, (w.alloc (.cells #[.int .i64 3, .int .i64 cl, .int .i64 ra, .int .i64 rb, .int .i64 rc, .int .i64 rd, .int .i64 re, .int .i64 rf, .int .i64 rg, .int .i64 rh, .int .i64 ri, .int .i64 rj, .int .i64 lo, .int .i64 hi, .int .i64 2, .bool fa, .int .i64 bu] 38)).alloc (.cells #[.int .i64 0, .int .i64 0, .int .i64 0, .int .i64 0, .int .i64 0, .int .i64 0, .int .i64 0, .int .i64 0, .int .i64 0, .int .i64 0] 36) = w0 := ⟨_, rfl⟩
  have hsz : w0.heap.size = w.heap.size + 1 + 1 := by rw [← hw0]; simp
  have HSz := hid hsz
  have HJ0 : Hid (Jk w w0) := hw0 ▸ ((Jk.refl w).alloc _).alloc _
  have HQ0 : QyB w0 w.heap.size ⟨3, cl, ⟨⟨ra, rb⟩, ⟨rc, rd⟩, ⟨re, rf⟩, ⟨rg, rh⟩, ⟨ri, rj⟩⟩, lo, hi, 2, fa, bu⟩ := by
    rw [← hw0]
    exact (QyB.laid w ⟨3, cl, ⟨⟨ra, rb⟩, ⟨rc, rd⟩, ⟨re, rf⟩, ⟨rg, rh⟩, ⟨ri, rj⟩⟩, lo, hi, 2, fa, bu⟩).jk ((Jk.refl _).alloc _)
  have hz0 : BxB w0 (w.heap.size + 1) Bx.nil := by
    rw [← hw0]
    have := BxB.laid (w.alloc (.cells #[.int .i64 3, .int .i64 cl, .int .i64 ra, .int .i64 rb, .int .i64 rc, .int .i64 rd, .int .i64 re, .int .i64 rf, .int .i64 rg, .int .i64 rh, .int .i64 ri, .int .i64 rj, .int .i64 lo, .int .i64 hi, .int .i64 2, .bool fa, .int .i64 bu] 38)) Bx.nil
    rwa [World.size_alloc] at this
  have HQ := hid HQ0
  have HZ := hid hz0
  obtain ⟨q0, q1, q2, q3, q4, q5, q6, q7, q8, q9, q10, q11, q12, q13, q14, q15, q16⟩ := HQ0.in
  have ql := HQ0.lt
  simp only at q0 q1 q2 q3 q4 q5 q6 q7 q8 q9 q10 q11 q12 q13 q14 q15 q16
  clear hz0 HQ0 hsz
  go_enter Tryz.func6, Tryz.ntmps6
  go_upto_region 1 with fail
  go_cut [3] (fun p wc => ∃ g, p = .pointer (some ⟨g, 0, none⟩) ∧ w0.heap.size ≤ g ∧ BxB wc g ⟨⟨ra, rb⟩, ⟨rc, rd⟩, ⟨re, rf⟩, ⟨rg, rh⟩, ⟨ri, rj⟩⟩ ∧ Jk w0 wc)
  case first =>
    go_wp2
    go_meet
    case rel => exact ⟨_, rfl, Nat.le_refl _, BxB.laid w0 ⟨⟨ra, rb⟩, ⟨rc, rd⟩, ⟨re, rf⟩, ⟨rg, rh⟩, ⟨ri, rj⟩⟩, (Jk.refl w0).alloc _⟩
  case rest =>
    obtain ⟨g, rfl, hg, hB, hj⟩ := hcut
    obtain ⟨w1, rfl⟩ : ∃ z, z = wc := ⟨_, rfl⟩
    obtain ⟨x0, x1, x2, x3, x4, x5, x6, x7, x8, x9⟩ := hB.in
    have xf := hB.frozen
    have xl := hB.lt
    have HB2 := hid (hB.putE Sp.nil)
    have HJ2 := hid ((hj.set (p := ⟨g, 8, none⟩) hg (.int .i64 0)).set (p := ⟨g, 9, none⟩) hg (.int .i64 0))
    simp only [Sp.nil] at HB2
    clear q0 q1 q2 q3 q4 q5 q6 q7 q8 q9 q10 q11 q12 q13 q14 q15 q16
    go_upto_region 3 with fail
    generalize hwE : (w1.setCell ⟨g, 8, none⟩ (.int .i64 0)).setCell ⟨g, 9, none⟩ (.int .i64 0) = wE at HB2 HJ2 ⊢
    clear hwE x0 x1 x2 x3 x4 x5 x6 x7 x8 x9 xf xl hB hj
    refine wp_region_lit ?_
    refine list_loadQ rfl _ rfl (HQ.out.jk HJ2.out) rfl ?_
    go_upto_region 4 with (first | (go_at_call 21; refine (HP.on _).mono ?_; rintro e w2 ⟨rfl, X2, hX2⟩; have HJ3 : Hid (Jk wE w2) := ⟨X2, hX2⟩; clear hX2 X2))
    have HB3 := hid (HB2.out.jk HJ3.out)
    have HJ4 := hid (HJ2.out.trans HJ3.out)
    clear HB2 HJ2 HJ3
    obtain ⟨q0, q1, q2, q3, q4, q5, q6, q7, q8, q9, q10, q11, q12, q13, q14, q15, q16⟩ := (HQ.out.jk HJ4.out).in
    simp only at q0 q1 q2 q3 q4 q5 q6 q7 q8 q9 q10 q11 q12 q13 q14 q15 q16
    obtain ⟨x0, x1, x2, x3, x4, x5, x6, x7, x8, x9⟩ := HB3.out.in
    have xf := HB3.out.frozen
    have xl := HB3.out.lt
    have HB5 := hid (HB3.out.putE ⟨re, rf⟩)
    have HJ5 := hid ((HJ4.out.set (p := ⟨g, 8, none⟩) hg (.int .i64 re)).set (p := ⟨g, 9, none⟩) hg (.int .i64 rf))
    simp only at HB5
    go_upto_region 5 with fail
    generalize hwE : (w2.setCell ⟨g, 8, none⟩ (.int .i64 re)).setCell ⟨g, 9, none⟩ (.int .i64 rf) = w3 at HB5 HJ5 ⊢
    clear hwE x0 x1 x2 x3 x4 x5 x6 x7 x8 x9 xf xl q0 q1 q2 q3 q4 q5 q6 q7 q8 q9 q10 q11 q12 q13 q14 q15 q16
    refine wp_region_lit ?_
    refine list_loadX rfl _ rfl HB5.out rfl ?_
    refine list_storeX rfl _ _ rfl (HZ.out.jk HJ5.out) rfl ⟨⟨ra, rb⟩, ⟨rc, rd⟩, ⟨re, rf⟩, ⟨rg, rh⟩, ⟨re, rf⟩⟩ rfl fun w9 hq9 hg9 => ?_
    have HJ9 := hid ((HJ0.out.trans HJ5.out).grown hg9 (fun k hk => by cases hk; exact Nat.le_succ _))
    go_wp2
    exact bodyPost_ret (results_cell Tryz.results6 rfl (load_X hq9)) rfl ⟨rfl, HJ9.out⟩

set_option maxRecDepth 100000 in
set_option maxHeartbeats 3200000 in
theorem start_3 (cl ra rb rc rd re rf rg rh ri rj lo hi bu : Int) (fa : Bool) (w : World) (HP : Ans 21 #[.agg #[.int .i64 3, .int .i64 cl, .int .i64 ra, .int .i64 rb, .int .i64 rc, .int .i64 rd, .int .i64 re, .int .i64 rf, .int .i64 rg, .int .i64 rh, .int .i64 ri, .int .i64 rj, .int .i64 lo, .int .i64 hi, .int .i64 3, .bool fa, .int .i64 bu]] (.bool true)) : Calls Tryz.prog 6 #[.agg #[.int .i64 3, .int .i64 cl, .int .i64 ra, .int .i64 rb, .int .i64 rc, .int .i64 rd, .int .i64 re, .int .i64 rf, .int .i64 rg, .int .i64 rh, .int .i64 ri, .int .i64 rj, .int .i64 lo, .int .i64 hi, .int .i64 3, .bool fa, .int .i64 bu]] w fun e w' => e = .returned (boxW ⟨⟨ra, rb⟩, ⟨rc, rd⟩, ⟨re, rf⟩, ⟨rg, rh⟩, ⟨rg, rh⟩⟩) ∧ Jk w w' := by
  have J := rules8
  obtain ⟨w0, hw0⟩ : ∃ w0, (w.alloc (.cells #[.int .i64 3, .int .i64 cl, .int .i64 ra, .int .i64 rb, .int .i64 rc, .int .i64 rd, .int .i64 re, .int .i64 rf, .int .i64 rg, .int .i64 rh, .int .i64 ri, .int .i64 rj, .int .i64 lo, .int .i64 hi, .int .i64 3, .bool fa, .int .i64 bu] 38)).alloc (.cells #[.int .i64 0, .int .i64 0, .int .i64 0, .int .i64 0, .int .i64 0, .int .i64 0, .int .i64 0, .int .i64 0, .int .i64 0, .int .i64 0] 36) = w0 := ⟨_, rfl⟩
  have hsz : w0.heap.size = w.heap.size + 1 + 1 := by rw [← hw0]; simp
  have HSz := hid hsz
  have HJ0 : Hid (Jk w w0) := hw0 ▸ ((Jk.refl w).alloc _).alloc _
  have HQ0 : QyB w0 w.heap.size ⟨3, cl, ⟨⟨ra, rb⟩, ⟨rc, rd⟩, ⟨re, rf⟩, ⟨rg, rh⟩, ⟨ri, rj⟩⟩, lo, hi, 3, fa, bu⟩ := by
    rw [← hw0]
    exact (QyB.laid w ⟨3, cl, ⟨⟨ra, rb⟩, ⟨rc, rd⟩, ⟨re, rf⟩, ⟨rg, rh⟩, ⟨ri, rj⟩⟩, lo, hi, 3, fa, bu⟩).jk ((Jk.refl _).alloc _)
  have hz0 : BxB w0 (w.heap.size + 1) Bx.nil := by
    rw [← hw0]
    have := BxB.laid (w.alloc (.cells #[.int .i64 3, .int .i64 cl, .int .i64 ra, .int .i64 rb, .int .i64 rc, .int .i64 rd, .int .i64 re, .int .i64 rf, .int .i64 rg, .int .i64 rh, .int .i64 ri, .int .i64 rj, .int .i64 lo, .int .i64 hi, .int .i64 3, .bool fa, .int .i64 bu] 38)) Bx.nil
    rwa [World.size_alloc] at this
  have HQ := hid HQ0
  have HZ := hid hz0
  obtain ⟨q0, q1, q2, q3, q4, q5, q6, q7, q8, q9, q10, q11, q12, q13, q14, q15, q16⟩ := HQ0.in
  have ql := HQ0.lt
  simp only at q0 q1 q2 q3 q4 q5 q6 q7 q8 q9 q10 q11 q12 q13 q14 q15 q16
  clear hz0 HQ0 hsz
  go_enter Tryz.func6, Tryz.ntmps6
  go_upto_region 1 with fail
  go_cut [3] (fun p wc => ∃ g, p = .pointer (some ⟨g, 0, none⟩) ∧ w0.heap.size ≤ g ∧ BxB wc g ⟨⟨ra, rb⟩, ⟨rc, rd⟩, ⟨re, rf⟩, ⟨rg, rh⟩, ⟨ri, rj⟩⟩ ∧ Jk w0 wc)
  case first =>
    go_wp2
    go_meet
    case rel => exact ⟨_, rfl, Nat.le_refl _, BxB.laid w0 ⟨⟨ra, rb⟩, ⟨rc, rd⟩, ⟨re, rf⟩, ⟨rg, rh⟩, ⟨ri, rj⟩⟩, (Jk.refl w0).alloc _⟩
  case rest =>
    obtain ⟨g, rfl, hg, hB, hj⟩ := hcut
    obtain ⟨w1, rfl⟩ : ∃ z, z = wc := ⟨_, rfl⟩
    obtain ⟨x0, x1, x2, x3, x4, x5, x6, x7, x8, x9⟩ := hB.in
    have xf := hB.frozen
    have xl := hB.lt
    have HB2 := hid (hB.putE Sp.nil)
    have HJ2 := hid ((hj.set (p := ⟨g, 8, none⟩) hg (.int .i64 0)).set (p := ⟨g, 9, none⟩) hg (.int .i64 0))
    simp only [Sp.nil] at HB2
    clear q0 q1 q2 q3 q4 q5 q6 q7 q8 q9 q10 q11 q12 q13 q14 q15 q16
    go_upto_region 3 with fail
    generalize hwE : (w1.setCell ⟨g, 8, none⟩ (.int .i64 0)).setCell ⟨g, 9, none⟩ (.int .i64 0) = wE at HB2 HJ2 ⊢
    clear hwE x0 x1 x2 x3 x4 x5 x6 x7 x8 x9 xf xl hB hj
    refine wp_region_lit ?_
    refine list_loadQ rfl _ rfl (HQ.out.jk HJ2.out) rfl ?_
    go_upto_region 4 with (first | (go_at_call 21; refine (HP.on _).mono ?_; rintro e w2 ⟨rfl, X2, hX2⟩; have HJ3 : Hid (Jk wE w2) := ⟨X2, hX2⟩; clear hX2 X2))
    have HB3 := hid (HB2.out.jk HJ3.out)
    have HJ4 := hid (HJ2.out.trans HJ3.out)
    clear HB2 HJ2 HJ3
    obtain ⟨q0, q1, q2, q3, q4, q5, q6, q7, q8, q9, q10, q11, q12, q13, q14, q15, q16⟩ := (HQ.out.jk HJ4.out).in
    simp only at q0 q1 q2 q3 q4 q5 q6 q7 q8 q9 q10 q11 q12 q13 q14 q15 q16
    obtain ⟨x0, x1, x2, x3, x4, x5, x6, x7, x8, x9⟩ := HB3.out.in
    have xf := HB3.out.frozen
    have xl := HB3.out.lt
    have HB5 := hid (HB3.out.putE ⟨rg, rh⟩)
    have HJ5 := hid ((HJ4.out.set (p := ⟨g, 8, none⟩) hg (.int .i64 rg)).set (p := ⟨g, 9, none⟩) hg (.int .i64 rh))
    simp only at HB5
    go_upto_region 5 with fail
    generalize hwE : (w2.setCell ⟨g, 8, none⟩ (.int .i64 rg)).setCell ⟨g, 9, none⟩ (.int .i64 rh) = w3 at HB5 HJ5 ⊢
    clear hwE x0 x1 x2 x3 x4 x5 x6 x7 x8 x9 xf xl q0 q1 q2 q3 q4 q5 q6 q7 q8 q9 q10 q11 q12 q13 q14 q15 q16
    refine wp_region_lit ?_
    refine list_loadX rfl _ rfl HB5.out rfl ?_
    refine list_storeX rfl _ _ rfl (HZ.out.jk HJ5.out) rfl ⟨⟨ra, rb⟩, ⟨rc, rd⟩, ⟨re, rf⟩, ⟨rg, rh⟩, ⟨rg, rh⟩⟩ rfl fun w9 hq9 hg9 => ?_
    have HJ9 := hid ((HJ0.out.trans HJ5.out).grown hg9 (fun k hk => by cases hk; exact Nat.le_succ _))
    go_wp2
    exact bodyPost_ret (results_cell Tryz.results6 rfl (load_X hq9)) rfl ⟨rfl, HJ9.out⟩

theorem start_ans (q : Qy) : Ans 6 #[queryV q] (boxW (startI q)) := fun w => by
  obtain ⟨b, hb⟩ := pair_bool q
  have HP := pairs_ans hb
  cases b
  · have hn : ¬ pairP q := fun h => by simpa using hb.2 h
    simp only [startI, if_neg hn]
    obtain ⟨kd, cl, ⟨⟨ra, rb⟩, ⟨rc, rd⟩, ⟨re, rf⟩, ⟨rg, rh⟩, ⟨ri, rj⟩⟩, lo, hi, f, fa, bu⟩ := q
    exact start_no kd f cl ra rb rc rd re rf rg rh ri rj lo hi bu fa w HP
  · have hp := hb.1 rfl
    simp only [startI, if_pos hp]
    obtain ⟨kd, cl, ⟨⟨ra, rb⟩, ⟨rc, rd⟩, ⟨re, rf⟩, ⟨rg, rh⟩, ⟨ri, rj⟩⟩, lo, hi, f, fa, bu⟩ := q
    obtain ⟨h1, h2, h3⟩ := hp
    simp only at h1 h2 h3
    subst h1
    have hf : f = 0 ∨ f = 1 ∨ f = 2 ∨ f = 3 := by omega
    rcases hf with rfl | rfl | rfl | rfl
    · exact start_0 cl ra rb rc rd re rf rg rh ri rj lo hi bu fa w HP
    · exact start_1 cl ra rb rc rd re rf rg rh ri rj lo hi bu fa w HP
    · exact start_2 cl ra rb rc rd re rf rg rh ri rj lo hi bu fa w HP
    · exact start_3 cl ra rb rc rd re rf rg rh ri rj lo hi bu fa w HP

end Go.Proofs.YtkkbeobocbgmeaaGreat
