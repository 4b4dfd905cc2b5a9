/- What Start and Second of package query answer. -/
import Derived.Test.YtndnijdpafcmoaaQueryA
namespace Go.Proofs.Ytndnijdpafcmoaa
open Go.RowKit M

/-- a point in a block of its own -/
def PtB (w : World) (h : Nat) (p0 p1 p2 p3 : Int) : Prop := w.heap[h]? = some (.cells #[.int .i64 p0, .int .i64 p1, .int .i64 p2, .int .i64 p3] 29 (0, 0))
theorem PtB.lt {w : World} {h : Nat} {p0 p1 p2 p3 : Int} (H : PtB w h p0 p1 p2 p3) : h < w.heap.size := (Array.getElem?_eq_some_iff.1 H).1
theorem PtB.jk {w w' : World} {h : Nat} {p0 p1 p2 p3 : Int} (H : PtB w h p0 p1 p2 p3) (hj : Jk w w') : PtB w' h p0 p1 p2 p3 := (hj.below.block h H.lt).trans H
theorem PtB.laid (w : World) (p0 p1 p2 p3 : Int) : PtB (w.alloc (.cells #[.int .i64 p0, .int .i64 p1, .int .i64 p2, .int .i64 p3] 29)) w.heap.size p0 p1 p2 p3 := heap_alloc_new w _
theorem PtB.frozen {w : World} {h : Nat} {p0 p1 p2 p3 : Int} (H : PtB w h p0 p1 p2 p3) (q : Nat) : w.frozen? ⟨h, q, none⟩ = false := frozen_of_row _ _ _ _ _ H
theorem PtB.in {w : World} {h : Nat} {p0 p1 p2 p3 : Int} (H : PtB w h p0 p1 p2 p3) : h < w.heap.size ∧ w.cell? ⟨h, 0, none⟩ = some (.int .i64 p0) ∧ w.cell? ⟨h, 1, none⟩ = some (.int .i64 p1) ∧ w.cell? ⟨h, 2, none⟩ = some (.int .i64 p2) ∧ w.cell? ⟨h, 3, none⟩ = some (.int .i64 p3) := by
  refine ⟨H.lt, ?_, ?_, ?_, ?_⟩ <;> (rw [cell_of_row _ _ _ _ _ _ H]; rfl)
theorem pair_bool (q : Qy) : ∃ b : Bool, b = true ↔ pairP q := ⟨decide (pairP q), by simp⟩
theorem secondI_no {q : Qy} {p : Int → Int} {t : Int} (h : ¬ pairP q) : secondI q p t = p := if_neg h
theorem secondI_yes {q : Qy} {p : Int → Int} {t : Int} (h : pairP q) : secondI q p t = putP p q.f t := if_pos h

set_option maxRecDepth 100000 in
set_option maxHeartbeats 3200000 in
theorem second_no (kd f cl ra rb rc rd re rf rg rh ri rj lo hi bu : Int) (fa : Bool) (p0 p1 p2 p3 t : Int) (w : World) (HP : Ans 25 #[.agg #[.int .i64 kd, .int .i64 cl, .int .i64 ra, .int .i64 rb, .int .i64 rc, .int .i64 rd, .int .i64 re, .int .i64 rf, .int .i64 rg, .int .i64 rh, .int .i64 ri, .int .i64 rj, .int .i64 lo, .int .i64 hi, .int .i64 f, .bool fa, .int .i64 bu]] (.bool false)) : Calls Try.prog 11 #[.agg #[.int .i64 kd, .int .i64 cl, .int .i64 ra, .int .i64 rb, .int .i64 rc, .int .i64 rd, .int .i64 re, .int .i64 rf, .int .i64 rg, .int .i64 rh, .int .i64 ri, .int .i64 rj, .int .i64 lo, .int .i64 hi, .int .i64 f, .bool fa, .int .i64 bu], .agg #[.int .i64 p0, .int .i64 p1, .int .i64 p2, .int .i64 p3], .int .i64 t] w fun e w' => e = .returned (.agg #[.int .i64 p0, .int .i64 p1, .int .i64 p2, .int .i64 p3]) ∧ Jk w w' := by
  have J := rules8
  obtain ⟨w0, hw0⟩ : ∃ w0, ((w.alloc (.cells #[.int .i64 kd, .int .i64 cl, .int .i64 ra, .int .i64 rb, .int .i64 rc, .int .i64 rd, .int .i64 re, .int .i64 rf, .int .i64 rg, .int .i64 rh, .int .i64 ri, .int .i64 rj, .int .i64 lo, .int .i64 hi, .int .i64 f, .bool fa, .int .i64 bu] 40)).alloc (.cells #[.int .i64 p0, .int .i64 p1, .int .i64 p2, .int .i64 p3] 29)).alloc (.cells #[.int .i64 0, .int .i64 0, .int .i64 0, .int .i64 0] 29) = w0 := ⟨_, rfl⟩
  have HJ0 : Hid (Jk w w0) := hw0 ▸ (((Jk.refl w).alloc _).alloc _).alloc _
  have HQ0 : QyB w0 w.heap.size ⟨kd, cl, ⟨⟨ra, rb⟩, ⟨rc, rd⟩, ⟨re, rf⟩, ⟨rg, rh⟩, ⟨ri, rj⟩⟩, lo, hi, f, fa, bu⟩ := by
    rw [← hw0]
    exact (QyB.laid w ⟨kd, cl, ⟨⟨ra, rb⟩, ⟨rc, rd⟩, ⟨re, rf⟩, ⟨rg, rh⟩, ⟨ri, rj⟩⟩, lo, hi, f, fa, bu⟩).jk (((Jk.refl _).alloc _).alloc _)
  have hp0 : PtB w0 (w.heap.size + 1) p0 p1 p2 p3 := by
    rw [← hw0]
    have := PtB.laid (w.alloc (.cells #[.int .i64 kd, .int .i64 cl, .int .i64 ra, .int .i64 rb, .int .i64 rc, .int .i64 rd, .int .i64 re, .int .i64 rf, .int .i64 rg, .int .i64 rh, .int .i64 ri, .int .i64 rj, .int .i64 lo, .int .i64 hi, .int .i64 f, .bool fa, .int .i64 bu] 40)) p0 p1 p2 p3
    rw [World.size_alloc] at this
    exact this.jk ((Jk.refl _).alloc _)
  have hz0 : PtB w0 (w.heap.size + 1 + 1) 0 0 0 0 := by
    rw [← hw0]
    have := PtB.laid ((w.alloc (.cells #[.int .i64 kd, .int .i64 cl, .int .i64 ra, .int .i64 rb, .int .i64 rc, .int .i64 rd, .int .i64 re, .int .i64 rf, .int .i64 rg, .int .i64 rh, .int .i64 ri, .int .i64 rj, .int .i64 lo, .int .i64 hi, .int .i64 f, .bool fa, .int .i64 bu] 40)).alloc (.cells #[.int .i64 p0, .int .i64 p1, .int .i64 p2, .int .i64 p3] 29)) 0 0 0 0
    rwa [World.size_alloc, World.size_alloc] at this
  have HQ := hid HQ0
  have HPt := hid hp0
  have HZ := hid hz0
  clear HQ0 hp0 hz0
  go_enter Try.func11, Try.ntmps11
  go_upto_region 1 with fail
  refine wp_region_lit ?_
  refine list_loadQ rfl _ rfl HQ.out rfl ?_
  go_upto_region 3 with (first | (go_at_call 25; refine (HP.on _).mono ?_; rintro e w1 ⟨rfl, X1, hX1⟩; have HJ1 : Hid (Jk w0 w1) := ⟨X1, hX1⟩; clear hX1 X1))
  obtain ⟨pl, px0, px1, px2, px3⟩ := (HPt.out.jk HJ1.out).in
  obtain ⟨zl, zx0, zx1, zx2, zx3⟩ := (HZ.out.jk HJ1.out).in
  have zf := (HZ.out.jk HJ1.out).frozen
  go_wp2
  exact bodyPost_ret (by simp [results, Try.results11, go_sem, *]) rfl ⟨rfl, by repeat (with_reducible first | exact HJ0.out.trans HJ1.out | (refine Jk.set ?_ (by simp only; omega) _))⟩

set_option maxRecDepth 100000 in
set_option maxHeartbeats 3200000 in
theorem second_0 (cl ra rb rc rd re rf rg rh ri rj lo hi bu : Int) (fa : Bool) (p0 p1 p2 p3 t : Int) (w : World) (HP : Ans 25 #[.agg #[.int .i64 3, .int .i64 cl, .int .i64 ra, .int .i64 rb, .int .i64 rc, .int .i64 rd, .int .i64 re, .int .i64 rf, .int .i64 rg, .int .i64 rh, .int .i64 ri, .int .i64 rj, .int .i64 lo, .int .i64 hi, .int .i64 0, .bool fa, .int .i64 bu]] (.bool true)) : Calls Try.prog 11 #[.agg #[.int .i64 3, .int .i64 cl, .int .i64 ra, .int .i64 rb, .int .i64 rc, .int .i64 rd, .int .i64 re, .int .i64 rf, .int .i64 rg, .int .i64 rh, .int .i64 ri, .int .i64 rj, .int .i64 lo, .int .i64 hi, .int .i64 0, .bool fa, .int .i64 bu], .agg #[.int .i64 p0, .int .i64 p1, .int .i64 p2, .int .i64 p3], .int .i64 t] w fun e w' => e = .returned (.agg #[.int .i64 t, .int .i64 p1, .int .i64 p2, .int .i64 p3]) ∧ Jk w w' := by
  have J := rules8
  obtain ⟨w0, hw0⟩ : ∃ w0, ((w.alloc (.cells #[.int .i64 3, .int .i64 cl, .int .i64 ra, .int .i64 rb, .int .i64 rc, .int .i64 rd, .int .i64 re, .int .i64 rf, .int .i64 rg, .int .i64 rh, .int .i64 ri, .int .i64 rj, .int .i64 lo, .int .i64 hi, .int .i64 0, .bool fa, .int .i64 bu] 40)).alloc (.cells #[.int .i64 p0, .int .i64 p1, .int .i64 p2, .int .i64 p3] 29)).alloc (.cells #[.int .i64 0, .int .i64 0, .int .i64 0, .int .i64 0] 29) = w0 := ⟨_, rfl⟩
  have HJ0 : Hid (Jk w w0) := hw0 ▸ (((Jk.refl w).alloc _).alloc _).alloc _
  have HQ0 : QyB w0 w.heap.size ⟨3, cl, ⟨⟨ra, rb⟩, ⟨rc, rd⟩, ⟨re, rf⟩, ⟨rg, rh⟩, ⟨ri, rj⟩⟩, lo, hi, 0, fa, bu⟩ := by
    rw [← hw0]
    exact (QyB.laid w ⟨3, cl, ⟨⟨ra, rb⟩, ⟨rc, rd⟩, ⟨re, rf⟩, ⟨rg, rh⟩, ⟨ri, rj⟩⟩, lo, hi, 0, fa, bu⟩).jk (((Jk.refl _).alloc _).alloc _)
  have hp0 : PtB w0 (w.heap.size + 1) p0 p1 p2 p3 := by
    rw [← hw0]
    have := PtB.laid (w.alloc (.cells #[.int .i64 3, .int .i64 cl, .int .i64 ra, .int .i64 rb, .int .i64 rc, .int .i64 rd, .int .i64 re, .int .i64 rf, .int .i64 rg, .int .i64 rh, .int .i64 ri, .int .i64 rj, .int .i64 lo, .int .i64 hi, .int .i64 0, .bool fa, .int .i64 bu] 40)) p0 p1 p2 p3
    rw [World.size_alloc] at this
    exact this.jk ((Jk.refl _).alloc _)
  have hz0 : PtB w0 (w.heap.size + 1 + 1) 0 0 0 0 := by
    rw [← hw0]
    have := PtB.laid ((w.alloc (.cells #[.int .i64 3, .int .i64 cl, .int .i64 ra, .int .i64 rb, .int .i64 rc, .int .i64 rd, .int .i64 re, .int .i64 rf, .int .i64 rg, .int .i64 rh, .int .i64 ri, .int .i64 rj, .int .i64 lo, .int .i64 hi, .int .i64 0, .bool fa, .int .i64 bu] 40)).alloc (.cells #[.int .i64 p0, .int .i64 p1, .int .i64 p2, .int .i64 p3] 29)) 0 0 0 0
    rwa [World.size_alloc, World.size_alloc] at this
  have HQ := hid HQ0
  have HPt := hid hp0
  have HZ := hid hz0
  clear HQ0 hp0 hz0
  go_enter Try.func11, Try.ntmps11
  go_upto_region 1 with fail
  refine wp_region_lit ?_
  refine list_loadQ rfl _ rfl HQ.out rfl ?_
  go_upto_region 2 with (first | (go_at_call 25; refine (HP.on _).mono ?_; rintro e w1 ⟨rfl, X1, hX1⟩; have HJ1 : Hid (Jk w0 w1) := ⟨X1, hX1⟩; clear hX1 X1))
  obtain ⟨pl, px0, px1, px2, px3⟩ := (HPt.out.jk HJ1.out).in
  obtain ⟨zl, zx0, zx1, zx2, zx3⟩ := (HZ.out.jk HJ1.out).in
  obtain ⟨q0, q1, q2, q3, q4, q5, q6, q7, q8, q9, q10, q11, q12, q13, q14, q15, q16⟩ := (HQ.out.jk HJ1.out).in
  simp only at q0 q1 q2 q3 q4 q5 q6 q7 q8 q9 q10 q11 q12 q13 q14 q15 q16
  have pf := (HPt.out.jk HJ1.out).frozen
  have zf := (HZ.out.jk HJ1.out).frozen
  go_wp2
  exact bodyPost_ret (by simp [results, Try.results11, go_sem, *]) rfl ⟨rfl, by repeat (with_reducible first | exact HJ0.out.trans HJ1.out | (refine Jk.set ?_ (by simp only; omega) _))⟩

set_option maxRecDepth 100000 in
set_option maxHeartbeats 3200000 in
theorem second_1 (cl ra rb rc rd re rf rg rh ri rj lo hi bu : Int) (fa : Bool) (p0 p1 p2 p3 t : Int) (w : World) (HP : Ans 25 #[.agg #[.int .i64 3, .int .i64 cl, .int .i64 ra, .int .i64 rb, .int .i64 rc, .int .i64 rd, .int .i64 re, .int .i64 rf, .int .i64 rg, .int .i64 rh, .int .i64 ri, .int .i64 rj, .int .i64 lo, .int .i64 hi, .int .i64 1, .bool fa, .int .i64 bu]] (.bool true)) : Calls Try.prog 11 #[.agg #[.int .i64 3, .int .i64 cl, .int .i64 ra, .int .i64 rb, .int .i64 rc, .int .i64 rd, .int .i64 re, .int .i64 rf, .int .i64 rg, .int .i64 rh, .int .i64 ri, .int .i64 rj, .int .i64 lo, .int .i64 hi, .int .i64 1, .bool fa, .int .i64 bu], .agg #[.int .i64 p0, .int .i64 p1, .int .i64 p2, .int .i64 p3], .int .i64 t] w fun e w' => e = .returned (.agg #[.int .i64 p0, .int .i64 t, .int .i64 p2, .int .i64 p3]) ∧ Jk w w' := by
  have J := rules8
  obtain ⟨w0, hw0⟩ : ∃ w0, ((w.alloc (.cells #[.int .i64 3, .int .i64 cl, .int .i64 ra, .int .i64 rb, .int .i64 rc, .int .i64 rd, .int .i64 re, .int .i64 rf, .int .i64 rg, .int .i64 rh, .int .i64 ri, .int .i64 rj, .int .i64 lo, .int .i64 hi, .int .i64 1, .bool fa, .int .i64 bu] 40)).alloc (.cells #[.int .i64 p0, .int .i64 p1, .int .i64 p2, .int .i64 p3] 29)).alloc (.cells #[.int .i64 0, .int .i64 0, .int .i64 0, .int .i64 0] 29) = w0 := ⟨_, rfl⟩
  have HJ0 : Hid (Jk w w0) := hw0 ▸ (((Jk.refl w).alloc _).alloc _).alloc _
  have HQ0 : QyB w0 w.heap.size ⟨3, cl, ⟨⟨ra, rb⟩, ⟨rc, rd⟩, ⟨re, rf⟩, ⟨rg, rh⟩, ⟨ri, rj⟩⟩, lo, hi, 1, fa, bu⟩ := by
    rw [← hw0]
    exact (QyB.laid w ⟨3, cl, ⟨⟨ra, rb⟩, ⟨rc, rd⟩, ⟨re, rf⟩, ⟨rg, rh⟩, ⟨ri, rj⟩⟩, lo, hi, 1, fa, bu⟩).jk (((Jk.refl _).alloc _).alloc _)
  have hp0 : PtB w0 (w.heap.size + 1) p0 p1 p2 p3 := by
    rw [← hw0]
    have := PtB.laid (w.alloc (.cells #[.int .i64 3, .int .i64 cl, .int .i64 ra, .int .i64 rb, .int .i64 rc, .int .i64 rd, .int .i64 re, .int .i64 rf, .int .i64 rg, .int .i64 rh, .int .i64 ri, .int .i64 rj, .int .i64 lo, .int .i64 hi, .int .i64 1, .bool fa, .int .i64 bu] 40)) p0 p1 p2 p3
    rw [World.size_alloc] at this
    exact this.jk ((Jk.refl _).alloc _)
  have hz0 : PtB w0 (w.heap.size + 1 + 1) 0 0 0 0 := by
    rw [← hw0]
    have := PtB.laid ((w.alloc (.cells #[.int .i64 3, .int .i64 cl, .int .i64 ra, .int .i64 rb, .int .i64 rc, .int .i64 rd, .int .i64 re, .int .i64 rf, .int .i64 rg, .int .i64 rh, .int .i64 ri, .int .i64 rj, .int .i64 lo, .int .i64 hi, .int .i64 1, .bool fa, .int .i64 bu] 40)).alloc (.cells #[.int .i64 p0, .int .i64 p1, .int .i64 p2, .int .i64 p3] 29)) 0 0 0 0
    rwa [World.size_alloc, World.size_alloc] at this
  have HQ := hid HQ0
  have HPt := hid hp0
  have HZ := hid hz0
  clear HQ0 hp0 hz0
  go_enter Try.func11, Try.ntmps11
  go_upto_region 1 with fail
  refine wp_region_lit ?_
  refine list_loadQ rfl _ rfl HQ.out rfl ?_
  go_upto_region 2 with (first | (go_at_call 25; refine (HP.on _).mono ?_; rintro e w1 ⟨rfl, X1, hX1⟩; have HJ1 : Hid (Jk w0 w1) := ⟨X1, hX1⟩; clear hX1 X1))
  obtain ⟨pl, px0, px1, px2, px3⟩ := (HPt.out.jk HJ1.out).in
  obtain ⟨zl, zx0, zx1, zx2, zx3⟩ := (HZ.out.jk HJ1.out).in
  obtain ⟨q0, q1, q2, q3, q4, q5, q6, q7, q8, q9, q10, q11, q12, q13, q14, q15, q16⟩ := (HQ.out.jk HJ1.out).in
  simp only at q0 q1 q2 q3 q4 q5 q6 q7 q8 q9 q10 q11 q12 q13 q14 q15 q16
  have pf := (HPt.out.jk HJ1.out).frozen
  have zf := (HZ.out.jk HJ1.out).frozen
  go_wp2
  exact bodyPost_ret (by simp [results, Try.results11, go_sem, *]) rfl ⟨rfl, by repeat (with_reducible first | exact HJ0.out.trans HJ1.out | (refine Jk.set ?_ (by simp only; omega) _))⟩

set_option maxRecDepth 100000 in
set_option maxHeartbeats 3200000 in
theorem second_2 (cl ra rb rc rd re rf rg rh ri rj lo hi bu : Int) (fa : Bool) (p0 p1 p2 p3 t : Int) (w : World) (HP : Ans 25 #[.agg #[.int .i64 3, .int .i64 cl, .int .i64 ra, .int .i64 rb, .int .i64 rc, .int .i64 rd, .int .i64 re, .int .i64 rf, .int .i64 rg, .int .i64 rh, .int .i64 ri, .int .i64 rj, .int .i64 lo, .int .i64 hi, .int .i64 2, .bool fa, .int .i64 bu]] (.bool true)) : Calls Try.prog 11 #[.agg #[.int .i64 3, .int .i64 cl, .int .i64 ra, .int .i64 rb, .int .i64 rc, .int .i64 rd, .int .i64 re, .int .i64 rf, .int .i64 rg, .int .i64 rh, .int .i64 ri, .int .i64 rj, .int .i64 lo, .int .i64 hi, .int .i64 2, .bool fa, .int .i64 bu], .agg #[.int .i64 p0, .int .i64 p1, .int .i64 p2, .int .i64 p3], .int .i64 t] w fun e w' => e = .returned (.agg #[.int .i64 p0, .int .i64 p1, .int .i64 t, .int .i64 p3]) ∧ Jk w w' := by
  have J := rules8
  obtain ⟨w0, hw0⟩ : ∃ w0, ((w.alloc (.cells #[.int .i64 3, .int .i64 cl, .int .i64 ra, .int .i64 rb, .int .i64 rc, .int .i64 rd, .int .i64 re, .int .i64 rf, .int .i64 rg, .int .i64 rh, .int .i64 ri, .int .i64 rj, .int .i64 lo, .int .i64 hi, .int .i64 2, .bool fa, .int .i64 bu] 40)).alloc (.cells #[.int .i64 p0, .int .i64 p1, .int .i64 p2, .int .i64 p3] 29)).alloc (.cells #[.int .i64 0, .int .i64 0, .int .i64 0, .int .i64 0] 29) = w0 := ⟨_, rfl⟩
  have HJ0 : Hid (Jk w w0) := hw0 ▸ (((Jk.refl w).alloc _).alloc _).alloc _
  have HQ0 : QyB w0 w.heap.size ⟨3, cl, ⟨⟨ra, rb⟩, ⟨rc, rd⟩, ⟨re, rf⟩, ⟨rg, rh⟩, ⟨ri, rj⟩⟩, lo, hi, 2, fa, bu⟩ := by
    rw [← hw0]
    exact (QyB.laid w ⟨3, cl, ⟨⟨ra, rb⟩, ⟨rc, rd⟩, ⟨re, rf⟩, ⟨rg, rh⟩, ⟨ri, rj⟩⟩, lo, hi, 2, fa, bu⟩).jk (((Jk.refl _).alloc _).alloc _)
  have hp0 : PtB w0 (w.heap.size + 1) p0 p1 p2 p3 := by
    rw [← hw0]
    have := PtB.laid (w.alloc (.cells #[.int .i64 3, .int .i64 cl, .int .i64 ra, .int .i64 rb, .int .i64 rc, .int .i64 rd, .int .i64 re, .int .i64 rf, .int .i64 rg, .int .i64 rh, .int .i64 ri, .int .i64 rj, .int .i64 lo, .int .i64 hi, .int .i64 2, .bool fa, .int .i64 bu] 40)) p0 p1 p2 p3
    rw [World.size_alloc] at this
    exact this.jk ((Jk.refl _).alloc _)
  have hz0 : PtB w0 (w.heap.size + 1 + 1) 0 0 0 0 := by
    rw [← hw0]
    have := PtB.laid ((w.alloc (.cells #[.int .i64 3, .int .i64 cl, .int .i64 ra, .int .i64 rb, .int .i64 rc, .int .i64 rd, .int .i64 re, .int .i64 rf, .int .i64 rg, .int .i64 rh, .int .i64 ri, .int .i64 rj, .int .i64 lo, .int .i64 hi, .int .i64 2, .bool fa, .int .i64 bu] 40)).alloc (.cells #[.int .i64 p0, .int .i64 p1, .int .i64 p2, .int .i64 p3] 29)) 0 0 0 0
    rwa [World.size_alloc, World.size_alloc] at this
  have HQ := hid HQ0
  have HPt := hid hp0
  have HZ := hid hz0
  clear HQ0 hp0 hz0
  go_enter Try.func11, Try.ntmps11
  go_upto_region 1 with fail
  refine wp_region_lit ?_
  refine list_loadQ rfl _ rfl HQ.out rfl ?_
  go_upto_region 2 with (first | (go_at_call 25; refine (HP.on _).mono ?_; rintro e w1 ⟨rfl, X1, hX1⟩; have HJ1 : Hid (Jk w0 w1) := ⟨X1, hX1⟩; clear hX1 X1))
  obtain ⟨pl, px0, px1, px2, px3⟩ := (HPt.out.jk HJ1.out).in
  obtain ⟨zl, zx0, zx1, zx2, zx3⟩ := (HZ.out.jk HJ1.out).in
  obtain ⟨q0, q1, q2, q3, q4, q5, q6, q7, q8, q9, q10, q11, q12, q13, q14, q15, q16⟩ := (HQ.out.jk HJ1.out).in
  simp only at q0 q1 q2 q3 q4 q5 q6 q7 q8 q9 q10 q11 q12 q13 q14 q15 q16
  have pf := (HPt.out.jk HJ1.out).frozen
  have zf := (HZ.out.jk HJ1.out).frozen
  go_wp2
  exact bodyPost_ret (by simp [results, Try.results11, go_sem, *]) rfl ⟨rfl, by repeat (with_reducible first | exact HJ0.out.trans HJ1.out | (refine Jk.set ?_ (by simp only; omega) _))⟩

set_option maxRecDepth 100000 in
set_option maxHeartbeats 3200000 in
theorem second_3 (cl ra rb rc rd re rf rg rh ri rj lo hi bu : Int) (fa : Bool) (p0 p1 p2 p3 t : Int) (w : World) (HP : Ans 25 #[.agg #[.int .i64 3, .int .i64 cl, .int .i64 ra, .int .i64 rb, .int .i64 rc, .int .i64 rd, .int .i64 re, .int .i64 rf, .int .i64 rg, .int .i64 rh, .int .i64 ri, .int .i64 rj, .int .i64 lo, .int .i64 hi, .int .i64 3, .bool fa, .int .i64 bu]] (.bool true)) : Calls Try.prog 11 #[.agg #[.int .i64 3, .int .i64 cl, .int .i64 ra, .int .i64 rb, .int .i64 rc, .int .i64 rd, .int .i64 re, .int .i64 rf, .int .i64 rg, .int .i64 rh, .int .i64 ri, .int .i64 rj, .int .i64 lo, .int .i64 hi, .int .i64 3, .bool fa, .int .i64 bu], .agg #[.int .i64 p0, .int .i64 p1, .int .i64 p2, .int .i64 p3], .int .i64 t] w fun e w' => e = .returned (.agg #[.int .i64 p0, .int .i64 p1, .int .i64 p2, .int .i64 t]) ∧ Jk w w' := by
  have J := rules8
  obtain ⟨w0, hw0⟩ : ∃ w0, ((w.alloc (.cells #[.int .i64 3, .int .i64 cl, .int .i64 ra, .int .i64 rb, .int .i64 rc, .int .i64 rd, .int .i64 re, .int .i64 rf, .int .i64 rg, .int .i64 rh, .int .i64 ri, .int .i64 rj, .int .i64 lo, .int .i64 hi, .int .i64 3, .bool fa, .int .i64 bu] 40)).alloc (.cells #[.int .i64 p0, .int .i64 p1, .int .i64 p2, .int .i64 p3] 29)).alloc (.cells #[.int .i64 0, .int .i64 0, .int .i64 0, .int .i64 0] 29) = w0 := ⟨_, rfl⟩
  have HJ0 : Hid (Jk w w0) := hw0 ▸ (((Jk.refl w).alloc _).alloc _).alloc _
  have HQ0 : QyB w0 w.heap.size ⟨3, cl, ⟨⟨ra, rb⟩, ⟨rc, rd⟩, ⟨re, rf⟩, ⟨rg, rh⟩, ⟨ri, rj⟩⟩, lo, hi, 3, fa, bu⟩ := by
    rw [← hw0]
    exact (QyB.laid w ⟨3, cl, ⟨⟨ra, rb⟩, ⟨rc, rd⟩, ⟨re, rf⟩, ⟨rg, rh⟩, ⟨ri, rj⟩⟩, lo, hi, 3, fa, bu⟩).jk (((Jk.refl _).alloc _).alloc _)
  have hp0 : PtB w0 (w.heap.size + 1) p0 p1 p2 p3 := by
    rw [← hw0]
    have := PtB.laid (w.alloc (.cells #[.int .i64 3, .int .i64 cl, .int .i64 ra, .int .i64 rb, .int .i64 rc, .int .i64 rd, .int .i64 re, .int .i64 rf, .int .i64 rg, .int .i64 rh, .int .i64 ri, .int .i64 rj, .int .i64 lo, .int .i64 hi, .int .i64 3, .bool fa, .int .i64 bu] 40)) p0 p1 p2 p3
    rw [World.size_alloc] at this
    exact this.jk ((Jk.refl _).alloc _)
  have hz0 : PtB w0 (w.heap.size + 1 + 1) 0 0 0 0 := by
    rw [← hw0]
    have := PtB.laid ((w.alloc (.cells #[.int .i64 3, .int .i64 cl, .int .i64 ra, .int .i64 rb, .int .i64 rc, .int .i64 rd, .int .i64 re, .int .i64 rf, .int .i64 rg, .int .i64 rh, .int .i64 ri, .int .i64 rj, .int .i64 lo, .int .i64 hi, .int .i64 3, .bool fa, .int .i64 bu] 40)).alloc (.cells #[.int .i64 p0, .int .i64 p1, .int .i64 p2, .int .i64 p3] 29)) 0 0 0 0
    rwa [World.size_alloc, World.size_alloc] at this
  have HQ := hid HQ0
  have HPt := hid hp0
  have HZ := hid hz0
  clear HQ0 hp0 hz0
  go_enter Try.func11, Try.ntmps11
  go_upto_region 1 with fail
  refine wp_region_lit ?_
  refine list_loadQ rfl _ rfl HQ.out rfl ?_
  go_upto_region 2 with (first | (go_at_call 25; refine (HP.on _).mono ?_; rintro e w1 ⟨rfl, X1, hX1⟩; have HJ1 : Hid (Jk w0 w1) := ⟨X1, hX1⟩; clear hX1 X1))
  obtain ⟨pl, px0, px1, px2, px3⟩ := (HPt.out.jk HJ1.out).in
  obtain ⟨zl, zx0, zx1, zx2, zx3⟩ := (HZ.out.jk HJ1.out).in
  obtain ⟨q0, q1, q2, q3, q4, q5, q6, q7, q8, q9, q10, q11, q12, q13, q14, q15, q16⟩ := (HQ.out.jk HJ1.out).in
  simp only at q0 q1 q2 q3 q4 q5 q6 q7 q8 q9 q10 q11 q12 q13 q14 q15 q16
  have pf := (HPt.out.jk HJ1.out).frozen
  have zf := (HZ.out.jk HJ1.out).frozen
  go_wp2
  exact bodyPost_ret (by simp [results, Try.results11, go_sem, *]) rfl ⟨rfl, by repeat (with_reducible first | exact HJ0.out.trans HJ1.out | (refine Jk.set ?_ (by simp only; omega) _))⟩

theorem second_ans (q : Qy) (p : Int → Int) (t : Int) : Ans 11 #[queryV q, pointV p, .int .i64 t] (pointV (secondI q p t)) := fun w => by
  obtain ⟨b, hb⟩ := pair_bool q
  have HP := pairs_ans hb
  cases b
  · rw [secondI_no (fun h => by simpa using hb.2 h)]
    obtain ⟨kd, cl, ⟨⟨ra, rb⟩, ⟨rc, rd⟩, ⟨re, rf⟩, ⟨rg, rh⟩, ⟨ri, rj⟩⟩, lo, hi, f, fa, bu⟩ := q
    exact second_no kd f cl ra rb rc rd re rf rg rh ri rj lo hi bu fa _ _ _ _ t w HP
  · have hp := hb.1 rfl
    rw [secondI_yes hp]
    obtain ⟨kd, cl, ⟨⟨ra, rb⟩, ⟨rc, rd⟩, ⟨re, rf⟩, ⟨rg, rh⟩, ⟨ri, rj⟩⟩, lo, hi, f, fa, bu⟩ := q
    obtain ⟨h1, h2, h3⟩ := hp
    simp only at h1 h2 h3
    subst h1
    have hf : f = 0 ∨ f = 1 ∨ f = 2 ∨ f = 3 := by omega
    rcases hf with rfl | rfl | rfl | rfl
    · exact second_0 cl ra rb rc rd re rf rg rh ri rj lo hi bu fa _ _ _ _ t w HP
    · exact second_1 cl ra rb rc rd re rf rg rh ri rj lo hi bu fa _ _ _ _ t w HP
    · exact second_2 cl ra rb rc rd re rf rg rh ri rj lo hi bu fa _ _ _ _ t w HP
    · exact second_3 cl ra rb rc rd re rf rg rh ri rj lo hi bu fa _ _ _ _ t w HP

end Go.Proofs.Ytndnijdpafcmoaa
