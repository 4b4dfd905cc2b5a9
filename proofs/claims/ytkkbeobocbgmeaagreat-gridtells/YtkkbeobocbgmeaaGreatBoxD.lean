/- What Cut of package box answers at place 1, for every box and every int (the runs of chapter 5 need no other).
   What Cut of package box answers, for every box, every place and every int. -/
import Derived.Test.YtkkbeobocbgmeaaGreatBoxAns
import Derived.BigRegion
namespace Go.Proofs.YtkkbeobocbgmeaaGreat
open Go.RowKit M

set_option maxRecDepth 100000 in
set_option maxHeartbeats 1600000 in
theorem cut_1 (x : Bx) (t : Int) (w : World) (a1 : -9223372036854775808 ≤ x.b.lo) (b2 : x.b.hi ≤ 9223372036854775807) (t1 : -9223372036854775808 ≤ t) (t2 : t ≤ 9223372036854775807) : Calls Tryz.prog 34 #[boxV x, .int .i64 1, .int .i64 t] w fun e w' => e = .returned (.tuple #[boxV { x with b := x.b.low t }, boxV { x with b := x.b.upp t }]) ∧ Jk w w' := by
  have C : Hid (∀ w : World, Calls Tryz.prog 49 #[spanV x.b.lo x.b.hi, .int .i64 t] w fun e w' => e = .returned (.tuple #[spanV (x.b.low t).lo (x.b.low t).hi, spanV (x.b.upp t).lo (x.b.upp t).hi]) ∧ Jk w w') := fun w => cut_any _ _ _ w a1 b2 t1 t2
  clear a1 b2 t1 t2
  generalize x.b.low t = l at C
  generalize x.b.upp t = u at C
  have J := rules8
  go_enter Tryz.func34, Tryz.ntmps34
  go_wp2_with fail
  go_region
  all_goals
    go_wp2_with (first | (go_at_call 49; refine (C.out _).mono ?_; rintro e w1 ⟨rfl, X1, rfl⟩))
    go_region
    all_goals
      go_wp2
      refine bodyPost_ret (v := .tuple #[boxV { x with b := l }, boxV { x with b := u }]) (by simp [results, Tryz.results34, go_sem, J]) rfl ⟨rfl, ?_⟩
      repeat (with_reducible first | exact Jk.refl _ | apply Jk.junk | apply Jk.alloc | apply Jk.drew)

end Go.Proofs.YtkkbeobocbgmeaaGreat

namespace Go.Proofs.YtkkbeobocbgmeaaGreat
open Go.RowKit M

set_option maxRecDepth 100000 in
set_option maxHeartbeats 1600000 in
theorem cut_no (x : Bx) (k t : Int) (w : World) (h : k < 0 ∨ 5 ≤ k) : Calls Tryz.prog 34 #[boxV x, .int .i64 k, .int .i64 t] w fun e w' => e = .returned (.tuple #[boxV x, boxV x]) ∧ Jk w w' := by
  rcases h with h | h
  all_goals
    go_enter Tryz.func34, Tryz.ntmps34
    go_wp2_with fail
    go_region
    all_goals
      go_wp2
      refine bodyPost_ret (v := .tuple #[boxV x, boxV x]) (by simp [results, Tryz.results34, go_sem]) rfl ⟨rfl, ?_⟩
      repeat (with_reducible first | exact Jk.refl _ | apply Jk.junk | apply Jk.alloc | apply Jk.drew)

set_option maxRecDepth 100000 in
set_option maxHeartbeats 1600000 in
theorem cut_0 (x : Bx) (t : Int) (w : World) (a1 : -9223372036854775808 ≤ x.a.lo) (b2 : x.a.hi ≤ 9223372036854775807) (t1 : -9223372036854775808 ≤ t) (t2 : t ≤ 9223372036854775807) : Calls Tryz.prog 34 #[boxV x, .int .i64 0, .int .i64 t] w fun e w' => e = .returned (.tuple #[boxV { x with a := x.a.low t }, boxV { x with a := x.a.upp t }]) ∧ Jk w w' := by
  have C : Hid (∀ w : World, Calls Tryz.prog 49 #[spanV x.a.lo x.a.hi, .int .i64 t] w fun e w' => e = .returned (.tuple #[spanV (x.a.low t).lo (x.a.low t).hi, spanV (x.a.upp t).lo (x.a.upp t).hi]) ∧ Jk w w') := fun w => cut_any _ _ _ w a1 b2 t1 t2
  clear a1 b2 t1 t2
  generalize x.a.low t = l at C
  generalize x.a.upp t = u at C
  have J := rules8
  go_enter Tryz.func34, Tryz.ntmps34
  go_wp2_with fail
  go_region
  all_goals
    go_wp2_with (first | (go_at_call 49; refine (C.out _).mono ?_; rintro e w1 ⟨rfl, X1, rfl⟩))
    go_region
    all_goals
      go_wp2
      refine bodyPost_ret (v := .tuple #[boxV { x with a := l }, boxV { x with a := u }]) (by simp [results, Tryz.results34, go_sem, J]) rfl ⟨rfl, ?_⟩
      repeat (with_reducible first | exact Jk.refl _ | apply Jk.junk | apply Jk.alloc | apply Jk.drew)

set_option maxRecDepth 100000 in
set_option maxHeartbeats 1600000 in
theorem cut_2 (x : Bx) (t : Int) (w : World) (a1 : -9223372036854775808 ≤ x.c.lo) (b2 : x.c.hi ≤ 9223372036854775807) (t1 : -9223372036854775808 ≤ t) (t2 : t ≤ 9223372036854775807) : Calls Tryz.prog 34 #[boxV x, .int .i64 2, .int .i64 t] w fun e w' => e = .returned (.tuple #[boxV { x with c := x.c.low t }, boxV { x with c := x.c.upp t }]) ∧ Jk w w' := by
  have C : Hid (∀ w : World, Calls Tryz.prog 49 #[spanV x.c.lo x.c.hi, .int .i64 t] w fun e w' => e = .returned (.tuple #[spanV (x.c.low t).lo (x.c.low t).hi, spanV (x.c.upp t).lo (x.c.upp t).hi]) ∧ Jk w w') := fun w => cut_any _ _ _ w a1 b2 t1 t2
  clear a1 b2 t1 t2
  generalize x.c.low t = l at C
  generalize x.c.upp t = u at C
  have J := rules8
  go_enter Tryz.func34, Tryz.ntmps34
  go_wp2_with fail
  go_region
  all_goals
    go_wp2_with (first | (go_at_call 49; refine (C.out _).mono ?_; rintro e w1 ⟨rfl, X1, rfl⟩))
    go_region
    all_goals
      go_wp2
      refine bodyPost_ret (v := .tuple #[boxV { x with c := l }, boxV { x with c := u }]) (by simp [results, Tryz.results34, go_sem, J]) rfl ⟨rfl, ?_⟩
      repeat (with_reducible first | exact Jk.refl _ | apply Jk.junk | apply Jk.alloc | apply Jk.drew)

set_option maxRecDepth 100000 in
set_option maxHeartbeats 1600000 in
theorem cut_3 (x : Bx) (t : Int) (w : World) (a1 : -9223372036854775808 ≤ x.d.lo) (b2 : x.d.hi ≤ 9223372036854775807) (t1 : -9223372036854775808 ≤ t) (t2 : t ≤ 9223372036854775807) : Calls Tryz.prog 34 #[boxV x, .int .i64 3, .int .i64 t] w fun e w' => e = .returned (.tuple #[boxV { x with d := x.d.low t }, boxV { x with d := x.d.upp t }]) ∧ Jk w w' := by
  have C : Hid (∀ w : World, Calls Tryz.prog 49 #[spanV x.d.lo x.d.hi, .int .i64 t] w fun e w' => e = .returned (.tuple #[spanV (x.d.low t).lo (x.d.low t).hi, spanV (x.d.upp t).lo (x.d.upp t).hi]) ∧ Jk w w') := fun w => cut_any _ _ _ w a1 b2 t1 t2
  clear a1 b2 t1 t2
  generalize x.d.low t = l at C
  generalize x.d.upp t = u at C
  have J := rules8
  go_enter Tryz.func34, Tryz.ntmps34
  go_wp2_with fail
  go_region
  all_goals
    go_wp2_with (first | (go_at_call 49; refine (C.out _).mono ?_; rintro e w1 ⟨rfl, X1, rfl⟩))
    go_region
    all_goals
      go_wp2
      refine bodyPost_ret (v := .tuple #[boxV { x with d := l }, boxV { x with d := u }]) (by simp [results, Tryz.results34, go_sem, J]) rfl ⟨rfl, ?_⟩
      repeat (with_reducible first | exact Jk.refl _ | apply Jk.junk | apply Jk.alloc | apply Jk.drew)

set_option maxRecDepth 100000 in
set_option maxHeartbeats 1600000 in
theorem cut_4 (x : Bx) (t : Int) (w : World) (a1 : -9223372036854775808 ≤ x.e.lo) (b2 : x.e.hi ≤ 9223372036854775807) (t1 : -9223372036854775808 ≤ t) (t2 : t ≤ 9223372036854775807) : Calls Tryz.prog 34 #[boxV x, .int .i64 4, .int .i64 t] w fun e w' => e = .returned (.tuple #[boxV { x with e := x.e.low t }, boxV { x with e := x.e.upp t }]) ∧ Jk w w' := by
  have C : Hid (∀ w : World, Calls Tryz.prog 49 #[spanV x.e.lo x.e.hi, .int .i64 t] w fun e w' => e = .returned (.tuple #[spanV (x.e.low t).lo (x.e.low t).hi, spanV (x.e.upp t).lo (x.e.upp t).hi]) ∧ Jk w w') := fun w => cut_any _ _ _ w a1 b2 t1 t2
  clear a1 b2 t1 t2
  generalize x.e.low t = l at C
  generalize x.e.upp t = u at C
  have J := rules8
  go_enter Tryz.func34, Tryz.ntmps34
  go_wp2_with fail
  go_region
  all_goals
    go_wp2_with (first | (go_at_call 49; refine (C.out _).mono ?_; rintro e w1 ⟨rfl, X1, rfl⟩))
    go_region
    all_goals
      go_wp2
      refine bodyPost_ret (v := .tuple #[boxV { x with e := l }, boxV { x with e := u }]) (by simp [results, Tryz.results34, go_sem, J]) rfl ⟨rfl, ?_⟩
      repeat (with_reducible first | exact Jk.refl _ | apply Jk.junk | apply Jk.alloc | apply Jk.drew)

/-- a cut at whatever place -/
theorem bcut_any (x : Bx) (k t : Int) (w : World) (hx : x.ok) (t1 : -9223372036854775808 ≤ t) (t2 : t ≤ 9223372036854775807) :
    Calls Tryz.prog 34 #[boxV x, .int .i64 k, .int .i64 t] w fun e w' => e = .returned (.tuple #[boxV (x.low k t), boxV (x.upp k t)]) ∧ Jk w w' := by
  obtain ⟨⟨⟨a1, a2⟩, a3, a4⟩, ⟨⟨b1, b2⟩, b3, b4⟩, ⟨⟨c1, c2⟩, c3, c4⟩, ⟨⟨d1, d2⟩, d3, d4⟩, ⟨⟨e1, e2⟩, e3, e4⟩⟩ := hx
  by_cases h : k < 0 ∨ 5 ≤ k
  · have e1 : x.low k t = x := by unfold Bx.low Bx.put; repeat rw [if_neg (by omega)]
    have e2 : x.upp k t = x := by unfold Bx.upp Bx.put; repeat rw [if_neg (by omega)]
    rw [e1, e2]
    exact cut_no x k t w h
  · have hc : k = 0 ∨ k = 1 ∨ k = 2 ∨ k = 3 ∨ k = 4 := by omega
    rcases hc with rfl | rfl | rfl | rfl | rfl
    · exact cut_0 x t w a1 a4 t1 t2
    · exact cut_1 x t w b1 b4 t1 t2
    · exact cut_2 x t w c1 c4 t1 t2
    · exact cut_3 x t w d1 d4 t1 t2
    · exact cut_4 x t w e1 e4 t1 t2

end Go.Proofs.YtkkbeobocbgmeaaGreat
