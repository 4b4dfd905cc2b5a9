/- The law QueryRuns of chapter 10 answers true: its walk through the Go text, by the contracts of package query. -/
import Derived.Test.YtndnijdpafcmoaaQueryE
import Derived.Test.YtndnijdpafcmoaaQueryS
import Derived.Test.YtndnijdpafcmoaaKThree
import Derived.Test.YtndnijdpafcmoaaSteps
namespace Go.Proofs.Ytndnijdpafcmoaa
open Go.RowKit M

/-- the queries of the runs -/
def upQ : Qy := ⟨3, 0, ⟨⟨0, 9⟩, ⟨0, 0⟩, ⟨0, 0⟩, ⟨0, 0⟩, ⟨0, 0⟩⟩, 0, 0, 0, false, 0⟩
def downQ : Qy := ⟨3, 0, ⟨⟨0, 9⟩, ⟨0, 0⟩, ⟨0, 0⟩, ⟨0, 0⟩, ⟨0, 0⟩⟩, 0, 0, 0, true, 0⟩
def inQ : Qy := ⟨1, 0, ⟨⟨0, 9⟩, ⟨0, 0⟩, ⟨0, 0⟩, ⟨0, 0⟩, ⟨0, 0⟩⟩, 0, 20, 0, false, 0⟩
def atP (x : Int) : Int → Int := fun i => if i = 0 then x else 0
theorem runs_region : spansR 1 ⟨⟨0, 9⟩, ⟨0, 0⟩, ⟨0, 0⟩, ⟨0, 0⟩, ⟨0, 0⟩⟩ := by
  have h : ∀ i : Int, 1 ≤ i → placeR 1 i ⟨0, 0⟩ := fun i hi => ⟨fun h => by omega, fun _ => ⟨rfl, rfl⟩⟩
  exact ⟨⟨fun _ => ⟨by show (0 : Int) ≤ 9; omega, by decide, by decide⟩, fun h => by omega⟩, h 1 (by omega), h 2 (by omega), h 3 (by omega), h 4 (by omega)⟩
theorem up_right (a t : Option Addr) : RightQ (runsM a t) upQ := ⟨runs_right a t, Int.le_refl 0, by show (0 : Int) < 1; omega, Int.le_refl 0, by show (0 : Int) ≤ 65536; omega, runs_region, .inr (.inr ⟨rfl, Int.le_refl 0, by show (0 : Int) < 1; omega, rfl, rfl⟩)⟩
theorem down_right (a t : Option Addr) : RightQ (runsM a t) downQ := ⟨runs_right a t, Int.le_refl 0, by show (0 : Int) < 1; omega, Int.le_refl 0, by show (0 : Int) ≤ 65536; omega, runs_region, .inr (.inr ⟨rfl, Int.le_refl 0, by show (0 : Int) < 1; omega, rfl, rfl⟩)⟩
theorem in_right (a t : Option Addr) : RightQ (runsM a t) inQ := ⟨runs_right a t, Int.le_refl 0, by show (0 : Int) < 1; omega, Int.le_refl 0, by show (0 : Int) ≤ 65536; omega, runs_region, .inl ⟨rfl, by show (0 : Int) ≤ 20; omega, rfl, rfl⟩⟩
theorem sum5 (a t : Option Addr) : (runsM a t).sum (atP 5) 0 = 13 := by
  rw [runs_sum, show atP 5 = (fun i => if i = 0 then 5 else 0) from rfl, runs_val5]; rfl
theorem sum6 (a t : Option Addr) : (runsM a t).sum (atP 6) 0 = 23 := by
  rw [runs_sum, show atP 6 = (fun i => if i = 0 then 6 else 0) from rfl, runs_val6]; rfl
theorem put5 : putP (atP 5) 0 6 = atP 6 := by
  funext i
  simp only [putP, atP]
  split <;> rfl
theorem sec_up : secondI upQ (atP 5) 6 = atP 6 := (secondI_yes ⟨rfl, Int.le_refl 0, by show (0 : Int) < 4; omega⟩).trans put5
theorem sec_down : secondI downQ (atP 5) 6 = atP 6 := (secondI_yes ⟨rfl, Int.le_refl 0, by show (0 : Int) < 4; omega⟩).trans put5
theorem up_not (a t : Option Addr) : ¬ BreaksP (runsM a t) upQ (atP 5) 6 := by
  rintro ⟨_, ⟨h, _⟩ | ⟨h, _⟩ | ⟨_, _, h⟩⟩
  · cases h
  · cases h
  · unfold turnP at h
    rw [sec_up] at h
    rw [show upQ.cl = 0 from rfl, sum5, sum6] at h
    rcases h with ⟨h, _⟩ | ⟨_, h⟩
    · cases h
    · omega
theorem down_does (a t : Option Addr) : BreaksP (runsM a t) downQ (atP 5) 6 := ⟨down_right a t, .inr (.inr ⟨rfl, by show (5 : Int) < 6; omega, .inl ⟨rfl, by rw [sec_down, show downQ.cl = 0 from rfl, sum5, sum6]; omega⟩⟩)⟩
theorem in_does (a t : Option Addr) : BreaksP (runsM a t) inQ (atP 6) 0 := ⟨in_right a t, .inl ⟨rfl, by rw [show inQ.cl = 0 from rfl, sum6, show inQ.hi = 20 from rfl]; omega⟩⟩
theorem start_up : startI upQ = ⟨⟨0, 9⟩, ⟨0, 0⟩, ⟨0, 0⟩, ⟨0, 0⟩, ⟨0, 9⟩⟩ := by
  simp only [startI, if_pos (show pairP upQ from ⟨rfl, Int.le_refl 0, by show (0 : Int) < 4; omega⟩)]
  rfl

set_option maxRecDepth 100000 in
set_option maxHeartbeats 3200000 in
theorem queryRuns_walk (w : World) : Calls Try.prog 12 #[] w fun e w' => e = .returned (.bool true) ∧ Jk w w' := by
  have J := rules8
  have H3 := hid (kthree_any w)
  go_enter Try.func12, Try.ntmps12
  go_upto_region 3 with (first | (go_at_call 26; refine H3.out.mono ?_; rintro e w1 ⟨a, t, rfl, hok, hj1⟩; have HOk := hid hok; have HJ1 := hid hj1; clear hok hj1; have HT : Hid (runsM a t = ⟨1, 1, 3, 0, 0, a, 1, 1, [⟨0, t, 3, 3, threeW 5 10 20⟩]⟩) := rfl; rw [HT.out]))
  have HM2 : Hid (MdB ((w1.alloc (.cells #[.int .i64 1, .int .i64 1, .int .i64 3, .int .i64 0, .int .i64 0, .slice a 1 1] 33)).alloc (.cells #[.int .i64 3, .int .i64 0, .int .i64 0, .int .i64 9, .int .i64 0, .int .i64 0, .int .i64 0, .int .i64 0, .int .i64 0, .int .i64 0, .int .i64 0, .int .i64 0, .int .i64 0, .int .i64 0, .int .i64 0, .bool false, .int .i64 0] 40)) w1.heap.size (runsM a t)) := (MdB.laid w1 (runsM a t)).jk ((Jk.refl _).alloc _)
  have HU2 : Hid (QyB ((w1.alloc (.cells #[.int .i64 1, .int .i64 1, .int .i64 3, .int .i64 0, .int .i64 0, .slice a 1 1] 33)).alloc (.cells #[.int .i64 3, .int .i64 0, .int .i64 0, .int .i64 9, .int .i64 0, .int .i64 0, .int .i64 0, .int .i64 0, .int .i64 0, .int .i64 0, .int .i64 0, .int .i64 0, .int .i64 0, .int .i64 0, .int .i64 0, .bool false, .int .i64 0] 40)) (w1.heap.size + 1) upQ) := by
    have := QyB.laid (w1.alloc (.cells #[.int .i64 1, .int .i64 1, .int .i64 3, .int .i64 0, .int .i64 0, .slice a 1 1] 33)) upQ
    rw [World.size_alloc] at this
    exact this
  have HJ2 : Hid (Jk w1 ((w1.alloc (.cells #[.int .i64 1, .int .i64 1, .int .i64 3, .int .i64 0, .int .i64 0, .slice a 1 1] 33)).alloc (.cells #[.int .i64 3, .int .i64 0, .int .i64 0, .int .i64 9, .int .i64 0, .int .i64 0, .int .i64 0, .int .i64 0, .int .i64 0, .int .i64 0, .int .i64 0, .int .i64 0, .int .i64 0, .int .i64 0, .int .i64 0, .bool false, .int .i64 0] 40))) := ((Jk.refl w1).alloc _).alloc _
  have HS2 : Hid (((w1.alloc (.cells #[.int .i64 1, .int .i64 1, .int .i64 3, .int .i64 0, .int .i64 0, .slice a 1 1] 33)).alloc (.cells #[.int .i64 3, .int .i64 0, .int .i64 0, .int .i64 9, .int .i64 0, .int .i64 0, .int .i64 0, .int .i64 0, .int .i64 0, .int .i64 0, .int .i64 0, .int .i64 0, .int .i64 0, .int .i64 0, .int .i64 0, .bool false, .int .i64 0] 40)).heap.size = w1.heap.size + 2) := by
    show _ = _
    simp
  generalize hw2 : (w1.alloc (.cells #[.int .i64 1, .int .i64 1, .int .i64 3, .int .i64 0, .int .i64 0, .slice a 1 1] 33)).alloc (.cells #[.int .i64 3, .int .i64 0, .int .i64 0, .int .i64 9, .int .i64 0, .int .i64 0, .int .i64 0, .int .i64 0, .int .i64 0, .int .i64 0, .int .i64 0, .int .i64 0, .int .i64 0, .int .i64 0, .int .i64 0, .bool false, .int .i64 0] 40) = w2 at HM2 HU2 HJ2 HS2 ⊢
  clear hw2
  refine wp_region_lit ?_
  refine list_loadQ (q := ⟨3, 0, ⟨⟨0, 9⟩, ⟨0, 0⟩, ⟨0, 0⟩, ⟨0, 0⟩, ⟨0, 0⟩⟩, 0, 0, 0, false, 0⟩) rfl _ rfl HU2.out rfl ?_
  go_upto_region 6 with fail
  have HJ5 : Hid (Jk w2 ((w2.alloc (.cells #[.int .i64 3, .int .i64 0, .int .i64 0, .int .i64 9, .int .i64 0, .int .i64 0, .int .i64 0, .int .i64 0, .int .i64 0, .int .i64 0, .int .i64 0, .int .i64 0, .int .i64 0, .int .i64 0, .int .i64 0, .bool true, .int .i64 0] 40)).alloc (.cells #[.int .i64 1, .int .i64 0, .int .i64 0, .int .i64 9, .int .i64 0, .int .i64 0, .int .i64 0, .int .i64 0, .int .i64 0, .int .i64 0, .int .i64 0, .int .i64 0, .int .i64 0, .int .i64 20, .int .i64 0, .bool false, .int .i64 0] 40))) := ((Jk.refl w2).alloc _).alloc _
  have HD5 : Hid (QyB ((w2.alloc (.cells #[.int .i64 3, .int .i64 0, .int .i64 0, .int .i64 9, .int .i64 0, .int .i64 0, .int .i64 0, .int .i64 0, .int .i64 0, .int .i64 0, .int .i64 0, .int .i64 0, .int .i64 0, .int .i64 0, .int .i64 0, .bool true, .int .i64 0] 40)).alloc (.cells #[.int .i64 1, .int .i64 0, .int .i64 0, .int .i64 9, .int .i64 0, .int .i64 0, .int .i64 0, .int .i64 0, .int .i64 0, .int .i64 0, .int .i64 0, .int .i64 0, .int .i64 0, .int .i64 20, .int .i64 0, .bool false, .int .i64 0] 40)) w2.heap.size downQ) := (QyB.laid w2 downQ).jk ((Jk.refl _).alloc _)
  have HI5 : Hid (QyB ((w2.alloc (.cells #[.int .i64 3, .int .i64 0, .int .i64 0, .int .i64 9, .int .i64 0, .int .i64 0, .int .i64 0, .int .i64 0, .int .i64 0, .int .i64 0, .int .i64 0, .int .i64 0, .int .i64 0, .int .i64 0, .int .i64 0, .bool true, .int .i64 0] 40)).alloc (.cells #[.int .i64 1, .int .i64 0, .int .i64 0, .int .i64 9, .int .i64 0, .int .i64 0, .int .i64 0, .int .i64 0, .int .i64 0, .int .i64 0, .int .i64 0, .int .i64 0, .int .i64 0, .int .i64 20, .int .i64 0, .bool false, .int .i64 0] 40)) (w2.heap.size + 1) inQ) := by
    have := QyB.laid (w2.alloc (.cells #[.int .i64 3, .int .i64 0, .int .i64 0, .int .i64 9, .int .i64 0, .int .i64 0, .int .i64 0, .int .i64 0, .int .i64 0, .int .i64 0, .int .i64 0, .int .i64 0, .int .i64 0, .int .i64 0, .int .i64 0, .bool true, .int .i64 0] 40)) inQ
    rw [World.size_alloc] at this
    exact this
  generalize hw5 : (w2.alloc (.cells #[.int .i64 3, .int .i64 0, .int .i64 0, .int .i64 9, .int .i64 0, .int .i64 0, .int .i64 0, .int .i64 0, .int .i64 0, .int .i64 0, .int .i64 0, .int .i64 0, .int .i64 0, .int .i64 0, .int .i64 0, .bool true, .int .i64 0] 40)).alloc (.cells #[.int .i64 1, .int .i64 0, .int .i64 0, .int .i64 9, .int .i64 0, .int .i64 0, .int .i64 0, .int .i64 0, .int .i64 0, .int .i64 0, .int .i64 0, .int .i64 0, .int .i64 0, .int .i64 20, .int .i64 0, .bool false, .int .i64 0] 40) = w5 at HJ5 HD5 HI5 ⊢
  clear hw5
  have hok5 : (runsM a t).ok w5 := HOk.out.jk (HJ2.out.trans HJ5.out)
  have HRt := hid (qright_ans (b := true) hok5 (iff_of_true rfl (up_right a t)))
  have HB1 := hid (breaks_ans (b := false) (atP 5) 6 hok5 (iff_of_false Bool.false_ne_true (up_not a t)))
  have HB2 := hid (breaks_ans (b := true) (atP 5) 6 hok5 (iff_of_true rfl (down_does a t)))
  have HB3 := hid (breaks_ans (b := true) (atP 6) 0 hok5 (iff_of_true rfl (in_does a t)))
  have HSt := hid (start_ans upQ)
  rw [start_up] at HSt
  have heq : ∀ w : World, (Op.equalIn 10000 38 (.agg #[.int .i64 0, .int .i64 9, .int .i64 0, .int .i64 0, .int .i64 0, .int .i64 0, .int .i64 0, .int .i64 0, .int .i64 0, .int .i64 9]) (.agg #[.int .i64 0, .int .i64 9, .int .i64 0, .int .i64 0, .int .i64 0, .int .i64 0, .int .i64 0, .int .i64 0, .int .i64 0, .int .i64 9])).run Try.prog w = .ok true w := fun w => (eq_box ⟨⟨0, 9⟩, ⟨0, 0⟩, ⟨0, 0⟩, ⟨0, 0⟩, ⟨0, 9⟩⟩ ⟨⟨0, 9⟩, ⟨0, 0⟩, ⟨0, 0⟩, ⟨0, 0⟩, ⟨0, 9⟩⟩ w).trans (by rw [Bx.eqB_self])
  simp only [runsM, modelV, upQ, downQ, inQ, queryV, pointV, atP, Int.reduceEq, reduceIte] at HRt HB1 HB2 HB3 HSt
  have HJc := hid (Jk.refl w5)
  clear hok5
  have HM5 : Hid (MdB w5 w1.heap.size ⟨1, 1, 3, 0, 0, a, 1, 1, [⟨0, t, 3, 3, threeW 5 10 20⟩]⟩) := HM2.out.jk HJ5.out
  have HU5 : Hid (QyB w5 (w1.heap.size + 1) ⟨3, 0, ⟨⟨0, 9⟩, ⟨0, 0⟩, ⟨0, 0⟩, ⟨0, 0⟩, ⟨0, 0⟩⟩, 0, 0, 0, false, 0⟩) := HU2.out.jk HJ5.out
  have HD6 : Hid (QyB w5 w2.heap.size ⟨3, 0, ⟨⟨0, 9⟩, ⟨0, 0⟩, ⟨0, 0⟩, ⟨0, 0⟩, ⟨0, 0⟩⟩, 0, 0, 0, true, 0⟩) := HD5
  have HI6 : Hid (QyB w5 (w2.heap.size + 1) ⟨1, 0, ⟨⟨0, 9⟩, ⟨0, 0⟩, ⟨0, 0⟩, ⟨0, 0⟩, ⟨0, 0⟩⟩, 0, 20, 0, false, 0⟩) := HI5
  refine wp_region_lit ?_
  refine listw_loadM rfl _ rfl (HM5.out.jk HJc.out) rfl ?_
  simp only [Act.put, List.setIfInBounds_toArray, List.set_cons_succ, List.set_cons_zero]
  refine listw_loadQ rfl _ rfl (HU5.out.jk HJc.out) rfl ?_
  simp only [Act.put, List.setIfInBounds_toArray, List.set_cons_succ, List.set_cons_zero]
  refine wpList_one rfl fun K hK => ?_
  go_simp
  go_at_call 6
  refine (HRt.out.on _ HJc.out).mono ?_
  rintro e z0 ⟨rfl, hj⟩
  have HJn := hid (HJc.out.trans hj)
  clear hj HJc
  have HJc := HJn
  clear HJn
  go_simp
  refine hK _ _ ?_
  clear hK K
  refine wpList_one rfl fun K hK => ?_
  go_simp
  refine hK _ _ ?_
  clear hK K
  refine listw_loadM rfl _ rfl (HM5.out.jk HJc.out) rfl ?_
  simp only [Act.put, List.setIfInBounds_toArray, List.set_cons_succ, List.set_cons_zero]
  refine listw_loadQ rfl _ rfl (HU5.out.jk HJc.out) rfl ?_
  simp only [Act.put, List.setIfInBounds_toArray, List.set_cons_succ, List.set_cons_zero]
  refine wpList_one rfl fun K hK => ?_
  go_simp
  refine hK _ _ ?_
  clear hK K
  refine wpList_one rfl fun K hK => ?_
  go_simp
  go_at_call 9
  refine (HB1.out.on _ HJc.out).mono ?_
  rintro e z1 ⟨rfl, hj⟩
  have HJn := hid (HJc.out.trans hj)
  clear hj HJc
  have HJc := HJn
  clear HJn
  go_simp
  refine hK _ _ ?_
  clear hK K
  refine wpList_one rfl fun K hK => ?_
  go_simp
  refine hK _ _ ?_
  clear hK K
  refine wpList_one rfl fun K hK => ?_
  go_simp
  refine hK _ _ ?_
  clear hK K
  refine wpList_one rfl fun K hK => ?_
  go_simp
  refine hK _ _ ?_
  clear hK K
  refine listw_loadM rfl _ rfl (HM5.out.jk HJc.out) rfl ?_
  simp only [Act.put, List.setIfInBounds_toArray, List.set_cons_succ, List.set_cons_zero]
  refine listw_loadQ rfl _ rfl (HD6.out.jk HJc.out) rfl ?_
  simp only [Act.put, List.setIfInBounds_toArray, List.set_cons_succ, List.set_cons_zero]
  refine wpList_one rfl fun K hK => ?_
  go_simp
  refine hK _ _ ?_
  clear hK K
  refine wpList_one rfl fun K hK => ?_
  go_simp
  go_at_call 9
  refine (HB2.out.on _ HJc.out).mono ?_
  rintro e z2 ⟨rfl, hj⟩
  have HJn := hid (HJc.out.trans hj)
  clear hj HJc
  have HJc := HJn
  clear HJn
  go_simp
  refine hK _ _ ?_
  clear hK K
  refine wpList_one rfl fun K hK => ?_
  go_simp
  refine hK _ _ ?_
  clear hK K
  refine wpList_one rfl fun K hK => ?_
  go_simp
  refine hK _ _ ?_
  clear hK K
  refine listw_loadM rfl _ rfl (HM5.out.jk HJc.out) rfl ?_
  simp only [Act.put, List.setIfInBounds_toArray, List.set_cons_succ, List.set_cons_zero]
  refine listw_loadQ rfl _ rfl (HI6.out.jk HJc.out) rfl ?_
  simp only [Act.put, List.setIfInBounds_toArray, List.set_cons_succ, List.set_cons_zero]
  refine wpList_one rfl fun K hK => ?_
  go_simp
  refine hK _ _ ?_
  clear hK K
  refine wpList_one rfl fun K hK => ?_
  go_simp
  go_at_call 9
  refine (HB3.out.on _ HJc.out).mono ?_
  rintro e z3 ⟨rfl, hj⟩
  have HJn := hid (HJc.out.trans hj)
  clear hj HJc
  have HJc := HJn
  clear HJn
  go_simp
  refine hK _ _ ?_
  clear hK K
  refine wpList_one rfl fun K hK => ?_
  go_simp
  refine hK _ _ ?_
  clear hK K
  refine wpList_one rfl fun K hK => ?_
  go_simp
  refine hK _ _ ?_
  clear hK K
  refine listw_loadQ rfl _ rfl (HU5.out.jk HJc.out) rfl ?_
  simp only [Act.put, List.setIfInBounds_toArray, List.set_cons_succ, List.set_cons_zero]
  refine wpList_one rfl fun K hK => ?_
  go_simp
  go_at_call 27
  refine (HSt.out.on _).mono ?_
  rintro e z4 ⟨rfl, hj⟩
  have HJn := hid (HJc.out.trans hj)
  clear hj HJc
  have HJc := HJn
  clear HJn
  go_simp
  refine hK _ _ ?_
  clear hK K
  refine wpList_one rfl fun K hK => ?_
  go_simp
  refine hK _ _ ?_
  clear hK K
  refine wpList_one rfl fun K hK => ?_
  go_simp
  refine hK _ _ ?_
  clear hK K
  refine wpList_one rfl fun K hK => ?_
  go_simp
  refine hK _ _ ?_
  clear hK K
  refine wpList_one rfl fun K hK => ?_
  go_simp
  refine hK _ _ ?_
  clear hK K
  refine wpList_one rfl fun K hK => ?_
  go_simp
  refine hK _ _ ?_
  clear hK K
  refine wpList_one rfl fun K hK => ?_
  go_simp
  refine hK _ _ ?_
  clear hK K
  refine wpList_one rfl fun K hK => ?_
  go_simp
  refine hK _ _ ?_
  clear hK K
  refine wpList_one rfl fun K hK => ?_
  go_simp
  refine hK _ _ ?_
  clear hK K
  refine wpList_one rfl fun K hK => ?_
  go_simp
  refine hK _ _ ?_
  clear hK K
  go_wp2
  go_ret
  exact ⟨rfl, ((HJ1.out.trans HJ2.out).trans HJ5.out).trans HJc.out⟩

end Go.Proofs.Ytndnijdpafcmoaa
