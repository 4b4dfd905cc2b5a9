/- The law TextRuns of chapter 9 (its runs) answers true; nothing that was there is written. Conditions: what the statement itself says of the library's variables ('Env'). -/
import Derived.Test.YtfabodbcdnmpmaaGreatDoorTextX
import Derived.Test.YtfabodbcdnmpmaaGreatDoorTextL
import Derived.Test.YtfabodbcdnmpmaaGreatDoorSameM
import Derived.Test.YtfabodbcdnmpmaaGreatDoorMathR
namespace Go.Proofs.YtfabodbcdnmpmaaGreatDoor
open Go.RowKit M

theorem fit_n (n : Nat) (h : n ≤ 1000) : FitI (n : Int) := ⟨by omega, by omega⟩
set_option maxRecDepth 100000 in
set_option maxHeartbeats 3200000 in
theorem runs_ans {wb : World} (hL : LibP wb) : AnsW wb 10 #[] (.bool true) := fun w hw => by
  have J := rules8
  have H1 := hid (rpack_ans ⟨false, 0, 0, 5, 1, 2⟩)
  have H2 := hid (rpack_ans (ndLeaf 10))
  have H3 := hid (rpack_ans (ndLeaf 20))
  have HB : Hid (∀ i, i < 3 → 0 ≤ wd (threeW 5 10 20) i ∧ wd (threeW 5 10 20) i ≤ 18446744073709551615) := fun i hi => by
    have : i = 0 ∨ i = 1 ∨ i = 2 := by omega
    rcases this with rfl | rfl | rfl
    · exact Nd.pack_bd ⟨false, 0, 0, 5, 1, 2⟩
    · exact Nd.pack_bd (ndLeaf 10)
    · exact Nd.pack_bd (ndLeaf 20)
  have HRun : Hid (∃ ws, threeW 5 10 20 = ws ∧ runP = ⟨1, 1, 3, 0, 0, [⟨0, ws⟩]⟩) := ⟨_, rfl, rfl⟩
  obtain ⟨ws, hws, hrun⟩ := HRun.out
  have HP0 := hid hrun
  have HE : Hid ([Nd.pack ⟨false, 0, 0, 5, 1, 2⟩, Nd.pack (ndLeaf 10), Nd.pack (ndLeaf 20)] = ws) := hws
  rw [hws] at HB
  obtain ⟨x, hx⟩ : ∃ x, Nd.pack ⟨false, 0, 0, 5, 1, 2⟩ = x := ⟨_, rfl⟩
  obtain ⟨y, hy⟩ : ∃ x, Nd.pack (ndLeaf 10) = x := ⟨_, rfl⟩
  obtain ⟨z, hz⟩ : ∃ x, Nd.pack (ndLeaf 20) = x := ⟨_, rfl⟩
  rw [hx] at H1 HE
  rw [hy] at H2 HE
  rw [hz] at H3 HE
  simp only [nodeV] at H1 H2 H3
  have HL := hid hL
  have HW := hid hw
  clear hx hy hz hws HRun hrun hL hw
  go_enter Tryz.func10, Tryz.ntmps10
  go_upto_region 2 with (first | (go_at_call 18; refine (Ans.on (by with_reducible first | exact H1.out | exact H2.out | exact H3.out) _).mono ?_; rintro e w1 ⟨rfl, X1, rfl⟩))
  rename_i X1' X1'' _ _
  have hb : w.heap.size + Jn X1' + Jn X1'' + Jn X1 = (junk (junk (junk w X1') X1'') X1).heap.size := by simp only [junk_size]
  have HIs : Hid (IsW ((junk (junk (junk w X1') X1'') X1).alloc (.cells #[.int .u64 x, .int .u64 y, .int .u64 z] 55)) (some ⟨w.heap.size + Jn X1' + Jn X1'' + Jn X1, 0, none⟩) 3 3 ws) := by
    refine ⟨by rw [← HE.out]; rfl, by omega, by unfold maxLen; omega, HB.out, fun _ => ⟨_, 0, rfl, ?_, fun j hj => ?_⟩⟩
    · rw [World.size_alloc, ← hb]; omega
    · rw [← HE.out] at hj ⊢
      simp at hj
      have : j = 0 ∨ j = 1 ∨ j = 2 := by omega
      rcases this with rfl | rfl | rfl
      · exact new_cells _ #[.int .u64 x, .int .u64 y, .int .u64 z] _ _ hb 0 _ rfl
      · exact new_cells _ #[.int .u64 x, .int .u64 y, .int .u64 z] _ _ hb 1 _ rfl
      · exact new_cells _ #[.int .u64 x, .int .u64 y, .int .u64 z] _ _ hb 2 _ rfl
  have HJA : Hid (Jk w ((junk (junk (junk w X1') X1'') X1).alloc (.cells #[.int .u64 x, .int .u64 y, .int .u64 z] 55))) := ((((Jk.refl w).junk X1').junk X1'').junk X1).alloc _
  generalize (junk (junk (junk w X1') X1'') X1).alloc (.cells #[.int .u64 x, .int .u64 y, .int .u64 z] 55) = wA at HIs HJA ⊢
  generalize w.heap.size + Jn X1' + Jn X1'' + Jn X1 = hA at HIs ⊢
  clear hb HE HB H1 H2 H3
  go_upto_region 3 with fail
  obtain ⟨w1, hw1⟩ : ∃ w1, (wA.alloc (.cells #[.int .i64 0, .slice (some ⟨hA, 0, none⟩) 3 3] 44)).alloc (.cells #[.int .i64 1, .int .i64 1, .int .i64 3, .int .i64 0, .int .i64 0, .slice (some ⟨wA.heap.size, 0, none⟩) 1 1] 25) = w1 := ⟨_, rfl⟩
  have HJ1 : Hid (Jk wA w1) := hw1 ▸ ((Jk.refl wA).alloc _).alloc _
  have HOk : Hid (Md.ok w1 ⟨1, 1, 3, 0, 0, some ⟨wA.heap.size, 0, none⟩, 1, 1, [⟨0, some ⟨hA, 0, none⟩, 3, 3, ws⟩]⟩) := by
    refine ⟨fit_n 1 (by decide), fit_n 1 (by decide), fit_n 3 (by decide), fit_0, fit_0, ⟨rfl, Nat.le_refl _, by unfold maxLen; simp, fun i hi => ?_, fun _ => ⟨wA.heap.size, 0, rfl, ?_, ?_⟩⟩⟩
    · obtain rfl : i = 0 := by simp at hi; exact hi
      exact ⟨fit_0, HIs.out.jk HJ1.out⟩
    · rw [← hw1, World.size_alloc, World.size_alloc]; omega
    · rw [← hw1]
      exact AtT.jk (new_tree wA 0 (some ⟨hA, 0, none⟩) 3 3 ws rfl) ((Jk.refl _).alloc _) (by simp)
  have HM1 : Hid (MdB w1 (wA.heap.size + 1) ⟨1, 1, 3, 0, 0, some ⟨wA.heap.size, 0, none⟩, 1, 1, [⟨0, some ⟨hA, 0, none⟩, 3, 3, ws⟩]⟩) := by
    rw [← hw1]
    have := MdB.laid (wA.alloc (.cells #[.int .i64 0, .slice (some ⟨hA, 0, none⟩) 3 3] 44)) ⟨1, 1, 3, 0, 0, some ⟨wA.heap.size, 0, none⟩, 1, 1, [⟨0, some ⟨hA, 0, none⟩, 3, 3, ws⟩]⟩
    rwa [World.size_alloc] at this
  have HJw : Hid (Jk w w1) := HJA.out.trans HJ1.out
  have HL1 := hid (HL.out.at (HW.out.trans HJw.out))
  have HPs := hid (parse_m HL1.out runS (by decide) (Jk.refl w1))
  have HPr := hid (print_m HL1.out HOk.out)
  have e1 : printM (Md.pm ⟨1, 1, 3, 0, 0, some ⟨wA.heap.size, 0, none⟩, 1, 1, [⟨0, some ⟨hA, 0, none⟩, 3, 3, ws⟩]⟩) = runS := by
    rw [show Md.pm ⟨1, 1, 3, 0, 0, some ⟨wA.heap.size, 0, none⟩, 1, 1, [⟨0, some ⟨hA, 0, none⟩, 3, 3, ws⟩]⟩ = runP from HP0.out.symm, printM_yes run_right, run_text]
  rw [e1] at HPr
  have HPP : Hid (∀ (P : Pm) (ok : Bool), ParseP runS P ok → P = runP ∧ ok = true) := fun P ok h => h.same (run_text ▸ ParseP.yes run_right)
  simp only [hw1]
  clear hw1 HIs HJA HJ1 HL HW e1
  go_cut [3] (fun v wc => v = tx runS ∧ wc = w1)
  case first =>
    go_wp2
    go_meet
    case rel => exact ⟨rfl, rfl⟩
  case rest =>
    obtain ⟨rfl, hw⟩ := hcut
    obtain ⟨w2, rfl⟩ : ∃ z, z = wc := ⟨_, rfl⟩
    obtain rfl := hw.symm
    generalize runS = S at HPs HPr HPP ⊢
    go_upto_region 5 with (go_at_call 5; refine HPs.out.mono ?_; rintro e w3 ⟨⟨d, k, b0, b1, b2, a, n, c, ts⟩, ok, rfl, hok, hpp, hj3⟩; obtain ⟨hpm, rfl⟩ := HPP.out _ _ hpp; have HPm := hid hpm; have HOk3 := hid hok; have HJ3 := hid hj3; clear hpm hok hpp hj3)
    have HJ4 : Hid (Jk w3 (w3.alloc (.cells #[.int .i64 d, .int .i64 k, .int .i64 b0, .int .i64 b1, .int .i64 b2, .slice a n c] 25))) := (Jk.refl w3).alloc _
    have HM4 : Hid (MdB (w3.alloc (.cells #[.int .i64 d, .int .i64 k, .int .i64 b0, .int .i64 b1, .int .i64 b2, .slice a n c] 25)) w3.heap.size ⟨d, k, b0, b1, b2, a, n, c, ts⟩) := MdB.laid w3 ⟨d, k, b0, b1, b2, a, n, c, ts⟩
    generalize w3.alloc (.cells #[.int .i64 d, .int .i64 k, .int .i64 b0, .int .i64 b1, .int .i64 b2, .slice a n c] 25) = w4 at HJ4 HM4 ⊢
    have HJ14 : Hid (Jk w1 w4) := HJ3.out.trans HJ4.out
    have HMs := hid (models_ans (b := true) (HOk.out.jk HJ14.out) (HOk3.out.jk HJ4.out) ⟨fun _ => by rw [HPm.out, HP0.out]; rfl, fun _ => rfl⟩)
    have HM1' := hid (HM1.out.jk HJ14.out)
    obtain ⟨al, x0, x1, x2, x3, x4, x5⟩ := HM1'.out.in
    obtain ⟨bl, y0, y1, y2, y3, y4, y5⟩ := HM4.out.in
    simp only at x0 x1 x2 x3 x4 x5 y0 y1 y2 y3 y4 y5
    clear HPs HPP HM1 HM4 HPm HP0 HM1'
    go_wp2_with (first
      | (go_at_call 7; refine (HPr.out.on _ HJ14.out).mono ?_; rintro e w5 ⟨rfl, X5, rfl⟩)
      | (go_at_call 9; refine (HMs.out.on _ (by repeat (with_reducible first | exact Jk.refl _ | apply Jk.junk))).mono ?_; rintro e w6 ⟨rfl, X6, rfl⟩))
    go_ret
    exact ⟨rfl, (((HJw.out.trans HJ14.out).junk X5).junk X6)⟩

theorem textRuns_walk (w : World) (hE : Env w) : Calls Tryz.prog 10 #[] w fun e w' => e = .returned (.bool true) ∧ Jk w w' := runs_ans (lib_p hE) w (Jk.refl w)

end Go.Proofs.YtfabodbcdnmpmaaGreatDoor
