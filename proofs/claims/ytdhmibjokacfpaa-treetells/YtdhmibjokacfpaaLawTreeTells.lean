/- The law TreeTells of chapter 7 answers true for any words, any numbers, any point: the code and the document's own answer tell the same; what was handed in stays. -/
import Derived.Test.YtdhmibjokacfpaaLawTreeRuns
import Derived.Test.YtdhmibjokacfpaaNodesB
import Derived.Test.YtdhmibjokacfpaaRefTree
import Derived.Test.YtdhmibjokacfpaaRefTree2
namespace Go.Proofs.Ytdhmibjokacfpaa
open Go.RowKit M

theorem IsW.roomy {w : World} {G n : Nat} {ws : List Int} (hn : ws.length = n) (hl : n ≤ 1000) (hb : ∀ i, i < n → 0 ≤ wd ws i ∧ wd ws i ≤ 18446744073709551615) (hG : G < w.heap.size) (h : AtK .u64 w G 0 (ws ++ List.replicate 80 7)) : IsW w (some ⟨G, 0, none⟩) n (n + 80) ws :=
  ⟨hn, by omega, by unfold maxLen; omega, hb, fun _ => ⟨G, 0, rfl, hG, h.left⟩⟩

open Classical in
theorem tree_bool (ws : List Int) (dim : Int) : ∃ b : Bool, b = true ↔ TreeP ws dim := ⟨decide (TreeP ws dim), by simp⟩

set_option maxRecDepth 100000 in
set_option maxHeartbeats 4000000 in
theorem treeTells_walk (s0 : Option Addr) (n0 c0 : Nat) (z0 : List Int) (x1 : Seed) (a2 : Int) (p : Int → Int) (b4 : Bool) (w : World) (wx0 : IsW w s0 n0 c0 z0) (wx1 : x1.ok w) (w2 : (Lit.int .i64 a2).wf = true) (_wx3 : PtFit p) :
    Calls Try.prog 4 #[.slice s0 n0 c0, seedV x1, .int .i64 a2, pointV p, .bool b4] w fun e w' => e = .returned (.bool true) ∧ Jk w w' := by
  have J := rules8
  obtain ⟨d1, d2⟩ := bdi w2
  have hc0 := wx0.cap
  have hm0 := wx0.max
  unfold maxLen at hm0
  obtain ⟨q1, q2, q3, q4, q5, q6, q7, q8, q9, r1, r2, r3, r4, r5, r6, r7, r8⟩ := x1
  obtain ⟨w1, hw1⟩ : ∃ w1, w.alloc (.cells #[.int .i64 q1, .slice q2 q3 q4, .slice q6 q7 q8, .slice r1 r2 r3, .slice r5 r6 r7] 37) = w1 := ⟨_, rfl⟩
  obtain ⟨W0, hW0⟩ : ∃ W0, w1.alloc (.cells #[.int .i64 (p 0), .int .i64 (p 1), .int .i64 (p 2), .int .i64 (p 3)] 30) = W0 := ⟨_, rfl⟩
  have hJ1 : Jk w w1 := hw1 ▸ (Jk.refl w).alloc _
  have hJ01 : Jk w1 W0 := hW0 ▸ (Jk.refl w1).alloc _
  have HJ0 := hid (hJ1.trans hJ01)
  have hs1 : w.heap.size < w1.heap.size := by rw [← hw1]; simp
  have hs0 : w1.heap.size < W0.heap.size := by rw [← hW0]; simp
  have HPt : Hid (W0.cell? ⟨w1.heap.size, 0, none⟩ = some (.int .i64 (p 0)) ∧ W0.cell? ⟨w1.heap.size, 1, none⟩ = some (.int .i64 (p 1)) ∧ W0.cell? ⟨w1.heap.size, 2, none⟩ = some (.int .i64 (p 2)) ∧ W0.cell? ⟨w1.heap.size, 3, none⟩ = some (.int .i64 (p 3))) := by
    rw [← hW0]
    exact ⟨World.cell?_alloc_at _ _ _ _ rfl, World.cell?_alloc_at _ _ _ _ rfl, World.cell?_alloc_at _ _ _ _ rfl, World.cell?_alloc_at _ _ _ _ rfl⟩
  have HSd : Hid (W0.cell? ⟨w.heap.size, 0, none⟩ = some (.int .i64 q1) ∧ W0.cell? ⟨w.heap.size, 1, none⟩ = some (.slice q2 q3 q4) ∧ W0.cell? ⟨w.heap.size, 2, none⟩ = some (.slice q6 q7 q8) ∧ W0.cell? ⟨w.heap.size, 3, none⟩ = some (.slice r1 r2 r3) ∧ W0.cell? ⟨w.heap.size, 4, none⟩ = some (.slice r5 r6 r7)) := by
    have e : ∀ i, W0.cell? ⟨w.heap.size, i, none⟩ = w1.cell? ⟨w.heap.size, i, none⟩ := fun i => hJ01.below.cell (p := ⟨w.heap.size, i, none⟩) hs1
    rw [e, e, e, e, e, ← hw1]
    exact ⟨World.cell?_alloc_at _ _ _ _ rfl, World.cell?_alloc_at _ _ _ _ rfl, World.cell?_alloc_at _ _ _ _ rfl, World.cell?_alloc_at _ _ _ _ rfl, World.cell?_alloc_at _ _ _ _ rfl⟩
  have HI0 := hid (wx0.jk HJ0.out)
  have HS0 := hid (wx1.jk HJ0.out)
  have HRuns := hid treeRuns_ans
  clear wx0 wx1 hJ1 hJ01
  show Calls Try.prog 4 #[.slice s0 n0 c0, .agg #[.int .i64 q1, .slice q2 q3 q4, .slice q6 q7 q8, .slice r1 r2 r3, .slice r5 r6 r7], .int .i64 a2, .agg #[.int .i64 (p 0), .int .i64 (p 1), .int .i64 (p 2), .int .i64 (p 3)], .bool b4] w fun e w' => e = .returned (.bool true) ∧ Jk w w'
  obtain ⟨m, hm, hm2⟩ : ∃ m, m ≤ n0 ∧ (n0 ≤ 40 ∧ m = n0 ∨ 40 < n0 ∧ m = 40) := by
    by_cases h : n0 ≤ 40
    · exact ⟨n0, Nat.le_refl _, .inl ⟨h, rfl⟩⟩
    · exact ⟨40, by omega, .inr ⟨by omega, rfl⟩⟩
  have HIm := hid (HI0.out.take m hm)
  have hm40 : m ≤ 40 := by omega
  clear HI0
  have hmc : (m : Int) ≤ (c0 : Int) := by omega
  rcases hm2 with ⟨h40, rfl⟩ | ⟨h40, rfl⟩
  all_goals
    cases b4
    case false =>
      have HJX : Hid (Jk W0 W0) := Jk.refl _
      go_enter Try.func4, Try.ntmps4
      go_upto_region 4 with fail
      go_cut [0, 11] (fun v0 v11 wc => ∃ a n c ws G, v0 = .slice a n c ∧ v11 = .slice (some ⟨G, 0, none⟩) (n + 80) (n + 80) ∧ IsW wc a n c ws ∧ n ≤ 40 ∧ AtK .u64 wc G 0 (ws ++ List.replicate 80 7) ∧ G < wc.heap.size ∧ Jk W0 wc)
      case first =>
        go_wp2_with (first | (go_at_call 17; refine (roomy_words _ _ _ 7 _ _ HIm.out.len (by omega) HIm.out.atO).mono ?_; rintro e w3 ⟨rfl, hr1, hr2, hr3⟩; have HR1 := hid hr1; have HR2 := hid hr2; have HR3 := hid (Jk.of_below hr3); clear hr1 hr2 hr3))
        go_meet
        case rel => exact ⟨_, _, _, _, _, rfl, rfl, HIm.out.jk HR3.out, by omega, HR1.out, HR2.out, HJX.out.trans HR3.out⟩
      case rest =>
        obtain ⟨a, n, c, ws, G, rfl, rfl, hI, hn40, hA, hG, hJ⟩ := hcut
        obtain ⟨B, hB⟩ := tree_bool ws a2
        have HR := hid (right_tree (IsW.roomy hI.len (by omega) hI.bd hG hA) hB)
        have HRR := hid (rright_tree hI hB)
        have HWk := hid (walk_ans p (IsW.roomy hI.len (by omega) hI.bd hG hA))
        have HWr := hid (rwalk_ans p hI)
        have HVk := hid (value_ans p (IsW.roomy hI.len (by omega) hI.bd hG hA))
        have HVr := hid (rvalue_ans p hI)
        have HIn := hid (intact_words (c2 := c) hI.len (by omega) (Nat.le_refl _) hG hA hI.atO)
        have HRn := hid (treeRuns_ans.ansW wc)
        obtain ⟨pl, hpl⟩ : ∃ y, plI (wayW ws p 31 0) = y := ⟨_, rfl⟩
        obtain ⟨vl, hvl⟩ : ∃ y, vlI ws (wayW ws p 31 0) = y := ⟨_, rfl⟩
        rw [hpl] at HWk HWr
        rw [hvl] at HVk HVr
        have f0 : wc.cell? ⟨w1.heap.size, 0, none⟩ = some (.int .i64 (p 0)) := (hJ.below.cell (p := ⟨w1.heap.size, 0, none⟩) hs0).trans HPt.out.1
        have f1 : wc.cell? ⟨w1.heap.size, 1, none⟩ = some (.int .i64 (p 1)) := (hJ.below.cell (p := ⟨w1.heap.size, 1, none⟩) hs0).trans HPt.out.2.1
        have f2 : wc.cell? ⟨w1.heap.size, 2, none⟩ = some (.int .i64 (p 2)) := (hJ.below.cell (p := ⟨w1.heap.size, 2, none⟩) hs0).trans HPt.out.2.2.1
        have f3 : wc.cell? ⟨w1.heap.size, 3, none⟩ = some (.int .i64 (p 3)) := (hJ.below.cell (p := ⟨w1.heap.size, 3, none⟩) hs0).trans HPt.out.2.2.2
        have hsc : w1.heap.size < wc.heap.size := Nat.lt_of_lt_of_le hs0 hJ.below.size
        have HJc := hid (HJ0.out.trans hJ)
        have hnn : (n : Int) ≤ (n : Int) + 80 := by omega
        have hnn2 : n ≤ n + 80 := by omega
        clear hI hA hJ hB hpl hvl HSd HS0 HIm HPt hmc hw1 hW0
        go_upto_region 6 with fail
        refine region_junk (by kernel_rfl) (by kernel_rfl) ?_
        repeat (go_big_quiet_step (first | (go_at_call 9; exact AnsW.junk (by with_reducible exact HR.out) _) | (go_at_call 18; exact AnsW.junk (by with_reducible exact HRR.out) _) | (go_at_call 10; exact AnsW.junk (by with_reducible exact HWk.out) _) | (go_at_call 19; exact AnsW.junk (by with_reducible exact HWr.out) _) | (go_at_call 14; exact AnsW.junk (by with_reducible exact HVk.out) _) | (go_at_call 20; exact AnsW.junk (by with_reducible exact HVr.out) _) | (go_at_call 21; exact AnsW.junk (by with_reducible exact HIn.out) _) | (go_at_call 3; exact AnsW.junk (by with_reducible exact HRn.out) _) | exact rfl))
        refine wpQuiet_nil ?_
        rintro _ ⟨X, rfl⟩
        go_wp2
        go_ret
        exact ⟨rfl, HJc.out.junk X⟩
    case true =>
      obtain ⟨d, hd⟩ : ∃ d, withinI a2 1 4 = d := ⟨_, rfl⟩
      have bd := hd ▸ within_bd a2 1 4 (by decide)
      have HWi := hid ((within_is hd d1 d2 (by decide) (by decide) (by decide)).ansW W0)
      have HNd := hid (fun X => nodes_any ⟨q1, q2, q3, q4, q5, q6, q7, q8, q9, r1, r2, r3, r4, r5, r6, r7, r8⟩ d (junk W0 X) (HS0.out.jk ⟨X, rfl⟩) bd.1 bd.2)
      obtain ⟨g0, g1, g2, g3, g4⟩ := HSd.out
      have hs00 : w.heap.size < W0.heap.size := by omega
      clear hd
      go_enter Try.func4, Try.ntmps4
      go_upto_region 3 with fail
      refine region_tail 3 #[true, true, true, false, false] (by kernel_rfl) (by decide) (by kernel_rfl) ?_
      dsimp only [List.take, List.drop]
      repeat (go_big_quiet_step (first | (go_at_call 16; exact AnsW.junk (by with_reducible exact HWi.out) _) | exact rfl))
      refine wpQuiet_nil ?_
      rintro _ ⟨X, rfl⟩
      go_upto_region 4 with (first | (go_at_call 15; refine (HNd.out X).mono ?_; rintro e wn ⟨gt, nt, ct, wt, rfl, hIt, hTt, hnt, hgt, hJt⟩; have HIt := hid hIt; have HJX : Hid (Jk W0 wn) := (((Jk.refl W0).junk X).trans hJt); clear hIt hTt hgt hJt))
      clear g0 g1 g2 g3 g4 hs00
      go_cut [0, 11] (fun v0 v11 wc => ∃ a n c ws G, v0 = .slice a n c ∧ v11 = .slice (some ⟨G, 0, none⟩) (n + 80) (n + 80) ∧ IsW wc a n c ws ∧ n ≤ 40 ∧ AtK .u64 wc G 0 (ws ++ List.replicate 80 7) ∧ G < wc.heap.size ∧ Jk W0 wc)
      case first =>
        go_wp2_with (first | (go_at_call 17; refine (roomy_words _ _ _ 7 _ _ HIt.out.len (by omega) HIt.out.atO).mono ?_; rintro e w3 ⟨rfl, hr1, hr2, hr3⟩; have HR1 := hid hr1; have HR2 := hid hr2; have HR3 := hid (Jk.of_below hr3); clear hr1 hr2 hr3))
        go_meet
        case rel => exact ⟨_, _, _, _, _, rfl, rfl, HIt.out.jk HR3.out, by omega, HR1.out, HR2.out, HJX.out.trans HR3.out⟩
      case rest =>
        obtain ⟨a, n, c, ws, G, rfl, rfl, hI, hn40, hA, hG, hJ⟩ := hcut
        obtain ⟨B, hB⟩ := tree_bool ws a2
        have HR := hid (right_tree (IsW.roomy hI.len (by omega) hI.bd hG hA) hB)
        have HRR := hid (rright_tree hI hB)
        have HWk := hid (walk_ans p (IsW.roomy hI.len (by omega) hI.bd hG hA))
        have HWr := hid (rwalk_ans p hI)
        have HVk := hid (value_ans p (IsW.roomy hI.len (by omega) hI.bd hG hA))
        have HVr := hid (rvalue_ans p hI)
        have HIn := hid (intact_words (c2 := c) hI.len (by omega) (Nat.le_refl _) hG hA hI.atO)
        have HRn := hid (treeRuns_ans.ansW wc)
        obtain ⟨pl, hpl⟩ : ∃ y, plI (wayW ws p 31 0) = y := ⟨_, rfl⟩
        obtain ⟨vl, hvl⟩ : ∃ y, vlI ws (wayW ws p 31 0) = y := ⟨_, rfl⟩
        rw [hpl] at HWk HWr
        rw [hvl] at HVk HVr
        have f0 : wc.cell? ⟨w1.heap.size, 0, none⟩ = some (.int .i64 (p 0)) := (hJ.below.cell (p := ⟨w1.heap.size, 0, none⟩) hs0).trans HPt.out.1
        have f1 : wc.cell? ⟨w1.heap.size, 1, none⟩ = some (.int .i64 (p 1)) := (hJ.below.cell (p := ⟨w1.heap.size, 1, none⟩) hs0).trans HPt.out.2.1
        have f2 : wc.cell? ⟨w1.heap.size, 2, none⟩ = some (.int .i64 (p 2)) := (hJ.below.cell (p := ⟨w1.heap.size, 2, none⟩) hs0).trans HPt.out.2.2.1
        have f3 : wc.cell? ⟨w1.heap.size, 3, none⟩ = some (.int .i64 (p 3)) := (hJ.below.cell (p := ⟨w1.heap.size, 3, none⟩) hs0).trans HPt.out.2.2.2
        have hsc : w1.heap.size < wc.heap.size := Nat.lt_of_lt_of_le hs0 hJ.below.size
        have HJc := hid (HJ0.out.trans hJ)
        have hnn : (n : Int) ≤ (n : Int) + 80 := by omega
        have hnn2 : n ≤ n + 80 := by omega
        clear hI hA hJ hB hpl hvl HSd HS0 HIm HPt hmc hw1 hW0
        go_upto_region 6 with fail
        refine region_junk (by kernel_rfl) (by kernel_rfl) ?_
        repeat (go_big_quiet_step (first | (go_at_call 9; exact AnsW.junk (by with_reducible exact HR.out) _) | (go_at_call 18; exact AnsW.junk (by with_reducible exact HRR.out) _) | (go_at_call 10; exact AnsW.junk (by with_reducible exact HWk.out) _) | (go_at_call 19; exact AnsW.junk (by with_reducible exact HWr.out) _) | (go_at_call 14; exact AnsW.junk (by with_reducible exact HVk.out) _) | (go_at_call 20; exact AnsW.junk (by with_reducible exact HVr.out) _) | (go_at_call 21; exact AnsW.junk (by with_reducible exact HIn.out) _) | (go_at_call 3; exact AnsW.junk (by with_reducible exact HRn.out) _) | exact rfl))
        refine wpQuiet_nil ?_
        rintro _ ⟨X, rfl⟩
        go_wp2
        go_ret
        exact ⟨rfl, HJc.out.junk X⟩

end Go.Proofs.Ytdhmibjokacfpaa
