/- What copsekeep's Three answers: the model of chapter 8's runs. -/
import Derived.Test.YtkkbeobocbgmeaaGreatRunsM
import Derived.Test.YtkkbeobocbgmeaaGreatRefNode
import Derived.Test.YtkkbeobocbgmeaaGreatQueryB
namespace Go.Proofs.YtkkbeobocbgmeaaGreat
open Go.RowKit M

theorem load_M {w : World} {h : Nat} {m : Md} (H : MdB w h m) : (loadVar 31 ⟨h, 0, none⟩).run Tryz.prog w = .ok (modelV m) w := run_loadVar_row w h _ _ _ _ _ H Tryz.underlying31 rfl (by kernel_rfl)
/-- the call has made the model of the runs -/
def Got3 (w : World) (e : Ending) (w' : World) : Prop := ∃ a t, e = .returned (modelV (runsM a t)) ∧ (runsM a t).ok w' ∧ Jk w w'
set_option maxRecDepth 100000 in
set_option maxHeartbeats 3200000 in
theorem kthree_any (w : World) : Calls Tryz.prog 32 #[] w fun e w' => Got3 w e w' := by
  have J := rules8
  have H1 := hid (rpack_ans ⟨false, 0, 0, 5, 1, 2⟩)
  have H2 := hid (rpack_ans (ndLeaf 10))
  have H3 := hid (rpack_ans (ndLeaf 20))
  have HB : Hid (∀ i, i < 3 → 0 ≤ wd (threeW 5 10 20) i ∧ wd (threeW 5 10 20) i ≤ 18446744073709551615) := fun i hi => by
    have : i = 0 ∨ i = 1 ∨ i = 2 := by omega
    rcases this with rfl | rfl | rfl
    · exact Nd.pack_bd ⟨false, 0, 0, 5, 1, 2⟩
    · exact Nd.pack_bd (ndLeaf 10)
    · exact Nd.pack_bd (ndLeaf 20)
  have HT : Hid (∀ a t, (runsM a t) = ⟨1, 1, 3, 0, 0, a, 1, 1, [⟨0, t, 3, 3, threeW 5 10 20⟩]⟩) := fun a t => rfl
  unfold Got3
  simp only [HT.out]
  obtain ⟨ws, hws⟩ : ∃ ws, threeW 5 10 20 = ws := ⟨_, rfl⟩
  have HE : Hid ([Nd.pack ⟨false, 0, 0, 5, 1, 2⟩, Nd.pack (ndLeaf 10), Nd.pack (ndLeaf 20)] = ws) := hws
  rw [hws] at HB ⊢
  obtain ⟨x, hx⟩ : ∃ x, Nd.pack ⟨false, 0, 0, 5, 1, 2⟩ = x := ⟨_, rfl⟩
  obtain ⟨y, hy⟩ : ∃ x, Nd.pack (ndLeaf 10) = x := ⟨_, rfl⟩
  obtain ⟨z, hz⟩ : ∃ x, Nd.pack (ndLeaf 20) = x := ⟨_, rfl⟩
  rw [hx] at H1 HE
  rw [hy] at H2 HE
  rw [hz] at H3 HE
  simp only [nodeV] at H1 H2 H3
  clear hx hy hz hws HT
  obtain ⟨w0, hw0⟩ : ∃ w0, w.alloc (.cells #[.int .i64 0, .int .i64 0, .int .i64 0, .int .i64 0, .int .i64 0, .slice none 0 0] 31) = w0 := ⟨_, rfl⟩
  have HJ0 : Hid (Jk w w0) := hw0 ▸ (Jk.refl w).alloc _
  have HZ : Hid (MdB w0 w.heap.size ⟨0, 0, 0, 0, 0, none, 0, 0, []⟩) := hw0 ▸ MdB.laid w ⟨0, 0, 0, 0, 0, none, 0, 0, []⟩
  go_enter Tryz.func32, Tryz.ntmps32
  go_upto_region 1 with fail
  go_cut [1] (fun p wc => ∃ g, p = .slice (some ⟨g, 0, none⟩) 3 3 ∧ IsW wc (some ⟨g, 0, none⟩) 3 3 ws ∧ w0.heap.size ≤ g ∧ g < wc.heap.size ∧ Jk w0 wc)
  case first =>
    go_wp2_with (first | (go_at_call 33; refine (Ans.on (by with_reducible first | exact H1.out | exact H2.out | exact H3.out) _).mono ?_; rintro e w1 ⟨rfl, X1, rfl⟩))
    go_meet
    case rel =>
      rename_i X1' X1''
      have hb : w0.heap.size + Jn X1' + Jn X1'' + Jn X1 = (junk (junk (junk w0 X1') X1'') X1).heap.size := by simp only [junk_size]
      refine ⟨_, rfl, ⟨by rw [← HE.out]; rfl, by omega, by unfold maxLen; omega, HB.out, fun _ => ⟨_, 0, rfl, ?_, fun j hj => ?_⟩⟩, ?_, ?_, ?_⟩
      · rw [World.size_alloc, ← hb]; omega
      · rw [← HE.out] at hj ⊢
        simp at hj
        have : j = 0 ∨ j = 1 ∨ j = 2 := by omega
        rcases this with rfl | rfl | rfl
        · exact new_cells _ #[.int .u64 x, .int .u64 y, .int .u64 z] _ _ hb 0 _ rfl
        · exact new_cells _ #[.int .u64 x, .int .u64 y, .int .u64 z] _ _ hb 1 _ rfl
        · exact new_cells _ #[.int .u64 x, .int .u64 y, .int .u64 z] _ _ hb 2 _ rfl
      · omega
      · rw [World.size_alloc, ← hb]; omega
      · repeat (with_reducible first | exact Jk.refl _ | apply Jk.junk | apply Jk.alloc)
  case rest =>
    obtain ⟨g, rfl, hI, hg0, hg, hj⟩ := hcut
    obtain ⟨w1, rfl⟩ : ∃ z, z = wc := ⟨_, rfl⟩
    have HJ1 := hid hj
    have hs00 := HZ.out.lt
    have hs0 : w.heap.size < w1.heap.size := Nat.lt_of_lt_of_le HZ.out.lt hj.below.size
    obtain ⟨z0, z1, z2, z3, z4, z5, z6⟩ := (HZ.out.jk hj).in
    have zf := (HZ.out.jk hj).frozen
    simp only at z1 z2 z3 z4 z5 z6
    have HOk : Hid (∀ W : World, w1.grownBy W (some w.heap.size) → W.heap.size = w1.heap.size → Md.ok (W.alloc (.cells #[.int .i64 0, .slice (some ⟨g, 0, none⟩) 3 3] 60)) ⟨1, 1, 3, 0, 0, some ⟨w1.heap.size, 0, none⟩, 1, 1, [⟨0, some ⟨g, 0, none⟩, 3, 3, ws⟩]⟩ ∧ Jk w (W.alloc (.cells #[.int .i64 0, .slice (some ⟨g, 0, none⟩) 3 3] 60))) := fun W hW hsz => by
      have hat := new_tree W 0 (some ⟨g, 0, none⟩) 3 3 ws (b := w1.heap.size) hsz.symm
      have hI1 : IsW W (some ⟨g, 0, none⟩) 3 3 ws := hI.kept hW fun g' o e => by
        simp at e
        intro e2
        simp at e2
        omega
      refine ⟨⟨zfit0 1 rfl, zfit0 1 rfl, zfit0 3 rfl, zfit0 0 rfl, zfit0 0 rfl, ⟨rfl, Nat.le_refl 1, by unfold maxLen; show 1 ≤ _; omega, fun i hi => ?_, fun _ => ⟨_, 0, rfl, by rw [World.size_alloc, hsz]; omega, hat⟩⟩⟩, ((HJ0.out.trans HJ1.out).grown hW (fun k hk => by cases hk; exact Nat.le_refl _)).alloc _⟩
      have : i = 0 := by simp at hi; omega
      subst this
      exact ⟨zfit0 0 rfl, hI1.jk ((Jk.refl W).alloc _)⟩
    have HQ1 := hid ((((((((HZ.out.jk HJ1.out)).setD 1).setK 1).setB0 3).setB1 0).setB2 0).setT (some ⟨w1.heap.size, 0, none⟩) 1 1 [⟨0, some ⟨g, 0, none⟩, 3, 3, ws⟩])
    have HG1 := hid ((((((grown_set w1 w.heap.size 0 (.int .i64 1)).trans (grown_set _ w.heap.size 1 (.int .i64 1))).trans (grown_set _ w.heap.size 2 (.int .i64 3))).trans (grown_set _ w.heap.size 3 (.int .i64 0))).trans (grown_set _ w.heap.size 4 (.int .i64 0))).trans (grown_set _ w.heap.size 5 (.slice (some ⟨w1.heap.size, 0, none⟩) 1 1)))
    have HN1 := hid (HOk.out _ HG1.out (by simp))
    clear hI hj
    go_wp2
    exact bodyPost_ret (results_cell Tryz.results32 rfl (load_M (HQ1.out.jk ((Jk.refl _).alloc _)))) rfl ⟨_, _, rfl, HN1.out⟩

end Go.Proofs.YtkkbeobocbgmeaaGreat
