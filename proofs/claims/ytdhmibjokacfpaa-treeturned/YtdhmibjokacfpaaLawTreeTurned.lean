/- The law TreeTurned of chapter 7 answers true for any numbers: a right tree of which one thing is turned is none. -/
import Derived.Test.YtdhmibjokacfpaaLawTreeRuns
import Derived.Test.YtdhmibjokacfpaaTurnA
import Derived.Test.YtdhmibjokacfpaaLawTreeMoves
namespace Go.Proofs.Ytdhmibjokacfpaa
open Go.RowKit M

set_option maxRecDepth 100000 in
set_option maxHeartbeats 4000000 in
theorem treeTurned_walk (x1 : Seed) (what at' : Int) (w : World) (wx1 : x1.ok w) (w2 : (Lit.int .i64 what).wf = true) (w3 : (Lit.int .i64 at').wf = true) :
    Calls Try.prog 6 #[seedV x1, .int .i64 what, .int .i64 at'] w fun e w' => e = .returned (.bool true) ∧ Jk w w' := by
  have J := rules8
  obtain ⟨wh1, wh2⟩ := bdi w2
  obtain ⟨at1, at2⟩ := bdi w3
  clear w2 w3
  obtain ⟨q1, q2, q3, q4, q5, q6, q7, q8, q9, r1, r2, r3, r4, r5, r6, r7, r8⟩ := x1
  obtain ⟨W0, hW0⟩ : ∃ W0, w.alloc (.cells #[.int .i64 q1, .slice q2 q3 q4, .slice q6 q7 q8, .slice r1 r2 r3, .slice r5 r6 r7] 37) = W0 := ⟨_, rfl⟩
  have HJ0 : Hid (Jk w W0) := hW0 ▸ (Jk.refl w).alloc _
  have hs1 : w.heap.size < W0.heap.size := by rw [← hW0]; simp
  have hSd : W0.cell? ⟨w.heap.size, 0, none⟩ = some (.int .i64 q1) ∧ W0.cell? ⟨w.heap.size, 1, none⟩ = some (.slice q2 q3 q4) ∧ W0.cell? ⟨w.heap.size, 2, none⟩ = some (.slice q6 q7 q8) ∧ W0.cell? ⟨w.heap.size, 3, none⟩ = some (.slice r1 r2 r3) ∧ W0.cell? ⟨w.heap.size, 4, none⟩ = some (.slice r5 r6 r7) := by
    rw [← hW0]
    exact ⟨World.cell?_alloc_at _ _ _ _ rfl, World.cell?_alloc_at _ _ _ _ rfl, World.cell?_alloc_at _ _ _ _ rfl, World.cell?_alloc_at _ _ _ _ rfl, World.cell?_alloc_at _ _ _ _ rfl⟩
  obtain ⟨g0, g1, g2, g3, g4⟩ := hSd
  have HNd := hid (nodes_any ⟨q1, q2, q3, q4, q5, q6, q7, q8, q9, r1, r2, r3, r4, r5, r6, r7, r8⟩ 4 W0 (wx1.jk HJ0.out) (by decide) (by decide))
  have HRn := hid treeRuns_ans
  show Calls Try.prog 6 #[.agg #[.int .i64 q1, .slice q2 q3 q4, .slice q6 q7 q8, .slice r1 r2 r3, .slice r5 r6 r7], .int .i64 what, .int .i64 at'] w fun e w' => e = .returned (.bool true) ∧ Jk w w'
  clear wx1
  go_enter Try.func6, Try.ntmps6
  go_wp2_with (first | (go_at_call 15; refine HNd.out.mono ?_; rintro e wn ⟨gt, n, ct, ws, rfl, hIt, hTt, hnt, hgt, hJt⟩; have HI := hid hIt; have HT := hid hTt; have HJn : Hid (Jk W0 wn) := hJt; clear hIt hTt hgt hJt))
  have hlen := HI.out.len
  have n1 : 1 ≤ n := by rw [← hlen]; exact HT.out.full
  have HSh : Hid (Shape (ndA ws) n 4) := by have := HT.out.shape; rwa [hlen] at this
  obtain ⟨_, _, heq, hgt, _⟩ := HI.out.lies (by omega)
  cases heq
  obtain ⟨h, hh⟩ : ∃ h, wn.heap.size = h := ⟨_, rfl⟩
  have hWh : W0.heap.size ≤ h := hh ▸ HJn.out.below.size
  rw [hh] at hgt
  have HH : Hid (h ≤ wn.heap.size) := Nat.le_of_eq hh.symm
  clear hh g0 g1 g2 g3 g4 HNd hW0
  go_loopg [8, 22] n (fun k v i wr => ∃ j m : Nat, j + k = n ∧ i = .int .i64 (j : Int) ∧ OwnI h wr v m (inn ws j) ∧ Jk W0 wr ∧ IsW wr (some ⟨gt, 0, none⟩) n ct ws ∧ h ≤ wr.heap.size)
  case atStart => exact ⟨0, 0, by omega, rfl, ⟨rfl, World.ownsRow_nil _ _ _ _⟩, HJn.out, HI.out, HH.out⟩
  case round =>
    obtain ⟨j, m, hj, rfl, hO, hJ, hI, hhs⟩ := hrel
    have HO := hid hO
    have HJ := hid hJ
    have HI' := hid hI
    clear hO hJ hI HJn HI HH
    by_cases hlt : j < n
    · obtain ⟨_, _, heq, hgs, hat⟩ := HI'.out.lies (by omega)
      cases heq
      have e1 : wr.cell? ⟨gt, j, none⟩ = some (.int .u64 (wd ws j)) := by
        have := hat j (by rw [hlen]; exact hlt)
        rwa [Nat.zero_add] at this
      obtain ⟨b1, b2⟩ := HI'.out.bd j hlt
      have HU := hid (unpack_ans (wd ws j) b1 b2)
      have HN : Hid (unI (wd ws j) = ndA ws j) := rfl
      rw [HN.out, HT.out.can j (by rw [hlen]; exact hlt)] at HU
      have HLv : Hid (inn ws (j + 1) = match (ndA ws j).leaf with | true => inn ws j | false => inn ws j ++ [(j : Int)]) := rfl
      have hmj : m ≤ j := by
        have h1 := inn_count ws j
        have h2 : (inn ws j).length = m := HO.out.1
        omega
      obtain ⟨x, hx⟩ : ∃ x, ndA ws j = x := ⟨_, rfl⟩
      rw [hx] at HU HLv
      obtain ⟨leaf, v, f, a', l, r⟩ := x
      have i0 : (0 : Int) ≤ (j : Int) := by omega
      have i1 : (j : Int) < (n : Int) := by omega
      clear hx hat b1 b2
      cases leaf
      case true =>
        go_wp2_with (first | (go_at_call 22; refine (HU.out.on _).mono ?_; rintro e w3 ⟨rfl, X1, rfl⟩))
        go_roundg (gk - 1)
        case measure => omega
        case rel => exact ⟨j + 1, m, by omega, by go_num, by rw [HLv.out]; exact HO.out.jk (((Jk.refl _).junk X1).alloc _), (HJ.out.junk X1).alloc _, HI'.out.jk (((Jk.refl _).junk X1).alloc _), by rw [World.size_alloc, junk_size]; omega⟩
      case false =>
        go_wp2_with (first | (go_at_call 22; refine (HU.out.on _).mono ?_; rintro e w3 ⟨rfl, X1, rfl⟩) | (at_builtin; refine list_appI rfl _ _ rfl (HO.out.jk ((((Jk.refl wr).junk X1).alloc _).alloc _)) (by rw [World.size_alloc, World.size_alloc, junk_size]; omega) rfl _ 0 1 _ [(j : Int)] rfl (by decide) rfl (fun q hq => new_cells _ #[.int .i64 (j : Int)] _ _ (by rw [World.size_alloc, junk_size]) (0 + q) _ (by simp at hq; subst hq; rfl)) (by omega) ?_; intro g2 c2 w2 hO2 hG2; have HO2 := hid hO2; have HG2 := hid hG2; clear hO2 hG2))
        go_roundg (gk - 1)
        case measure => omega
        case rel =>
          have hb := HO.out.base
          refine ⟨j + 1, m + 1, by omega, by go_num, by rw [HLv.out]; exact HO2.out, (((HJ.out.junk X1).alloc _).alloc _).grown HG2.out (fun k hk => Nat.le_trans hWh (hb k hk)), ?_, ?_⟩
          · have hI2 := HI'.out.jk ((((Jk.refl wr).junk X1).alloc (.cells #[.bool false, .int .i64 v, .int .i64 f, .int .i64 a', .int .i64 l, .int .i64 r] 25)).alloc (.cells #[.int .i64 (j : Int)] 3))
            refine ⟨hI2.len, hI2.cap, hI2.max, hI2.bd, fun h0 => ?_⟩
            obtain ⟨_, _, e, h2, h3⟩ := hI2.lies h0
            cases e
            refine ⟨gt, 0, rfl, Nat.lt_of_lt_of_le h2 HG2.out.size, fun i hi => HG2.out.cell (h3 i hi) ?_⟩
            intro e
            have := hb gt e.symm
            omega
          · have := HG2.out.size
            rw [World.size_alloc, World.size_alloc, junk_size] at this
            omega
    · have e : j = n := by omega
      subst e
      have HRt := hid (right_tree HI'.out (b := true) (dim := 4) (by simp [HT.out]))
      have HRw := hid (treeRuns_ans.ansW wr)
      obtain ⟨av, cv, rfl, hcv1, hcv2, hform⟩ := row_form HO.out.2
      unfold maxLen at hcv2
      have HJc := hid (HJ0.out.trans HJ.out)
      by_cases hm0 : m = 0
      · subst hm0
        have hn1 : j = 1 := by
          have h1 := inn_count ws j
          have h2 : (inn ws j).length = 0 := HO.out.1
          have h3 := HSh.out.leaves n1
          omega
        subst hn1
        go_wp2_with (first | (go_at_call 9; refine (HRt.out.on _ (by repeat (with_reducible first | exact Jk.refl _ | apply Jk.junk | apply Jk.alloc))).mono ?_; rintro e w3 ⟨rfl, X1, rfl⟩) | (go_at_call 3; refine (HRn.out.on _).mono ?_; rintro e w3 ⟨rfl, X2, rfl⟩))
        go_ret
        refine ⟨rfl, ?_⟩
        repeat (with_reducible first | exact HJc.out | apply Jk.junk | apply Jk.alloc)
      · obtain ⟨gi, rfl, hgi1, hgi2⟩ := hform (by omega)
        obtain ⟨Y, hY⟩ : ∃ y, withinI at' 0 ((m : Int) - 1) = y := ⟨_, rfl⟩
        have bY := hY ▸ within_bd at' 0 ((m : Int) - 1) (by omega)
        have hmj : m ≤ j := by
          have h1 := inn_count ws j
          have h2 : (inn ws j).length = m := HO.out.1
          omega
        have HWa := hid (within_is hY at1 at2 (by omega) (by omega) (by omega))
        obtain ⟨Y, rfl⟩ := Int.eq_ofNat_of_zero_le bY.1
        obtain ⟨K, hK1, hK2, hK3⟩ := inn_at ws j Y (by rw [HO.out.1]; omega)
        have e1 : wr.cell? ⟨gi, Y, none⟩ = some (.int .i64 (K : Int)) := by
          have := HO.out.at Y (by rw [HO.out.1]; omega)
          rwa [Nat.zero_add, hK3] at this
        obtain ⟨_, _, heq, hgs, hat⟩ := HI'.out.lies (by omega)
        cases heq
        have e2 : wr.cell? ⟨gt, K, none⟩ = some (.int .u64 (wd ws K)) := by
          have := hat K (by rw [hlen]; exact hK1)
          rwa [Nat.zero_add] at this
        obtain ⟨b1, b2⟩ := HI'.out.bd K hK1
        have HU := hid (unpack_ans (wd ws K) b1 b2)
        have HN : Hid (unI (wd ws K) = ndA ws K) := rfl
        rw [HN.out, HT.out.can K (by rw [hlen]; exact hK1)] at HU
        have hRR := Nd.right_iff.1 (HT.out.right (k := K) (by rw [hlen]; exact hK1))
        have HPk := hid (HT.out.pack (k := K) (by rw [hlen]; exact hK1))
        have hFi := HSh.out.fine K hK1
        obtain ⟨x, hx⟩ : ∃ x, ndA ws K = x := ⟨_, rfl⟩
        rw [hx] at HU hK2 hRR HPk hFi
        obtain ⟨leaf, v, f, a', l, r⟩ := x
        obtain rfl : leaf = false := hK2
        simp [Nd.Right] at hRR
        obtain ⟨rfl, hRR⟩ := hRR
        have hFi2 : f < 4 ∧ (K : Int) < l ∧ (K : Int) < r ∧ l < (j : Int) ∧ r < (j : Int) ∧ l ≠ r := by
          rcases hFi with h | h
          · cases h
          · exact h
        have Y0 : (0 : Int) ≤ (Y : Int) := by omega
        have Y1 : (Y : Int) < (m : Int) := by omega
        have K0 : (0 : Int) ≤ (K : Int) := by omega
        have K1 : (K : Int) < (j : Int) := by omega
        have m1 : ¬ (m : Int) = 0 := by omega
        have m2 : ((m : Int) == 0) = false := by simp; omega
        have HAt := hid hat
        obtain ⟨T, hT⟩ : ∃ y, withinI what 0 6 = y := ⟨_, rfl⟩
        have bT := hT ▸ within_bd what 0 6 (by decide)
        have HWt := hid (within_is hT wh1 wh2 (by decide) (by decide) (by decide))
        clear hat b1 b2 hY bY hK3 hx hFi hT HRw
        go_upto_region 16 with (first | (go_at_call 9; refine (HRt.out.on _ (by repeat (with_reducible first | exact Jk.refl _ | apply Jk.junk | apply Jk.alloc))).mono ?_; rintro e w3 ⟨rfl, X1, rfl⟩) | (go_at_call 16; refine (HWa.out.on _).mono ?_; rintro e w3 ⟨rfl, X2, rfl⟩; have hgx1 : gi < wr.heap.size + Jn X1 := (by omega); have hgx2 : gi < wr.heap.size + Jn X1 + Jn X2 := (by omega); have hgy1 : gt < wr.heap.size + Jn X1 := (by omega); have hgy2 : gt < wr.heap.size + Jn X1 + Jn X2 := (by omega)) | (go_at_call 22; refine (HU.out.on _).mono ?_; rintro e w3 ⟨rfl, X3, rfl⟩) | (at_builtin; refine list_appU (L := []) (n := 0) (B := W0.heap.size) rfl _ _ rfl ⟨rfl, own_lit (B := W0.heap.size) _ #[] 22 1 0 (by simp only [World.size_alloc, junk_size]) (by simp only [World.size_alloc, junk_size]; omega) (by decide) rfl⟩ (by simp only [World.size_alloc, junk_size]; omega) rfl gt 0 j ct ws hlen (by omega) rfl (HAt.out.jk (by repeat (with_reducible first | exact Jk.refl _ | apply Jk.junk | apply Jk.alloc)) hgs) (by omega) ?_; intro gu cu wu hU2 hG2; have HU2 := hid hU2; have HG2 := hid hG2; clear hU2 hG2))
        obtain ⟨L, rfl⟩ := Int.eq_ofNat_of_zero_le (show 0 ≤ l by omega)
        obtain ⟨R, rfl⟩ := Int.eq_ofNat_of_zero_le (show 0 ≤ r by omega)
        obtain ⟨F, rfl⟩ := Int.eq_ofNat_of_zero_le (show 0 ≤ f by omega)
        have hNB0 : NodeB (((junk (junk (junk wr X1) X2) X3).alloc (.cells #[.bool false, .int .i64 0, .int .i64 F, .int .i64 a', .int .i64 L, .int .i64 R] 25)).alloc (.cells #[] 22)) (wr.heap.size + Jn X1 + Jn X2 + Jn X3) ⟨false, 0, F, a', L, R⟩ := by
          have h1 : NodeB ((junk (junk (junk wr X1) X2) X3).alloc (.cells #[.bool false, .int .i64 0, .int .i64 F, .int .i64 a', .int .i64 L, .int .i64 R] 25)) (junk (junk (junk wr X1) X2) X3).heap.size ⟨false, 0, F, a', L, R⟩ := heap_alloc_new _ _
          rw [junk_size, junk_size, junk_size] at h1
          exact h1.jk ((Jk.refl _).alloc _)
        have hNB := hNB0.grown (g := wr.heap.size + Jn X1 + Jn X2 + Jn X3 + 1) HG2.out (by omega)
        have hOU : OwnU W0.heap.size wu (.slice (some ⟨gu, 0, none⟩) j cu) j ws := by
          have := HU2.out
          rw [Nat.zero_add, List.nil_append] at this
          exact this
        have hJu : Jk W0 wu := Jk.grown (by repeat (with_reducible first | exact HJ.out | apply Jk.junk | apply Jk.alloc)) HG2.out (fun k hk => by
          have e : wr.heap.size + Jn X1 + Jn X2 + Jn X3 + 1 = k := by simpa [Value.ownBlock] using hk
          omega)
        obtain ⟨bn, hbn⟩ : ∃ b, wr.heap.size + Jn X1 + Jn X2 + Jn X3 = b := ⟨_, rfl⟩
        have hW0b : W0.heap.size ≤ bn := by omega
        rw [hbn] at hNB ⊢
        have hbg := hNB.apart hOU
        have hbs := hNB.lt
        have hgus : W0.heap.size ≤ gu ∧ gu < wu.heap.size := World.ownsRow.lt hOU.2 gu rfl
        obtain ⟨hgu1, hgu2⟩ := hgus
        have HNB := hid hNB
        have HOU := hid hOU
        have HJu := hid hJu
        obtain ⟨_, _, ecu, hcu1, hcu2, _⟩ := row_form hOU.2
        cases ecu
        unfold maxLen at hcu2
        obtain ⟨k0, k1, k2, k3, k4, k5⟩ := hNB.cells
        have kf4 := hNB.frozen 4
        have kf5 := hNB.frozen 5
        have kf2 := hNB.frozen 2
        simp only at k0 k1 k2 k3 k4 k5
        have HBd := hid HI'.out.bd
        have hJ3 : K + 3 ≤ j := by omega
        have HTL : Hid (∀ W, AnsW W 12 #[.slice none 0 0] (.slice none 0 0)) := fun W => leaves_no (ws := []) ⟨rfl, Nat.le_refl _, by unfold maxLen; omega, fun i hi => by omega, fun h => by omega⟩ (fun h => by have := h.full; simp at this)
        have HTD : Hid (∀ W, AnsW W 13 #[.slice none 0 0] (.int .i64 0)) := fun W => depth_no (ws := []) ⟨rfl, Nat.le_refl _, by unfold maxLen; omega, fun i hi => by omega, fun h => by omega⟩ (fun h => by have := h.full; simp at this)
        have hTc : T = 0 ∨ T = 1 ∨ T = 2 ∨ T = 3 ∨ T = 4 ∨ T = 5 ∨ T = 6 := by omega
        clear hNB0 hNB hOU hJu hbn HG2 HU2 HI' HO HJ HRt HWa HU e1 e2 hgs HAt hgi1 hgi2 hgx1 hgx2 hgy1 hgy2 hRR bT HJc hform hcv1 hcv2 Y0 Y1 m1 m2
        rcases hTc with rfl | rfl | rfl | rfl | rfl | rfl | rfl
        · -- 0
          have HZN : Hid (NodeB (wu.setCell ⟨bn, 4, none⟩ (.int .i64 (R : Int))) bn ⟨false, 0, (F : Int), a', (R : Int), (R : Int)⟩) := HNB.out.setL _
          have HZO : Hid (OwnU W0.heap.size (wu.setCell ⟨bn, 4, none⟩ (.int .i64 (R : Int))) (.slice (some ⟨gu, 0, none⟩) (j) cu) (j) (ws)) := HOU.out.other (Ne.symm hbg) _ _
          have HNo : Hid (¬ TreeP ((ws).set K (Nd.pack ⟨false, 0, (F : Int), a', (R : Int), (R : Int)⟩)) (4)) := no_tree_at (k := K) (by rw [List.length_set, hlen]; omega) (wd_set_self _ _ _ (by rw [hlen]; omega)) (by rintro (h | h); cases h; exact absurd rfl h.2.2.2.2.2)
          have HBw : Hid (∀ i, i < j → 0 ≤ wd (ws) i ∧ wd (ws) i ≤ 18446744073709551615) := HBd.out
          have HJz : Hid (Jk W0 (wu.setCell ⟨bn, 4, none⟩ (.int .i64 (R : Int)))) := HJu.out.set (p := ⟨bn, 4, none⟩) hW0b _
          have hKn : K < j := by omega
          have hr31 : ((R : Int) : Int) < 31 := by omega
          have hr31' : ¬ (31 : Int) ≤ ((R : Int) : Int) := by omega
          have HPk2 := hid (rpack_ans ⟨false, 0, (F : Int), a', (R : Int), (R : Int)⟩)
          have HPb := hid (Nd.pack_bd ⟨false, 0, (F : Int), a', (R : Int), (R : Int)⟩)
          obtain ⟨y, hy⟩ : ∃ y, Nd.pack ⟨false, 0, (F : Int), a', (R : Int), (R : Int)⟩ = y := ⟨_, rfl⟩
          rw [hy] at HPk2 HNo HPb
          obtain ⟨⟨u, t0⟩, t1, t2⟩ := HZO.out.store hKn y
          obtain ⟨z0, z1, z2, z3, z4, z5⟩ := HZN.out.cells
          simp only at z0 z1 z2 z3 z4 z5
          obtain ⟨_, _, _, _, _, v5⟩ := (HZN.out.other hbg K (.int .u64 y)).cells
          simp only at v5
          have HIs := hid (t2.isW (fun i hi => by
            by_cases e : K = i
            · subst e
              rw [wd_set_self _ _ _ (by rw [HZO.out.1]; exact hKn)]
              exact HPb.out
            · rw [wd_set_ne _ _ _ _ e]
              exact HBw.out i hi))
          have HR2 := hid (right_tree HIs.out (b := false) (dim := 4) (by simp [HNo.out]))
          have HJz2 := hid (HJz.out.set (p := ⟨gu, K, none⟩) (show W0.heap.size ≤ gu by omega) (.int .u64 y))
          have hmin : (K : Int) ≤ ((j : Nat) : Int) - 1 := by omega
          have hmin2 : ¬ (((j : Nat) : Int) - 1 < (K : Int)) := by omega
          have hKn2 : (K : Int) < ((j : Nat) : Int) := by omega
          have hszz : gu < (wu.setCell ⟨bn, 4, none⟩ (.int .i64 (R : Int))).heap.size := by simpa using hgu2
          have hszb : bn < (wu.setCell ⟨bn, 4, none⟩ (.int .i64 (R : Int))).heap.size := HZN.out.lt
          clear t2 hy HZO HBw HJz HBd
          go_wp2_with (first | (go_at_call 16; refine (HWt.out.on _).mono ?_; rintro e w3 ⟨rfl, X5, rfl⟩; have hgj : gu < wu.heap.size + Jn X5 := (by omega); have hbj : bn < wu.heap.size + Jn X5 := (by omega)) | (go_at_call 8; refine (Ans.on (by with_reducible first | exact HPk2.out) _).mono ?_; rintro e w3 ⟨rfl, X6, rfl⟩) | (go_at_call 9; refine (AnsW.on (by with_reducible exact HR2.out) _ (by repeat (with_reducible first | exact Jk.refl _ | apply Jk.junk | apply Jk.alloc))).mono ?_; rintro e w3 ⟨rfl, X7, rfl⟩) | (go_at_call 12; refine ((HTL.out _).on _ (Jk.refl _)).mono ?_; rintro e w3 ⟨rfl, X8, rfl⟩) | (go_at_call 13; refine ((HTD.out _).on _ (Jk.refl _)).mono ?_; rintro e w3 ⟨rfl, X9, rfl⟩) | (go_at_call 3; refine (HRn.out.on _).mono ?_; rintro e w3 ⟨rfl, X10, rfl⟩))
          go_ret
          refine ⟨rfl, HJ0.out.trans ?_⟩
          repeat (with_reducible first | exact HJz2.out | apply Jk.junk | apply Jk.alloc)
        · -- 1
          have HZN : Hid (NodeB (wu.setCell ⟨bn, 5, none⟩ (.int .i64 (j : Int))) bn ⟨false, 0, (F : Int), a', (L : Int), (j : Int)⟩) := HNB.out.setR _
          have HZO : Hid (OwnU W0.heap.size (wu.setCell ⟨bn, 5, none⟩ (.int .i64 (j : Int))) (.slice (some ⟨gu, 0, none⟩) (j) cu) (j) (ws)) := HOU.out.other (Ne.symm hbg) _ _
          have HNo : Hid (¬ TreeP ((ws).set K (Nd.pack ⟨false, 0, (F : Int), a', (L : Int), (j : Int)⟩)) (4)) := no_tree_at (k := K) (by rw [List.length_set, hlen]; omega) (wd_set_self _ _ _ (by rw [hlen]; omega)) (by rintro (h | h); cases h; have h4 := h.2.2.2.2.1; simp [hlen] at h4)
          have HBw : Hid (∀ i, i < j → 0 ≤ wd (ws) i ∧ wd (ws) i ≤ 18446744073709551615) := HBd.out
          have HJz : Hid (Jk W0 (wu.setCell ⟨bn, 5, none⟩ (.int .i64 (j : Int)))) := HJu.out.set (p := ⟨bn, 5, none⟩) hW0b _
          have hKn : K < j := by omega
          have hr31 : ((j : Int) : Int) < 31 := by omega
          have hr31' : ¬ (31 : Int) ≤ ((j : Int) : Int) := by omega
          have HPk2 := hid (rpack_ans ⟨false, 0, (F : Int), a', (L : Int), (j : Int)⟩)
          have HPb := hid (Nd.pack_bd ⟨false, 0, (F : Int), a', (L : Int), (j : Int)⟩)
          obtain ⟨y, hy⟩ : ∃ y, Nd.pack ⟨false, 0, (F : Int), a', (L : Int), (j : Int)⟩ = y := ⟨_, rfl⟩
          rw [hy] at HPk2 HNo HPb
          obtain ⟨⟨u, t0⟩, t1, t2⟩ := HZO.out.store hKn y
          obtain ⟨z0, z1, z2, z3, z4, z5⟩ := HZN.out.cells
          simp only at z0 z1 z2 z3 z4 z5
          obtain ⟨_, _, _, _, _, v5⟩ := (HZN.out.other hbg K (.int .u64 y)).cells
          simp only at v5
          have HIs := hid (t2.isW (fun i hi => by
            by_cases e : K = i
            · subst e
              rw [wd_set_self _ _ _ (by rw [HZO.out.1]; exact hKn)]
              exact HPb.out
            · rw [wd_set_ne _ _ _ _ e]
              exact HBw.out i hi))
          have HR2 := hid (right_tree HIs.out (b := false) (dim := 4) (by simp [HNo.out]))
          have HJz2 := hid (HJz.out.set (p := ⟨gu, K, none⟩) (show W0.heap.size ≤ gu by omega) (.int .u64 y))
          have hmin : (K : Int) ≤ ((j : Nat) : Int) - 1 := by omega
          have hmin2 : ¬ (((j : Nat) : Int) - 1 < (K : Int)) := by omega
          have hKn2 : (K : Int) < ((j : Nat) : Int) := by omega
          have hszz : gu < (wu.setCell ⟨bn, 5, none⟩ (.int .i64 (j : Int))).heap.size := by simpa using hgu2
          have hszb : bn < (wu.setCell ⟨bn, 5, none⟩ (.int .i64 (j : Int))).heap.size := HZN.out.lt
          clear t2 hy HZO HBw HJz HBd
          go_wp2_with (first | (go_at_call 16; refine (HWt.out.on _).mono ?_; rintro e w3 ⟨rfl, X5, rfl⟩; have hgj : gu < wu.heap.size + Jn X5 := (by omega); have hbj : bn < wu.heap.size + Jn X5 := (by omega)) | (go_at_call 8; refine (Ans.on (by with_reducible first | exact HPk2.out) _).mono ?_; rintro e w3 ⟨rfl, X6, rfl⟩) | (go_at_call 9; refine (AnsW.on (by with_reducible exact HR2.out) _ (by repeat (with_reducible first | exact Jk.refl _ | apply Jk.junk | apply Jk.alloc))).mono ?_; rintro e w3 ⟨rfl, X7, rfl⟩) | (go_at_call 12; refine ((HTL.out _).on _ (Jk.refl _)).mono ?_; rintro e w3 ⟨rfl, X8, rfl⟩) | (go_at_call 13; refine ((HTD.out _).on _ (Jk.refl _)).mono ?_; rintro e w3 ⟨rfl, X9, rfl⟩) | (go_at_call 3; refine (HRn.out.on _).mono ?_; rintro e w3 ⟨rfl, X10, rfl⟩))
          go_ret
          refine ⟨rfl, HJ0.out.trans ?_⟩
          repeat (with_reducible first | exact HJz2.out | apply Jk.junk | apply Jk.alloc)
        · -- 2
          rcases Nat.eq_zero_or_pos K with hk0 | hk0
          · subst hk0
            obtain ⟨_, _, _, _, _, m5⟩ := (HNB.out.setL (1 : Int)).cells
            have mf5 := (HNB.out.setL (1 : Int)).frozen 5
            simp only at m5
            have HZN : Hid (NodeB ((wu.setCell ⟨bn, 4, none⟩ (.int .i64 (1 : Int))).setCell ⟨bn, 5, none⟩ (.int .i64 (1 : Int))) bn ⟨false, 0, (F : Int), a', (1 : Int), (1 : Int)⟩) := (HNB.out.setL _).setR _
            have HZO : Hid (OwnU W0.heap.size ((wu.setCell ⟨bn, 4, none⟩ (.int .i64 (1 : Int))).setCell ⟨bn, 5, none⟩ (.int .i64 (1 : Int))) (.slice (some ⟨gu, 0, none⟩) (j) cu) (j) (ws)) := (HOU.out.other (Ne.symm hbg) _ _).other (Ne.symm hbg) _ _
            have HNo : Hid (¬ TreeP ((ws).set 0 (Nd.pack ⟨false, 0, (F : Int), a', (1 : Int), (1 : Int)⟩)) (4)) := no_tree_at (k := 0) (by rw [List.length_set, hlen]; omega) (wd_set_self _ _ _ (by rw [hlen]; omega)) (by rintro (h | h); cases h; exact absurd rfl h.2.2.2.2.2)
            have HBw : Hid (∀ i, i < j → 0 ≤ wd (ws) i ∧ wd (ws) i ≤ 18446744073709551615) := HBd.out
            have HJz : Hid (Jk W0 ((wu.setCell ⟨bn, 4, none⟩ (.int .i64 (1 : Int))).setCell ⟨bn, 5, none⟩ (.int .i64 (1 : Int)))) := (HJu.out.set (p := ⟨bn, 4, none⟩) hW0b _).set (p := ⟨bn, 5, none⟩) hW0b _
            have hKn : 0 < j := by omega
            have hr31 : ((1 : Int) : Int) < 31 := by omega
            have hr31' : ¬ (31 : Int) ≤ ((1 : Int) : Int) := by omega
            have HPk2 := hid (rpack_ans ⟨false, 0, (F : Int), a', (1 : Int), (1 : Int)⟩)
            have HPb := hid (Nd.pack_bd ⟨false, 0, (F : Int), a', (1 : Int), (1 : Int)⟩)
            obtain ⟨y, hy⟩ : ∃ y, Nd.pack ⟨false, 0, (F : Int), a', (1 : Int), (1 : Int)⟩ = y := ⟨_, rfl⟩
            rw [hy] at HPk2 HNo HPb
            obtain ⟨⟨u, t0⟩, t1, t2⟩ := HZO.out.store hKn y
            obtain ⟨z0, z1, z2, z3, z4, z5⟩ := HZN.out.cells
            simp only at z0 z1 z2 z3 z4 z5
            obtain ⟨_, _, _, _, _, v5⟩ := (HZN.out.other hbg 0 (.int .u64 y)).cells
            simp only at v5
            have HIs := hid (t2.isW (fun i hi => by
              by_cases e : 0 = i
              · subst e
                rw [wd_set_self _ _ _ (by rw [HZO.out.1]; exact hKn)]
                exact HPb.out
              · rw [wd_set_ne _ _ _ _ e]
                exact HBw.out i hi))
            have HR2 := hid (right_tree HIs.out (b := false) (dim := 4) (by simp [HNo.out]))
            have HJz2 := hid (HJz.out.set (p := ⟨gu, 0, none⟩) (show W0.heap.size ≤ gu by omega) (.int .u64 y))
            have hmin : (0 : Int) ≤ ((j : Nat) : Int) - 1 := by omega
            have hmin2 : ¬ (((j : Nat) : Int) - 1 < (0 : Int)) := by omega
            have hKn2 : (0 : Int) < ((j : Nat) : Int) := by omega
            have hszz : gu < ((wu.setCell ⟨bn, 4, none⟩ (.int .i64 (1 : Int))).setCell ⟨bn, 5, none⟩ (.int .i64 (1 : Int))).heap.size := by simpa using hgu2
            have hszb : bn < ((wu.setCell ⟨bn, 4, none⟩ (.int .i64 (1 : Int))).setCell ⟨bn, 5, none⟩ (.int .i64 (1 : Int))).heap.size := HZN.out.lt
            clear t2 hy HZO HBw HJz HBd
            go_wp2_with (first | (go_at_call 16; refine (HWt.out.on _).mono ?_; rintro e w3 ⟨rfl, X5, rfl⟩; have hgj : gu < wu.heap.size + Jn X5 := (by omega); have hbj : bn < wu.heap.size + Jn X5 := (by omega)) | (go_at_call 8; refine (Ans.on (by with_reducible first | exact HPk2.out) _).mono ?_; rintro e w3 ⟨rfl, X6, rfl⟩) | (go_at_call 9; refine (AnsW.on (by with_reducible exact HR2.out) _ (by repeat (with_reducible first | exact Jk.refl _ | apply Jk.junk | apply Jk.alloc))).mono ?_; rintro e w3 ⟨rfl, X7, rfl⟩) | (go_at_call 12; refine ((HTL.out _).on _ (Jk.refl _)).mono ?_; rintro e w3 ⟨rfl, X8, rfl⟩) | (go_at_call 13; refine ((HTD.out _).on _ (Jk.refl _)).mono ?_; rintro e w3 ⟨rfl, X9, rfl⟩) | (go_at_call 3; refine (HRn.out.on _).mono ?_; rintro e w3 ⟨rfl, X10, rfl⟩))
            go_ret
            refine ⟨rfl, HJ0.out.trans ?_⟩
            repeat (with_reducible first | exact HJz2.out | apply Jk.junk | apply Jk.alloc)
          · have hk1 : (1 : Int) ≤ (K : Int) := by omega
            have hk2 : ¬ (K : Int) < 1 := by omega
            have hk3 : ¬ (K : Int) ≤ 0 := by omega
            obtain ⟨_, _, _, _, _, m5⟩ := (HNB.out.setL (K : Int)).cells
            have mf5 := (HNB.out.setL (K : Int)).frozen 5
            simp only at m5
            have HZN : Hid (NodeB ((wu.setCell ⟨bn, 4, none⟩ (.int .i64 (K : Int))).setCell ⟨bn, 5, none⟩ (.int .i64 (K : Int))) bn ⟨false, 0, (F : Int), a', (K : Int), (K : Int)⟩) := (HNB.out.setL _).setR _
            have HZO : Hid (OwnU W0.heap.size ((wu.setCell ⟨bn, 4, none⟩ (.int .i64 (K : Int))).setCell ⟨bn, 5, none⟩ (.int .i64 (K : Int))) (.slice (some ⟨gu, 0, none⟩) (j) cu) (j) (ws)) := (HOU.out.other (Ne.symm hbg) _ _).other (Ne.symm hbg) _ _
            have HNo : Hid (¬ TreeP ((ws).set K (Nd.pack ⟨false, 0, (F : Int), a', (K : Int), (K : Int)⟩)) (4)) := no_tree_at (k := K) (by rw [List.length_set, hlen]; omega) (wd_set_self _ _ _ (by rw [hlen]; omega)) (by rintro (h | h); cases h; exact absurd rfl h.2.2.2.2.2)
            have HBw : Hid (∀ i, i < j → 0 ≤ wd (ws) i ∧ wd (ws) i ≤ 18446744073709551615) := HBd.out
            have HJz : Hid (Jk W0 ((wu.setCell ⟨bn, 4, none⟩ (.int .i64 (K : Int))).setCell ⟨bn, 5, none⟩ (.int .i64 (K : Int)))) := (HJu.out.set (p := ⟨bn, 4, none⟩) hW0b _).set (p := ⟨bn, 5, none⟩) hW0b _
            have hKn : K < j := by omega
            have hr31 : ((K : Int) : Int) < 31 := by omega
            have hr31' : ¬ (31 : Int) ≤ ((K : Int) : Int) := by omega
            have HPk2 := hid (rpack_ans ⟨false, 0, (F : Int), a', (K : Int), (K : Int)⟩)
            have HPb := hid (Nd.pack_bd ⟨false, 0, (F : Int), a', (K : Int), (K : Int)⟩)
            obtain ⟨y, hy⟩ : ∃ y, Nd.pack ⟨false, 0, (F : Int), a', (K : Int), (K : Int)⟩ = y := ⟨_, rfl⟩
            rw [hy] at HPk2 HNo HPb
            obtain ⟨⟨u, t0⟩, t1, t2⟩ := HZO.out.store hKn y
            obtain ⟨z0, z1, z2, z3, z4, z5⟩ := HZN.out.cells
            simp only at z0 z1 z2 z3 z4 z5
            obtain ⟨_, _, _, _, _, v5⟩ := (HZN.out.other hbg K (.int .u64 y)).cells
            simp only at v5
            have HIs := hid (t2.isW (fun i hi => by
              by_cases e : K = i
              · subst e
                rw [wd_set_self _ _ _ (by rw [HZO.out.1]; exact hKn)]
                exact HPb.out
              · rw [wd_set_ne _ _ _ _ e]
                exact HBw.out i hi))
            have HR2 := hid (right_tree HIs.out (b := false) (dim := 4) (by simp [HNo.out]))
            have HJz2 := hid (HJz.out.set (p := ⟨gu, K, none⟩) (show W0.heap.size ≤ gu by omega) (.int .u64 y))
            have hmin : (K : Int) ≤ ((j : Nat) : Int) - 1 := by omega
            have hmin2 : ¬ (((j : Nat) : Int) - 1 < (K : Int)) := by omega
            have hKn2 : (K : Int) < ((j : Nat) : Int) := by omega
            have hszz : gu < ((wu.setCell ⟨bn, 4, none⟩ (.int .i64 (K : Int))).setCell ⟨bn, 5, none⟩ (.int .i64 (K : Int))).heap.size := by simpa using hgu2
            have hszb : bn < ((wu.setCell ⟨bn, 4, none⟩ (.int .i64 (K : Int))).setCell ⟨bn, 5, none⟩ (.int .i64 (K : Int))).heap.size := HZN.out.lt
            clear t2 hy HZO HBw HJz HBd
            go_wp2_with (first | (go_at_call 16; refine (HWt.out.on _).mono ?_; rintro e w3 ⟨rfl, X5, rfl⟩; have hgj : gu < wu.heap.size + Jn X5 := (by omega); have hbj : bn < wu.heap.size + Jn X5 := (by omega)) | (go_at_call 8; refine (Ans.on (by with_reducible first | exact HPk2.out) _).mono ?_; rintro e w3 ⟨rfl, X6, rfl⟩) | (go_at_call 9; refine (AnsW.on (by with_reducible exact HR2.out) _ (by repeat (with_reducible first | exact Jk.refl _ | apply Jk.junk | apply Jk.alloc))).mono ?_; rintro e w3 ⟨rfl, X7, rfl⟩) | (go_at_call 12; refine ((HTL.out _).on _ (Jk.refl _)).mono ?_; rintro e w3 ⟨rfl, X8, rfl⟩) | (go_at_call 13; refine ((HTD.out _).on _ (Jk.refl _)).mono ?_; rintro e w3 ⟨rfl, X9, rfl⟩) | (go_at_call 3; refine (HRn.out.on _).mono ?_; rintro e w3 ⟨rfl, X10, rfl⟩))
            go_ret
            refine ⟨rfl, HJ0.out.trans ?_⟩
            repeat (with_reducible first | exact HJz2.out | apply Jk.junk | apply Jk.alloc)
        · -- 3
          have HP0 := hid (rpack_ans ⟨true, 0, 0, 0, 0, 0⟩)
          have HPb0 := hid (Nd.pack_bd ⟨true, 0, 0, 0, 0, 0⟩)
          obtain ⟨y0, hy0⟩ : ∃ y, Nd.pack ⟨true, 0, 0, 0, 0, 0⟩ = y := ⟨_, rfl⟩
          rw [hy0] at HP0 HPb0
          clear hy0
          go_upto_region 31 with (first | (go_at_call 16; refine (HWt.out.on _).mono ?_; rintro e w3 ⟨rfl, X5, rfl⟩) | (go_at_call 8; refine (HP0.out.on _).mono ?_; rintro e w3 ⟨rfl, X6, rfl⟩) | (at_builtin; refine list_appU rfl _ _ rfl (HOU.out.jk ((((Jk.refl wu).junk X5).junk X6).alloc _)) (by simp only [World.size_alloc, junk_size]; omega) rfl _ 0 1 _ [y0] rfl (by decide) rfl (fun i hi => new_cells _ #[.int .u64 y0] _ _ (by simp only [junk_size]) (0 + i) _ (by simp at hi; subst hi; rfl)) (by omega) ?_; intro gx cx wx hUx hGx; have HUx := hid hUx; have HGx := hid hGx; clear hUx hGx))
          have HNx := hid ((HNB.out.jk ((((Jk.refl wu).junk X5).junk X6).alloc (.cells #[.int .u64 y0] 22))).grown HGx.out hbg)
          have hbgx := HNx.out.apart HUx.out
          have hgxs : W0.heap.size ≤ gx ∧ gx < wx.heap.size := World.ownsRow.lt HUx.out.2 gx rfl
          have HJx : Hid (Jk W0 wx) := Jk.grown (((HJu.out.junk X5).junk X6).alloc _) HGx.out (fun k hk => by cases hk; exact hgu1)
          have hcx : j + 1 ≤ cx := (by obtain ⟨_, _, ec, h1, _⟩ := row_form HUx.out.2; cases ec; exact h1)
          have HZN : Hid (NodeB (wx) bn ⟨false, 0, (F : Int), a', (L : Int), (R : Int)⟩) := HNx.out
          have HZO : Hid (OwnU W0.heap.size (wx) (.slice (some ⟨gx, 0, none⟩) (j + 1) cx) (j + 1) (ws ++ [y0])) := HUx.out
          have HNo : Hid (¬ TreeP ((ws ++ [y0]).set K (Nd.pack ⟨false, 0, (F : Int), a', (L : Int), (R : Int)⟩)) (4)) := by show ¬ _; rw [set_same _ _ _ (by rw [List.length_append, hlen]; omega) (by rw [wd_append_left _ _ _ (by rw [hlen]; omega)]; exact HPk.out.symm)]; exact HT.out.lone y0
          have HBw : Hid (∀ i, i < j + 1 → 0 ≤ wd (ws ++ [y0]) i ∧ wd (ws ++ [y0]) i ≤ 18446744073709551615) := fun i hi => (by by_cases e : i < j; rw [wd_append_left _ _ _ (by rw [hlen]; exact e)]; exact HBd.out i e; rw [wd_append_right _ _ _ (by rw [hlen]; omega), show i - ws.length = 0 by rw [hlen]; omega]; exact HPb0.out)
          have HJz : Hid (Jk W0 (wx)) := HJx.out
          have hKn : K < j + 1 := by omega
          have hr31 : ((R : Int) : Int) < 31 := by omega
          have hr31' : ¬ (31 : Int) ≤ ((R : Int) : Int) := by omega
          have HPk2 := hid (rpack_ans ⟨false, 0, (F : Int), a', (L : Int), (R : Int)⟩)
          have HPb := hid (Nd.pack_bd ⟨false, 0, (F : Int), a', (L : Int), (R : Int)⟩)
          obtain ⟨y, hy⟩ : ∃ y, Nd.pack ⟨false, 0, (F : Int), a', (L : Int), (R : Int)⟩ = y := ⟨_, rfl⟩
          rw [hy] at HPk2 HNo HPb
          obtain ⟨⟨u, t0⟩, t1, t2⟩ := HZO.out.store hKn y
          obtain ⟨z0, z1, z2, z3, z4, z5⟩ := HZN.out.cells
          simp only at z0 z1 z2 z3 z4 z5
          obtain ⟨_, _, _, _, _, v5⟩ := (HZN.out.other hbgx K (.int .u64 y)).cells
          simp only at v5
          have HIs := hid (t2.isW (fun i hi => by
            by_cases e : K = i
            · subst e
              rw [wd_set_self _ _ _ (by rw [HZO.out.1]; exact hKn)]
              exact HPb.out
            · rw [wd_set_ne _ _ _ _ e]
              exact HBw.out i hi))
          have HR2 := hid (right_tree HIs.out (b := false) (dim := 4) (by simp [HNo.out]))
          have HJz2 := hid (HJz.out.set (p := ⟨gx, K, none⟩) (show W0.heap.size ≤ gx by omega) (.int .u64 y))
          have hmin : (K : Int) ≤ ((j + 1 : Nat) : Int) - 1 := by omega
          have hmin2 : ¬ (((j + 1 : Nat) : Int) - 1 < (K : Int)) := by omega
          have hKn2 : (K : Int) < ((j + 1 : Nat) : Int) := by omega
          have hszz : gx < (wx).heap.size := hgxs.2
          have hszb : bn < (wx).heap.size := HZN.out.lt
          clear t2 hy HZO HBw HJz HBd
          clear HP0
          go_wp2_with (first | (go_at_call 16; refine (HWt.out.on _).mono ?_; rintro e w3 ⟨rfl, X5, rfl⟩; have hgj : gu < wu.heap.size + Jn X5 := (by omega); have hbj : bn < wu.heap.size + Jn X5 := (by omega)) | (go_at_call 8; refine (Ans.on (by with_reducible first | exact HPk2.out) _).mono ?_; rintro e w3 ⟨rfl, X6, rfl⟩) | (go_at_call 9; refine (AnsW.on (by with_reducible exact HR2.out) _ (by repeat (with_reducible first | exact Jk.refl _ | apply Jk.junk | apply Jk.alloc))).mono ?_; rintro e w3 ⟨rfl, X7, rfl⟩) | (go_at_call 12; refine ((HTL.out _).on _ (Jk.refl _)).mono ?_; rintro e w3 ⟨rfl, X8, rfl⟩) | (go_at_call 13; refine ((HTD.out _).on _ (Jk.refl _)).mono ?_; rintro e w3 ⟨rfl, X9, rfl⟩) | (go_at_call 3; refine (HRn.out.on _).mono ?_; rintro e w3 ⟨rfl, X10, rfl⟩))
          go_ret
          refine ⟨rfl, HJ0.out.trans ?_⟩
          repeat (with_reducible first | exact HJz2.out | apply Jk.junk | apply Jk.alloc)
        · -- 4
          have HZN : Hid (NodeB (wu) bn ⟨false, 0, (F : Int), a', (L : Int), (R : Int)⟩) := HNB.out
          have HZO : Hid (OwnU W0.heap.size (wu) (.slice (some ⟨gu, 0, none⟩) (j) cu) (j) (ws)) := HOU.out
          have HNo : Hid (¬ TreeP ((ws).set K (Nd.pack ⟨false, 0, (F : Int), a', (L : Int), (R : Int)⟩)) ((F : Int))) := by show ¬ _; rw [set_same _ _ _ (by rw [hlen]; omega) HPk.out.symm]; exact no_tree_at (k := K) (by rw [hlen]; omega) HPk.out.symm (by rintro (h | h); cases h; have h4 := h.1; simp at h4)
          have HBw : Hid (∀ i, i < j → 0 ≤ wd (ws) i ∧ wd (ws) i ≤ 18446744073709551615) := HBd.out
          have HJz : Hid (Jk W0 (wu)) := HJu.out
          have hKn : K < j := by omega
          have hr31 : ((R : Int) : Int) < 31 := by omega
          have hr31' : ¬ (31 : Int) ≤ ((R : Int) : Int) := by omega
          have HPk2 := hid (rpack_ans ⟨false, 0, (F : Int), a', (L : Int), (R : Int)⟩)
          have HPb := hid (Nd.pack_bd ⟨false, 0, (F : Int), a', (L : Int), (R : Int)⟩)
          obtain ⟨y, hy⟩ : ∃ y, Nd.pack ⟨false, 0, (F : Int), a', (L : Int), (R : Int)⟩ = y := ⟨_, rfl⟩
          rw [hy] at HPk2 HNo HPb
          obtain ⟨⟨u, t0⟩, t1, t2⟩ := HZO.out.store hKn y
          obtain ⟨z0, z1, z2, z3, z4, z5⟩ := HZN.out.cells
          simp only at z0 z1 z2 z3 z4 z5
          obtain ⟨_, _, _, _, _, v5⟩ := (HZN.out.other hbg K (.int .u64 y)).cells
          simp only at v5
          have HIs := hid (t2.isW (fun i hi => by
            by_cases e : K = i
            · subst e
              rw [wd_set_self _ _ _ (by rw [HZO.out.1]; exact hKn)]
              exact HPb.out
            · rw [wd_set_ne _ _ _ _ e]
              exact HBw.out i hi))
          have HR2 := hid (right_tree HIs.out (b := false) (dim := (F : Int)) (by simp [HNo.out]))
          have HJz2 := hid (HJz.out.set (p := ⟨gu, K, none⟩) (show W0.heap.size ≤ gu by omega) (.int .u64 y))
          have hmin : (K : Int) ≤ ((j : Nat) : Int) - 1 := by omega
          have hmin2 : ¬ (((j : Nat) : Int) - 1 < (K : Int)) := by omega
          have hKn2 : (K : Int) < ((j : Nat) : Int) := by omega
          have hszz : gu < (wu).heap.size := hgu2
          have hszb : bn < (wu).heap.size := HZN.out.lt
          clear t2 hy HZO HBw HJz HBd
          go_wp2_with (first | (go_at_call 16; refine (HWt.out.on _).mono ?_; rintro e w3 ⟨rfl, X5, rfl⟩; have hgj : gu < wu.heap.size + Jn X5 := (by omega); have hbj : bn < wu.heap.size + Jn X5 := (by omega)) | (go_at_call 8; refine (Ans.on (by with_reducible first | exact HPk2.out) _).mono ?_; rintro e w3 ⟨rfl, X6, rfl⟩) | (go_at_call 9; refine (AnsW.on (by with_reducible exact HR2.out) _ (by repeat (with_reducible first | exact Jk.refl _ | apply Jk.junk | apply Jk.alloc))).mono ?_; rintro e w3 ⟨rfl, X7, rfl⟩) | (go_at_call 12; refine ((HTL.out _).on _ (Jk.refl _)).mono ?_; rintro e w3 ⟨rfl, X8, rfl⟩) | (go_at_call 13; refine ((HTD.out _).on _ (Jk.refl _)).mono ?_; rintro e w3 ⟨rfl, X9, rfl⟩) | (go_at_call 3; refine (HRn.out.on _).mono ?_; rintro e w3 ⟨rfl, X10, rfl⟩))
          go_ret
          refine ⟨rfl, HJ0.out.trans ?_⟩
          repeat (with_reducible first | exact HJz2.out | apply Jk.junk | apply Jk.alloc)
        · -- 5
          obtain ⟨j', rfl⟩ : ∃ j', j = j' + 1 := ⟨j - 1, by omega⟩
          have j0 : (0 : Int) ≤ (j' : Int) := by omega
          have j1 : (j' : Int) ≤ (cu : Int) := by omega
          have j2 : (j' : Int) < (j' : Int) + 1 := by omega
          have HZN : Hid (NodeB (wu) bn ⟨false, 0, (F : Int), a', (L : Int), (R : Int)⟩) := HNB.out
          have HZO : Hid (OwnU W0.heap.size (wu) (.slice (some ⟨gu, 0, none⟩) (j') cu) (j') (ws.take j')) := HOU.out.shorter (by omega)
          have HNo : Hid (¬ TreeP ((ws.take j').set K (Nd.pack ⟨false, 0, (F : Int), a', (L : Int), (R : Int)⟩)) (4)) := by show ¬ _; rw [set_same _ _ _ (by rw [List.length_take, hlen]; omega) (by rw [wd_take _ _ _ (by omega)]; exact HPk.out.symm)]; have := HT.out.shorn (dim' := 4) (by rw [hlen]; omega); rw [hlen, Nat.add_sub_cancel] at this; exact this
          have HBw : Hid (∀ i, i < j' → 0 ≤ wd (ws.take j') i ∧ wd (ws.take j') i ≤ 18446744073709551615) := fun i hi => (by rw [wd_take _ _ _ hi]; exact HBd.out i (by omega))
          have HJz : Hid (Jk W0 (wu)) := HJu.out
          have hKn : K < j' := by omega
          have hr31 : ((R : Int) : Int) < 31 := by omega
          have hr31' : ¬ (31 : Int) ≤ ((R : Int) : Int) := by omega
          have HPk2 := hid (rpack_ans ⟨false, 0, (F : Int), a', (L : Int), (R : Int)⟩)
          have HPb := hid (Nd.pack_bd ⟨false, 0, (F : Int), a', (L : Int), (R : Int)⟩)
          obtain ⟨y, hy⟩ : ∃ y, Nd.pack ⟨false, 0, (F : Int), a', (L : Int), (R : Int)⟩ = y := ⟨_, rfl⟩
          rw [hy] at HPk2 HNo HPb
          obtain ⟨⟨u, t0⟩, t1, t2⟩ := HZO.out.store hKn y
          obtain ⟨z0, z1, z2, z3, z4, z5⟩ := HZN.out.cells
          simp only at z0 z1 z2 z3 z4 z5
          obtain ⟨_, _, _, _, _, v5⟩ := (HZN.out.other hbg K (.int .u64 y)).cells
          simp only at v5
          have HIs := hid (t2.isW (fun i hi => by
            by_cases e : K = i
            · subst e
              rw [wd_set_self _ _ _ (by rw [HZO.out.1]; exact hKn)]
              exact HPb.out
            · rw [wd_set_ne _ _ _ _ e]
              exact HBw.out i hi))
          have HR2 := hid (right_tree HIs.out (b := false) (dim := 4) (by simp [HNo.out]))
          have HJz2 := hid (HJz.out.set (p := ⟨gu, K, none⟩) (show W0.heap.size ≤ gu by omega) (.int .u64 y))
          have hmin : (K : Int) ≤ ((j' : Nat) : Int) - 1 := by omega
          have hmin2 : ¬ (((j' : Nat) : Int) - 1 < (K : Int)) := by omega
          have hKn2 : (K : Int) < ((j' : Nat) : Int) := by omega
          have hszz : gu < (wu).heap.size := hgu2
          have hszb : bn < (wu).heap.size := HZN.out.lt
          clear t2 hy HZO HBw HJz HBd
          go_wp2_with (first | (go_at_call 16; refine (HWt.out.on _).mono ?_; rintro e w3 ⟨rfl, X5, rfl⟩; have hgj : gu < wu.heap.size + Jn X5 := (by omega); have hbj : bn < wu.heap.size + Jn X5 := (by omega)) | (go_at_call 8; refine (Ans.on (by with_reducible first | exact HPk2.out) _).mono ?_; rintro e w3 ⟨rfl, X6, rfl⟩) | (go_at_call 9; refine (AnsW.on (by with_reducible exact HR2.out) _ (by repeat (with_reducible first | exact Jk.refl _ | apply Jk.junk | apply Jk.alloc))).mono ?_; rintro e w3 ⟨rfl, X7, rfl⟩) | (go_at_call 12; refine ((HTL.out _).on _ (Jk.refl _)).mono ?_; rintro e w3 ⟨rfl, X8, rfl⟩) | (go_at_call 13; refine ((HTD.out _).on _ (Jk.refl _)).mono ?_; rintro e w3 ⟨rfl, X9, rfl⟩) | (go_at_call 3; refine (HRn.out.on _).mono ?_; rintro e w3 ⟨rfl, X10, rfl⟩))
          go_ret
          refine ⟨rfl, HJ0.out.trans ?_⟩
          repeat (with_reducible first | exact HJz2.out | apply Jk.junk | apply Jk.alloc)
        · -- 6
          obtain ⟨j', rfl⟩ : ∃ j', j = j' + 1 := ⟨j - 1, by omega⟩
          have j0 : (0 : Int) ≤ (j' : Int) := by omega
          have j1 : (j' : Int) ≤ (cu : Int) := by omega
          have j2 : (j' : Int) < (j' : Int) + 1 := by omega
          obtain ⟨⟨u6, s0⟩, s1, s2⟩ := HOU.out.store (i := j') (by omega) 0
          have HS2 := hid s2
          clear s2
          have HZN : Hid (NodeB (wu.setCell ⟨gu, j', none⟩ (.int .u64 0)) bn ⟨false, 0, (F : Int), a', (L : Int), (R : Int)⟩) := HNB.out.other hbg _ _
          have HZO : Hid (OwnU W0.heap.size (wu.setCell ⟨gu, j', none⟩ (.int .u64 0)) (.slice (some ⟨gu, 0, none⟩) (j' + 1) cu) (j' + 1) (ws.set j' 0)) := HS2.out
          have HNo : Hid (¬ TreeP ((ws.set j' 0).set K (Nd.pack ⟨false, 0, (F : Int), a', (L : Int), (R : Int)⟩)) (4)) := no_tree_word (k := j') (by rw [List.length_set, List.length_set, hlen]; omega) (by rw [wd_set_ne _ _ _ _ (by omega), wd_set_self _ _ _ (by rw [hlen]; omega)])
          have HBw : Hid (∀ i, i < j' + 1 → 0 ≤ wd (ws.set j' 0) i ∧ wd (ws.set j' 0) i ≤ 18446744073709551615) := fun i hi => (by by_cases e : j' = i; subst e; rw [wd_set_self _ _ _ (by rw [hlen]; omega)]; decide; rw [wd_set_ne _ _ _ _ e]; exact HBd.out i hi)
          have HJz : Hid (Jk W0 (wu.setCell ⟨gu, j', none⟩ (.int .u64 0))) := HJu.out.set (p := ⟨gu, j', none⟩) hgu1 _
          have hKn : K < j' + 1 := by omega
          have hr31 : ((R : Int) : Int) < 31 := by omega
          have hr31' : ¬ (31 : Int) ≤ ((R : Int) : Int) := by omega
          have HPk2 := hid (rpack_ans ⟨false, 0, (F : Int), a', (L : Int), (R : Int)⟩)
          have HPb := hid (Nd.pack_bd ⟨false, 0, (F : Int), a', (L : Int), (R : Int)⟩)
          obtain ⟨y, hy⟩ : ∃ y, Nd.pack ⟨false, 0, (F : Int), a', (L : Int), (R : Int)⟩ = y := ⟨_, rfl⟩
          rw [hy] at HPk2 HNo HPb
          obtain ⟨⟨u, t0⟩, t1, t2⟩ := HZO.out.store hKn y
          obtain ⟨z0, z1, z2, z3, z4, z5⟩ := HZN.out.cells
          simp only at z0 z1 z2 z3 z4 z5
          obtain ⟨_, _, _, _, _, v5⟩ := (HZN.out.other hbg K (.int .u64 y)).cells
          simp only at v5
          have HIs := hid (t2.isW (fun i hi => by
            by_cases e : K = i
            · subst e
              rw [wd_set_self _ _ _ (by rw [HZO.out.1]; exact hKn)]
              exact HPb.out
            · rw [wd_set_ne _ _ _ _ e]
              exact HBw.out i hi))
          have HR2 := hid (right_tree HIs.out (b := false) (dim := 4) (by simp [HNo.out]))
          have HJz2 := hid (HJz.out.set (p := ⟨gu, K, none⟩) (show W0.heap.size ≤ gu by omega) (.int .u64 y))
          have hmin : (K : Int) ≤ ((j' + 1 : Nat) : Int) - 1 := by omega
          have hmin2 : ¬ (((j' + 1 : Nat) : Int) - 1 < (K : Int)) := by omega
          have hKn2 : (K : Int) < ((j' + 1 : Nat) : Int) := by omega
          have hszz : gu < (wu.setCell ⟨gu, j', none⟩ (.int .u64 0)).heap.size := by simpa using hgu2
          have hszb : bn < (wu.setCell ⟨gu, j', none⟩ (.int .u64 0)).heap.size := HZN.out.lt
          clear t2 hy HZO HBw HJz HBd
          go_wp2_with (first | (go_at_call 16; refine (HWt.out.on _).mono ?_; rintro e w3 ⟨rfl, X5, rfl⟩; have hgj : gu < wu.heap.size + Jn X5 := (by omega); have hbj : bn < wu.heap.size + Jn X5 := (by omega)) | (go_at_call 8; refine (Ans.on (by with_reducible first | exact HPk2.out) _).mono ?_; rintro e w3 ⟨rfl, X6, rfl⟩) | (go_at_call 9; refine (AnsW.on (by with_reducible exact HR2.out) _ (by repeat (with_reducible first | exact Jk.refl _ | apply Jk.junk | apply Jk.alloc))).mono ?_; rintro e w3 ⟨rfl, X7, rfl⟩) | (go_at_call 12; refine ((HTL.out _).on _ (Jk.refl _)).mono ?_; rintro e w3 ⟨rfl, X8, rfl⟩) | (go_at_call 13; refine ((HTD.out _).on _ (Jk.refl _)).mono ?_; rintro e w3 ⟨rfl, X9, rfl⟩) | (go_at_call 3; refine (HRn.out.on _).mono ?_; rintro e w3 ⟨rfl, X10, rfl⟩))
          go_ret
          refine ⟨rfl, HJ0.out.trans ?_⟩
          repeat (with_reducible first | exact HJz2.out | apply Jk.junk | apply Jk.alloc)

end Go.Proofs.Ytdhmibjokacfpaa
