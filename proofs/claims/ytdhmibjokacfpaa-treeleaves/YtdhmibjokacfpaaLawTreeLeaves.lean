/- The law TreeLeaves of chapter 7 answers true for any numbers of which a tree is made and any points: each point comes to one of the leaves, in no more steps than the tree is deep; leaves are one more than the others. -/
import Derived.Test.YtdhmibjokacfpaaLawTreeMoves
namespace Go.Proofs.Ytdhmibjokacfpaa
open Go.RowKit M

theorem clamp_is {x lo hi : Int} (h1 : lo ≤ x) (h2 : x ≤ hi) : Ans 23 #[.int .i64 x, .int .i64 lo, .int .i64 hi] (.int .i64 x) := fun w => by
  have e1 : ¬ x < lo := by omega
  have e2 : ¬ hi < x := by omega
  go_enter Try.func23, Try.ntmps23
  go_wp2
  go_ret
  exact ⟨rfl, Jk.refl _⟩
theorem AnsW.mono {w w' : World} {f : Nat} {args : Array Value} {v : Value} (h : AnsW w f args v) (hj : Jk w w') : AnsW w' f args v := fun w1 h1 => h w1 (hj.trans h1)
def inTo (zs : List Int) (j : Nat) : Nat → Bool := fun x => decide ((x : Int) ∈ zs.take j)
theorem inTo_succ {zs : List Int} {j k : Nat} (h : j < zs.length) (hk : wd zs j = k) (x : Nat) : updB (inTo zs j) k true x = inTo zs (j + 1) x := by
  have e : zs.take (j + 1) = zs.take j ++ [(k : Int)] := by
    rw [List.take_add_one, wd_of h, hk]; rfl
  unfold updB inTo
  rw [e]
  by_cases a : x = k
  · subst a; simp
  · rw [if_neg a]
    have : ¬ (x : Int) = (k : Int) := by omega
    simp [this]
theorem IsP.cellAt {w : World} {a : Option Addr} {n c : Nat} {ps : Nat → Int → Int} (h : IsP w a n c ps) {i : Nat} (hi : i < n) : ∃ g o, a = some ⟨g, o, none⟩ ∧ g < w.heap.size ∧ (∀ F : Nat, F < 4 → w.cell? ⟨g, o + i * 4 + F, none⟩ = some (.int .i64 (ps i F))) := by
  obtain ⟨g, o, h1, h2, h3⟩ := h.lies (by omega)
  refine ⟨g, o, h1, h2, fun F hF => ?_⟩
  obtain ⟨c0, c1, c2, c3⟩ := h3 i hi
  have : F = 0 ∨ F = 1 ∨ F = 2 ∨ F = 3 := by omega
  rcases this with rfl | rfl | rfl | rfl
  · exact c0
  · exact c1
  · exact c2
  · exact c3

set_option maxRecDepth 100000 in
set_option maxHeartbeats 4000000 in
theorem treeLeaves_walk (x1 : Seed) (sp : Option Addr) (np cp : Nat) (ps : Nat → Int → Int) (w : World) (wx1 : x1.ok w) (wx2 : IsP w sp np cp ps) :
    Calls Try.prog 5 #[seedV x1, .slice sp np cp] w fun e w' => e = .returned (.bool true) ∧ Jk w w' := by
  have J := rules8
  obtain ⟨q1, q2, q3, q4, q5, q6, q7, q8, q9, r1, r2, r3, r4, r5, r6, r7, r8⟩ := x1
  obtain ⟨W0, hW0⟩ : ∃ W0, w.alloc (.cells #[.int .i64 q1, .slice q2 q3 q4, .slice q6 q7 q8, .slice r1 r2 r3, .slice r5 r6 r7] 37) = W0 := ⟨_, rfl⟩
  have HJ0 : Hid (Jk w W0) := hW0 ▸ (Jk.refl w).alloc _
  have hs1 : w.heap.size < W0.heap.size := by rw [← hW0]; simp
  have hSd : W0.cell? ⟨w.heap.size, 0, none⟩ = some (.int .i64 q1) ∧ W0.cell? ⟨w.heap.size, 1, none⟩ = some (.slice q2 q3 q4) ∧ W0.cell? ⟨w.heap.size, 2, none⟩ = some (.slice q6 q7 q8) ∧ W0.cell? ⟨w.heap.size, 3, none⟩ = some (.slice r1 r2 r3) ∧ W0.cell? ⟨w.heap.size, 4, none⟩ = some (.slice r5 r6 r7) := by
    rw [← hW0]
    exact ⟨World.cell?_alloc_at _ _ _ _ rfl, World.cell?_alloc_at _ _ _ _ rfl, World.cell?_alloc_at _ _ _ _ rfl, World.cell?_alloc_at _ _ _ _ rfl, World.cell?_alloc_at _ _ _ _ rfl⟩
  obtain ⟨g0, g1, g2, g3, g4⟩ := hSd
  have HNd := hid (nodes_any ⟨q1, q2, q3, q4, q5, q6, q7, q8, q9, r1, r2, r3, r4, r5, r6, r7, r8⟩ 4 W0 (wx1.jk HJ0.out) (by decide) (by decide))
  have HPs := hid (wx2.jk HJ0.out)
  have hcp := wx2.cap
  have hmp := wx2.max
  unfold maxLen at hmp
  have hmm := @run_makeMap Try.prog
  show Calls Try.prog 5 #[.agg #[.int .i64 q1, .slice q2 q3 q4, .slice q6 q7 q8, .slice r1 r2 r3, .slice r5 r6 r7], .slice sp np cp] w fun e w' => e = .returned (.bool true) ∧ Jk w w'
  clear wx1 wx2
  go_enter Try.func5, Try.ntmps5
  go_upto_region 2 with (first | (go_at_call 15; refine HNd.out.mono ?_; rintro e wn ⟨gt, n, ct, ws, rfl, hIt, hTt, hnt, hgt, hJt⟩; have HI := hid hIt; have HT := hid hTt; have HJn : Hid (Jk W0 wn) := hJt; clear hIt hTt hgt hJt))
  have hlen := HI.out.len
  have n1 : 1 ≤ n := by rw [← hlen]; exact HT.out.full
  have HSh : Hid (Shape (ndA ws) n 4) := by have := HT.out.shape; rwa [hlen] at this
  obtain ⟨zs, hzs⟩ : ∃ zs, lvs (ndA ws) n = zs := ⟨_, rfl⟩
  obtain ⟨m, hm⟩ : ∃ m, zs.length = m := ⟨_, rfl⟩
  have hcount : 2 * (m : Int) = (n : Int) + 1 := by
    have := HSh.out.leaves n1
    rw [hzs, hm] at this
    exact this
  obtain ⟨deep, hdeep⟩ : ∃ d, lg (ndA ws) n = d := ⟨_, rfl⟩
  have bdeep := lg_bd HSh.out n (Nat.le_refl _)
  rw [hdeep] at bdeep
  have hd1 : ¬ deep < 1 := by omega
  have hd2 : ¬ (n : Int) < deep := by omega
  have HLv : Hid (∀ w1, Jk wn w1 → Calls Try.prog 12 #[.slice (some ⟨gt, 0, none⟩) n ct] w1 fun e w' => ∃ b c X, e = .returned (.slice (some ⟨b, 0, none⟩) m c) ∧ w' = junk w1 X ∧ b < w1.heap.size + Jn X ∧ AtK .i64 (junk w1 X) b 0 zs ∧ m ≤ c ∧ c ≤ maxLen) := by
    intro w1 hj
    refine (leaves_yes (HI.out.jk hj) HT.out).mono ?_
    rintro e w2 ⟨v, m', rfl, hO, X, rfl⟩
    rw [hzs] at hO
    obtain ⟨a, c, rfl, hc1, hc2, h3⟩ := row_form hO.2
    have hm' : m' = m := hO.1.symm.trans hm
    subst hm'
    obtain ⟨b, rfl, _, hb⟩ := h3 (by omega)
    exact ⟨b, c, X, rfl, rfl, by rw [junk_size] at hb; exact hb, hO.at, hc1, hc2⟩
  have HDp : Hid (AnsW wn 13 #[.slice (some ⟨gt, 0, none⟩) n ct] (.int .i64 deep)) := fun w1 hj => depth_yes deep (HI.out.jk hj) HT.out hdeep
  have HRt := hid (right_tree HI.out (b := true) (dim := 4) (by simp [HT.out]))
  have HZ := hid hzs
  have HDe := hid hdeep
  clear hzs hdeep g0 g1 g2 g3 g4 HNd hW0
  go_upto_region 5 with (first | (go_at_call 12; refine (HLv.out _ (Jk.refl _)).mono ?_; rintro e w3 ⟨gv, cv, X1, rfl, rfl, hgv, hA, hcv1, hcv2⟩; have HA := hid hA; clear hA) | (go_at_call 13; refine (HDp.out.on _ (by repeat (with_reducible first | exact Jk.refl _ | apply Jk.junk | apply Jk.alloc))).mono ?_; rintro e w3 ⟨rfl, X2, rfl⟩) | (go_at_call 9; refine (HRt.out.on _ (by repeat (with_reducible first | exact Jk.refl _ | apply Jk.junk | apply Jk.alloc))).mono ?_; rintro e w3 ⟨rfl, X3, rfl⟩))
  obtain ⟨Wz, hWz⟩ : ∃ Wz, junk (junk (junk wn X1) X2) X3 = Wz := ⟨_, rfl⟩
  have hjz : Jk wn Wz := hWz ▸ (((Jk.refl wn).junk X1).junk X2).junk X3
  have HAz : Hid (AtK .i64 Wz gv 0 zs) := hWz ▸ (HA.out.jk (((Jk.refl _).junk X2).junk X3) (by rw [junk_size]; exact hgv))
  have hgvz : gv < Wz.heap.size := by rw [← hWz, junk_size, junk_size, junk_size]; omega
  have HIz := hid (HI.out.jk hjz)
  have HJz := hid (HJn.out.trans hjz)
  simp only [hWz]
  obtain ⟨_, _, heq, hgtz, _⟩ := HIz.out.lies (by omega)
  cases heq
  clear hWz HA hgv hjz HLv HDp HRt HI HJn
  have HMz := hid (MapB.made Wz)
  have HAm := hid (HAz.out.jk ((Jk.refl Wz).alloc (.map #[] 0)) hgvz)
  have HIm := hid (HIz.out.jk ((Jk.refl Wz).alloc (.map #[] 0)))
  have HJm := hid (HJz.out.alloc (.map #[] 0))
  go_upto_region 6 with fail
  obtain ⟨h, hh⟩ : ∃ h, Wz.heap.size = h := ⟨_, rfl⟩
  have hWh : W0.heap.size ≤ h := hh ▸ HJz.out.below.size
  rw [hh] at HMz hgvz hgtz ⊢
  obtain ⟨Wm, hWm⟩ : ∃ Wm, Wz.alloc (.map #[] 0) = Wm := ⟨_, rfl⟩
  rw [hWm] at HMz HAm HIm HJm ⊢
  clear hh hWm HAz HIz HJz hmm
  go_wp2
  go_loopg [52] m (fun k i wr => ∃ j : Nat, j + k = m ∧ i = .int .i64 (j : Int) ∧ MapB wr h j (inTo zs j) ∧ Jk W0 wr ∧ IsW wr (some ⟨gt, 0, none⟩) n ct ws ∧ AtK .i64 wr gv 0 zs ∧ h < wr.heap.size)
  case atStart => exact ⟨0, by omega, rfl, HMz.out.congr (fun q _ => by simp [inTo]), HJm.out, HIm.out, HAm.out, HMz.out.lt⟩
  case round =>
    obtain ⟨j, hj, rfl, hM, hJ, hI, hA, hhs⟩ := hrel
    have HM := hid hM
    have HJ := hid hJ
    have HI := hid hI
    have HA := hid hA
    clear hM hJ hI hA HMz HAm HIm HJm
    by_cases hlt : j < m
    · have hjz : j < zs.length := by omega
      obtain ⟨K, hK1, hK2, hK3⟩ : ∃ K : Nat, K < n ∧ (ndA ws K).leaf = true ∧ wd zs j = K := by
        have := lvs_at (ndA ws) n j (by rw [HZ.out]; exact hjz)
        rw [HZ.out] at this
        exact this
      have e1 : wr.cell? ⟨gv, j, none⟩ = some (.int .i64 (K : Int)) := by
        have := HA.out j hjz
        rwa [Nat.zero_add, hK3] at this
      obtain ⟨_, _, heq, hgs, hat⟩ := HI.out.lies (by omega)
      cases heq
      have e2 : wr.cell? ⟨gt, K, none⟩ = some (.int .u64 (wd ws K)) := by
        have := hat K (by rw [hlen]; exact hK1)
        rwa [Nat.zero_add] at this
      obtain ⟨b1, b2⟩ := HI.out.bd K hK1
      have HU := hid (unpack_ans (wd ws K) b1 b2)
      have HN : Hid (unI (wd ws K) = ndA ws K) := rfl
      rw [HN.out, HT.out.can K (by rw [hlen]; exact hK1)] at HU
      have HUp := hid (fun x => inTo_succ hjz hK3 x)
      obtain ⟨x, hx⟩ : ∃ x, ndA ws K = x := ⟨_, rfl⟩
      rw [hx] at HU hK2
      obtain ⟨leaf, v, f, a', l, r⟩ := x
      obtain rfl : leaf = true := hK2
      have HCl := hid (clamp_is (x := (K : Int)) (lo := 0) (hi := (n : Int) - 1) (by omega) (by omega))
      have i0 : (0 : Int) ≤ (j : Int) := by omega
      have i1 : (j : Int) < (m : Int) := by omega
      have K0 : (0 : Int) ≤ (K : Int) := by omega
      have K1 : (K : Int) < (n : Int) := by omega
      have hgvs : gv < wr.heap.size := by omega
      have HRise : Hid (∀ q, q + 1 = j → ∃ y : Nat, wr.cell? ⟨gv, q, none⟩ = some (.int .i64 (y : Int)) ∧ (y : Int) < (K : Int)) := by
        intro q hq
        have h1 := lvs_rise (ndA ws) n q (by rw [HZ.out]; omega)
        rw [HZ.out, hq, hK3] at h1
        obtain ⟨y, _, _, hy⟩ := lvs_at (ndA ws) n q (by rw [HZ.out]; omega)
        rw [HZ.out] at hy
        rw [hy] at h1
        have := HA.out q (by omega)
        rw [Nat.zero_add, hy] at this
        exact ⟨y, this, h1⟩
      clear hx hat b1 b2 hK3
      rcases Nat.eq_zero_or_pos j with hj0 | hj0
      · subst hj0
        clear HRise
        go_wp2_with (first | (go_at_call 23; refine (HCl.out.on _).mono ?_; rintro e w3 ⟨rfl, X1, rfl⟩) | (go_at_call 22; refine (HU.out.on _).mono ?_; rintro e w3 ⟨rfl, X2, rfl⟩) | (at_mapUpdate; refine list_updB rfl _ _ _ rfl (HM.out.jk (by repeat (with_reducible first | exact Jk.refl _ | apply Jk.junk | apply Jk.alloc))) (by omega) rfl K (by omega) rfl true rfl ?_; intro w4 hM4 hG4; have HM4 := hid hM4; have HG4 := hid hG4; clear hM4 hG4))
        go_roundg (gk - 1)
        case measure => omega
        case rel =>
          refine ⟨1, by omega, by go_num, HM4.out.congr (fun q _ => HUp.out q), Jk.grown (by repeat (with_reducible first | exact HJ.out | apply Jk.junk | apply Jk.alloc)) HG4.out (fun k hk => by cases hk; exact hWh), (HI.out.jk (by repeat (with_reducible first | exact Jk.refl _ | apply Jk.junk | apply Jk.alloc))).grown HG4.out (by omega), fun i hi => HG4.out.cell ((HA.out.jk (by repeat (with_reducible first | exact Jk.refl _ | apply Jk.junk | apply Jk.alloc)) hgvs) i hi) (by simp; omega), HM4.out.lt⟩
      · obtain ⟨q, rfl⟩ : ∃ q, j = q + 1 := ⟨j - 1, by omega⟩
        obtain ⟨y, e0, hyK⟩ := HRise.out q rfl
        have q0 : (0 : Int) ≤ (q : Int) := by omega
        have q1 : (q : Int) < (m : Int) := by omega
        have q2 : (0 : Int) < (q : Int) + 1 := by omega
        have hyK2 : ¬ (K : Int) ≤ (y : Int) := by omega
        clear HRise
        go_wp2_with (first | (go_at_call 23; refine (HCl.out.on _).mono ?_; rintro e w3 ⟨rfl, X1, rfl⟩; have hgx : gv < wr.heap.size + Jn X1 := (by omega)) | (go_at_call 22; refine (HU.out.on _).mono ?_; rintro e w3 ⟨rfl, X2, rfl⟩; have hgx2 : gv < wr.heap.size + Jn X1 + Jn X2 := (by omega)) | (at_mapUpdate; refine list_updB rfl _ _ _ rfl (HM.out.jk (by repeat (with_reducible first | exact Jk.refl _ | apply Jk.junk | apply Jk.alloc))) (by omega) rfl K (by omega) rfl true rfl ?_; intro w4 hM4 hG4; have HM4 := hid hM4; have HG4 := hid hG4; clear hM4 hG4))
        go_roundg (gk - 1)
        case measure => omega
        case rel =>
          refine ⟨q + 1 + 1, by omega, by go_num, HM4.out.congr (fun q _ => HUp.out q), Jk.grown (by repeat (with_reducible first | exact HJ.out | apply Jk.junk | apply Jk.alloc)) HG4.out (fun k hk => by cases hk; exact hWh), (HI.out.jk (by repeat (with_reducible first | exact Jk.refl _ | apply Jk.junk | apply Jk.alloc))).grown HG4.out (by omega), fun i hi => HG4.out.cell ((HA.out.jk (by repeat (with_reducible first | exact Jk.refl _ | apply Jk.junk | apply Jk.alloc)) hgvs) i hi) (by simp; omega), HM4.out.lt⟩
    · have e : j = m := by omega
      subst e
      go_wp2
      go_loopg [13] 10 (fun k i wx => ∃ t : Nat, t + k = 10 ∧ i = .int .i64 (t : Int) ∧ MapB wx h j (inTo zs j) ∧ Jk W0 wx ∧ IsW wx (some ⟨gt, 0, none⟩) n ct ws)
      case atStart => exact ⟨0, by omega, rfl, HM.out, HJ.out, HI.out⟩
      case round =>
        obtain ⟨t, ht, rfl, hM, hJ, hI⟩ := hrel
        have HM2 := hid hM
        have HJ2 := hid hJ
        have HI2 := hid hI
        clear hM hJ hI HM HJ HI HA hhs
        by_cases hgo : t < np ∧ t < 10
        · obtain ⟨ht1, ht2⟩ := hgo
          have t0 : (0 : Int) ≤ (t : Int) := by omega
          have t1 : (t : Int) < (np : Int) := by omega
          have t2 : (t : Int) < 10 := by omega
          obtain ⟨gp, op, rfl, hgp, hcp4⟩ := HPs.out.cellAt ht1
          obtain ⟨p, hp⟩ : ∃ p, ps t = p := ⟨_, rfl⟩
          rw [hp] at hcp4
          have HCp : Hid (∀ F : Nat, F < 4 → W0.cell? ⟨gp, op + t * 4 + F, none⟩ = some (.int .i64 (p F))) := hcp4
          clear hp hcp4
          have c0 : wr.cell? ⟨gp, op + t * 4, none⟩ = some (.int .i64 (p 0)) := (HJ2.out.below.cell (p := ⟨gp, op + t * 4, none⟩) hgp).trans (HCp.out 0 (by omega))
          have c1 : wr.cell? ⟨gp, op + t * 4 + 1, none⟩ = some (.int .i64 (p 1)) := (HJ2.out.below.cell (p := ⟨gp, op + t * 4 + 1, none⟩) hgp).trans (HCp.out 1 (by omega))
          have c2 : wr.cell? ⟨gp, op + t * 4 + 2, none⟩ = some (.int .i64 (p 2)) := (HJ2.out.below.cell (p := ⟨gp, op + t * 4 + 2, none⟩) hgp).trans (HCp.out 2 (by omega))
          have c3 : wr.cell? ⟨gp, op + t * 4 + 3, none⟩ = some (.int .i64 (p 3)) := (HJ2.out.below.cell (p := ⟨gp, op + t * 4 + 3, none⟩) hgp).trans (HCp.out 3 (by omega))
          obtain ⟨A, hA1, hA2, hA3⟩ := HT.out.leaf p
          have hAn : A < n := by rw [← hlen]; exact hA2
          have HWk := hid (walk_ans p HI2.out)
          rw [hA1] at HWk
          have HWk : Hid (AnsW wr 10 #[.slice (some ⟨gt, 0, none⟩) n ct, .agg #[.int .i64 (p 0), .int .i64 (p 1), .int .i64 (p 2), .int .i64 (p 3)]] (.int .i64 (A : Int))) := HWk
          have HIn : Hid (inTo zs j A = true) := by
            show decide ((A : Int) ∈ zs.take j) = true
            rw [List.take_of_length_le (by omega), ← HZ.out]
            exact decide_eq_true ((lvs_mem (ndA ws) n _).2 ⟨A, hAn, hA3, rfl⟩)
          have HA1 := hid hA1
          have HA3 := hid hA3
          clear hA1 hA2 hA3
          go_wp2_with (first | (go_at_call 10; refine (HWk.out.on _ (Jk.refl _)).mono ?_; rintro e w3 ⟨rfl, X1, rfl⟩) | (at_lookup; refine list_lookB rfl _ _ rfl (HM2.out.jk (by repeat (with_reducible first | exact Jk.refl _ | apply Jk.junk | apply Jk.alloc))) rfl A (by omega) rfl true HIn.out ?_))
          have HJ3 := hid (HJ2.out.junk X1)
          have HI3 := hid (HI2.out.jk ((Jk.refl _).junk X1))
          have HM3 := hid (HM2.out.jk ((Jk.refl _).junk X1))
          obtain ⟨wj, hwj⟩ : ∃ wj, junk wr X1 = wj := ⟨_, rfl⟩
          rw [hwj] at HJ3 HI3 HM3 ⊢
          clear hwj HJ2 HI2 HM2 c0 c1 c2 c3 HWk
          have HS0 : Hid (wy (ndA ws) 0 0 = 1) := rfl
          go_loopg [15, 16] A (fun k kk st wx => ∃ K : Nat, ∃ S : Int, K + k = A ∧ kk = .int .i64 (K : Int) ∧ st = .int .i64 S ∧ wy (ndA ws) K K = S ∧ (∃ f, n ≤ f + K ∧ wayW ws p f K = some A) ∧ Jk W0 wx ∧ MapB wx h j (inTo zs j) ∧ IsW wx (some ⟨gt, 0, none⟩) n ct ws)
          case atStart => exact ⟨0, 1, by omega, rfl, rfl, HS0.out, ⟨31, by omega, HA1.out⟩, HJ3.out, HM3.out, HI3.out⟩
          case round =>
            obtain ⟨K, S, hK, rfl, rfl, hS, ⟨fu, hfu, hway⟩, hJ, hM, hI⟩ := hrel
            have HJ4 := hid hJ
            have HM4 := hid hM
            have HI4 := hid hI
            have HS := hid hS
            have hKn : K < n := by omega
            have bS := wy_low HSh.out K (by omega) K (by omega)
            have bS2 := lg_at (ndA ws) hKn
            rw [HDe.out] at bS2
            rw [hS] at bS bS2
            clear hJ hM hI HJ3 HM3 HI3 hS
            obtain ⟨_, _, heq, hgs, hat⟩ := HI4.out.lies (by omega)
            cases heq
            have e2 : wr.cell? ⟨gt, K, none⟩ = some (.int .u64 (wd ws K)) := by
              have := hat K (by rw [hlen]; exact hKn)
              rwa [Nat.zero_add] at this
            obtain ⟨b1, b2⟩ := HI4.out.bd K hKn
            have HU := hid (unpack_ans (wd ws K) b1 b2)
            have HN : Hid (unI (wd ws K) = ndA ws K) := rfl
            have hcan := HT.out.can K (by rw [hlen]; exact hKn)
            rw [HN.out, hcan] at HU
            have K0 : (0 : Int) ≤ (K : Int) := by omega
            have K1 : (K : Int) < (n : Int) := by omega
            have hSd : ¬ deep < S := by omega
            have hszr := HJ4.out.below.size
            have hgps : gp < wr.heap.size := by omega
            clear hat b1 b2
            by_cases hKA : K = A
            · subst hKA
              have hv := value_ans p HI4.out
              rw [HA1.out] at hv
              obtain ⟨z, hz⟩ : ∃ z, ndA ws K = z := ⟨_, rfl⟩
              have HVl : Hid (AnsW wr 14 #[.slice (some ⟨gt, 0, none⟩) n ct, .agg #[.int .i64 (p 0), .int .i64 (p 1), .int .i64 (p 2), .int .i64 (p 3)]] (.int .i64 z.v)) := by rw [← hz]; exact hv
              rw [hz] at HU
              obtain ⟨leaf, v, f, a', l, r⟩ := z
              have HVl : Hid (AnsW wr 14 #[.slice (some ⟨gt, 0, none⟩) n ct, .agg #[.int .i64 (p 0), .int .i64 (p 1), .int .i64 (p 2), .int .i64 (p 3)]] (.int .i64 v)) := HVl
              have c0 : wr.cell? ⟨gp, op + t * 4, none⟩ = some (.int .i64 (p 0)) := (HJ4.out.below.cell (p := ⟨gp, op + t * 4, none⟩) hgp).trans (HCp.out 0 (by omega))
              have c1 : wr.cell? ⟨gp, op + t * 4 + 1, none⟩ = some (.int .i64 (p 1)) := (HJ4.out.below.cell (p := ⟨gp, op + t * 4 + 1, none⟩) hgp).trans (HCp.out 1 (by omega))
              have c2 : wr.cell? ⟨gp, op + t * 4 + 2, none⟩ = some (.int .i64 (p 2)) := (HJ4.out.below.cell (p := ⟨gp, op + t * 4 + 2, none⟩) hgp).trans (HCp.out 2 (by omega))
              have c3 : wr.cell? ⟨gp, op + t * 4 + 3, none⟩ = some (.int .i64 (p 3)) := (HJ4.out.below.cell (p := ⟨gp, op + t * 4 + 3, none⟩) hgp).trans (HCp.out 3 (by omega))
              have hSd2 : decide (deep < S) = false := by simp; omega
              clear hfu hway HA1 hv hz HCp
              go_upto_region 30 with (first | (go_at_call 22; refine (HU.out.on _).mono ?_; rintro e w3 ⟨rfl, X2, rfl⟩; have hgx : gp < wr.heap.size + Jn X2 := (by omega); have hgx1 : gp < wr.heap.size + Jn X2 + 1 := (by omega)))
              have HVj := hid (HVl.out.mono (((Jk.refl wr).junk X2).alloc (.cells #[.bool leaf, .int .i64 v, .int .i64 f, .int .i64 a', .int .i64 l, .int .i64 r] 25)))
              refine region_junk (by kernel_rfl) (by kernel_rfl) ?_
              repeat (go_big_quiet_step (first | (go_at_call 14; exact AnsW.junk (by with_reducible exact HVj.out) _) | exact rfl))
              refine wpQuiet_nil ?_
              rintro _ ⟨X3, rfl⟩
              go_wp2
              go_roundg (10 - (t + 1))
              case measure => omega
              case rel => exact ⟨t + 1, by omega, by go_num, HM4.out.jk (by repeat (with_reducible first | exact Jk.refl _ | apply Jk.junk | apply Jk.alloc | apply Jk.drewN)), by repeat (with_reducible first | exact HJ4.out | apply Jk.junk | apply Jk.alloc | apply Jk.drewN), HI4.out.jk (by repeat (with_reducible first | exact Jk.refl _ | apply Jk.junk | apply Jk.alloc | apply Jk.drewN))⟩
            · have hKA' : ((K : Int) == (A : Int)) = false := by simp; omega
              have hKA2 : ¬ (K : Int) = (A : Int) := by omega
              have hleaf : (ndA ws K).leaf = false := by
                cases hb : (ndA ws K).leaf
                · rfl
                · cases fu with
                  | zero => omega
                  | succ fu =>
                    rw [wayW_leaf (by rw [hlen]; exact hKn) hcan hb] at hway
                    cases hway
                    exact absurd rfl hKA
              obtain ⟨fu, rfl⟩ : ∃ f, fu = f + 1 := ⟨fu - 1, by omega⟩
              rw [wayW_on (by rw [hlen]; exact hKn) hcan hleaf] at hway
              have hside := HT.out.side (i := K) (by rw [hlen]; exact hKn) hleaf p
              rw [hlen] at hside
              obtain ⟨T, hT⟩ := Int.eq_ofNat_of_zero_le (show 0 ≤ sideI (ndA ws K) p by omega)
              rw [hT] at hway hside
              simp only [Int.toNat_natCast] at hway
              have hTA : T ≤ A := by
                obtain ⟨a, h1, h2, _⟩ := HT.out.ends p fu T (by rw [hlen]; omega) (by rw [hlen]; omega)
                rw [hway] at h1
                cases h1
                exact h2
              have hWT : wy (ndA ws) T T = S + 1 := by
                have hc : (ndA ws K).l = T ∨ (ndA ws K).r = T := by
                  rcases side_cases (ndA ws K) p with e | e <;> rw [e] at hT
                  · exact .inl hT
                  · exact .inr hT
                rw [(HSh.out.wy_next hKn hleaf T hc).1, HS.out]
              have HNx : Hid (∃ f, n ≤ f + T ∧ wayW ws p f T = some A) := ⟨fu, by omega, hway⟩
              have HWT := hid hWT
              have hKT : K < T := by omega
              have HSi := hid hT
              have hRR := Nd.right_iff.1 (HT.out.right (k := K) (by rw [hlen]; exact hKn))
              obtain ⟨z, hz⟩ : ∃ z, ndA ws K = z := ⟨_, rfl⟩
              rw [hz] at HU hleaf HSi hRR
              obtain ⟨leaf, v, f, a', l, r⟩ := z
              obtain rfl : leaf = false := hleaf
              simp [Nd.Right] at hRR
              obtain ⟨F, rfl⟩ := Int.eq_ofNat_of_zero_le (show 0 ≤ f by omega)
              have hF4 : (F : Int) < 4 := by omega
              have hF0 : (0 : Int) ≤ (F : Int) := by omega
              have cF : wr.cell? ⟨gp, op + t * 4 + F, none⟩ = some (.int .i64 (p F)) := (HJ4.out.below.cell (p := ⟨gp, op + t * 4 + F, none⟩) hgp).trans (HCp.out F (by omega))
              have HSi : Hid ((if p F ≤ a' then l else r) = (T : Int)) := HSi
              obtain ⟨y, hy⟩ : ∃ y, p F = y := ⟨_, rfl⟩
              rw [hy] at cF HSi
              clear hz hT hWT hway hy hRR hside hfu
              by_cases hle : y ≤ a'
              case' pos => obtain rfl : l = (T : Int) := by have := HSi.out; rwa [if_pos hle] at this
              case' neg => obtain rfl : r = (T : Int) := by have := HSi.out; rwa [if_neg hle] at this
              all_goals
                go_wp2_with (first | (go_at_call 22; refine (HU.out.on _).mono ?_; rintro e w3 ⟨rfl, X2, rfl⟩; have hgx : gp < wr.heap.size + Jn X2 := (by omega)))
                go_quiet (fail)
                go_wp2
                go_roundg (A - T)
                case measure => omega
                case rel => exact ⟨T, S + 1, by omega, rfl, by go_num, HWT.out, HNx.out, by repeat (with_reducible first | exact HJ4.out | apply Jk.junk | apply Jk.alloc | apply Jk.drewN), HM4.out.jk (by repeat (with_reducible first | exact Jk.refl _ | apply Jk.junk | apply Jk.alloc | apply Jk.drewN)), HI4.out.jk (by repeat (with_reducible first | exact Jk.refl _ | apply Jk.junk | apply Jk.alloc | apply Jk.drewN))⟩
        · have hex : (¬ t < np) ∨ (t < np ∧ ¬ t < 10) := by omega
          have HRn := hid treeRuns_ans
          have HJc := hid (HJ0.out.trans HJ2.out)
          rcases hex with hex | ⟨hex, hex2⟩
          case' inl => have e1 : ¬ (t : Int) < (np : Int) := by omega
          case' inr => have e1 : (t : Int) < (np : Int) := by omega
          case' inr => have e3 : ¬ (t : Int) < 10 := by omega
          all_goals
            go_wp2_with (first | (go_at_call 3; refine (HRn.out.on _).mono ?_; rintro e w3 ⟨rfl, X1, rfl⟩))
            go_ret
            exact ⟨rfl, HJc.out.junk X1⟩

end Go.Proofs.Ytdhmibjokacfpaa
