/- The law ModelCells of chapter 8 answers true: its walk through the Go text, by the contracts of package model. -/
import Derived.Test.YtnjfbmnecfiliaaLawModelRuns
import Derived.Test.YtnjfbmnecfiliaaForestA
import Derived.Test.YtnjfbmnecfiliaaStart
import Derived.Test.YtnjfbmnecfiliaaCellsM
namespace Go.Proofs.Ytnjfbmnecfiliaa
open Go.RowKit M

theorem PtIn.at {w : World} {h : Nat} {x : Int → Int} (H : PtIn w h (x 0) (x 1) (x 2) (x 3)) {j : Nat} (hj : j < 4) : w.cell? ⟨h, j, none⟩ = some (.int .i64 (x (j : Int))) := by
  obtain ⟨_, h1, h2, h3, h4⟩ := H
  have : j = 0 ∨ j = 1 ∨ j = 2 ∨ j = 3 := by omega
  rcases this with rfl | rfl | rfl | rfl
  · exact h1
  · exact h2
  · exact h3
  · exact h4

theorem not_hit {I i3 X x4 : Nat} (h : I < i3 ∨ (I = i3 ∧ X < x4 + 1)) (h1 : (I < i3 ∨ (I = i3 ∧ X < x4)) → False) (h2 : I = i3 → X = x4 → False) : False := by
  rcases h with h | ⟨h3, h4⟩
  · exact h1 (.inl h)
  · by_cases h5 : X < x4
    · exact h1 (.inr ⟨h3, h5⟩)
    · exact h2 h3 (by omega)

set_option maxRecDepth 100000 in
set_option maxHeartbeats 9600000 in
theorem modelCells_walk (f : Fo) (x y : Int → Int) (w : World) (hf : f.ok w) (_ : PtFit x) (_ : PtFit y) : Calls Try.prog 6 #[forestV f, pointV x, pointV y] w fun e w' => e = .returned (.bool true) ∧ Jk w w' := by
  have J := rules8
  obtain ⟨wF, hwF⟩ : ∃ wF, w.alloc (.cells #[.int .i64 f.d, .int .i64 f.k, .slice f.ba f.bn f.bc, .slice f.sa f.sn f.sc] 42) = wF := ⟨_, rfl⟩
  have hszF : wF.heap.size = w.heap.size + 1 := by rw [← hwF]; simp
  have HFi : Hid (FoIn wF w.heap.size f) := hwF ▸ FoIn.laid w f _
  have HJF : Hid (Jk w wF) := hwF ▸ (Jk.refl w).alloc _
  obtain ⟨wP, hwP⟩ : ∃ wP, wF.alloc (.cells #[.int .i64 (x 0), .int .i64 (x 1), .int .i64 (x 2), .int .i64 (x 3)] 33) = wP := ⟨_, rfl⟩
  have hszP : wP.heap.size = w.heap.size + 1 + 1 := by rw [← hwP]; simp [hszF]
  have HPi : Hid (PtIn wP (w.heap.size + 1) (x 0) (x 1) (x 2) (x 3)) := hszF ▸ hwP ▸ PtIn.laid wF (x 0) (x 1) (x 2) (x 3) _
  have HJP : Hid (Jk wF wP) := hwP ▸ (Jk.refl wF).alloc _
  obtain ⟨w0, hw0⟩ : ∃ w0, wP.alloc (.cells #[.int .i64 (y 0), .int .i64 (y 1), .int .i64 (y 2), .int .i64 (y 3)] 33) = w0 := ⟨_, rfl⟩
  have hsz0 : w0.heap.size = w.heap.size + 1 + 1 + 1 := by rw [← hw0]; simp [hszP]
  have HJP0 : Hid (Jk wP w0) := hw0 ▸ (Jk.refl wP).alloc _
  have HJ0 : Hid (Jk w w0) := (HJF.out.trans HJP.out).trans HJP0.out
  have HP : Hid (PtIn w0 (w.heap.size + 1) (x 0) (x 1) (x 2) (x 3)) := HPi.out.jk HJP0.out
  have HQ : Hid (PtIn w0 (w.heap.size + 1 + 1) (y 0) (y 1) (y 2) (y 3)) := hszP ▸ hw0 ▸ PtIn.laid wP (y 0) (y 1) (y 2) (y 3) _
  have HFo : Hid (FoIn w0 w.heap.size f) := HFi.out.jk (HJP.out.trans HJP0.out)
  have HM : Hid (Calls Try.prog 17 #[forestV f] w0 fun e w' => GotM w0 e w') := model_any f w0 (hf.jk HJ0.out)
  have HRuns : Hid (∀ w', Calls Try.prog 3 #[] w' fun e w'' => e = .returned (.bool true) ∧ Jk w' w'') := fun w' => modelRuns_walk w'
  obtain ⟨fi0, fi1, fi2, fi3, fi4⟩ := HFo.out
  clear hf HFi HJF HFo HJP HJP0 HPi
  obtain ⟨d, k, ba, bn, bc, bz, sa, sn, sc, ss⟩ := f
  simp only [forestV, pointV] at *
  go_enter Try.func6, Try.ntmps6
  go_upto_region 1 with fail
  go_cut [7] (fun p wc => ∃ w1 h m, p = .pointer (some ⟨h, 0, none⟩) ∧ Made w0 w1 wc h m)
  case first =>
    go_wp2_with (first | (go_at_call 17; refine HM.out.mono ?_; rintro e w1 ⟨m, rfl, hr, h3, h4, hfr, hj⟩; have HMd := hid (GotM.made hr h3 h4 hfr hj); clear hr h3 h4 hfr hj))
    go_meet
    case rel => exact ⟨w1, _, m, rfl, HMd.out⟩
  case rest =>
    obtain ⟨w1, h, m, rfl, hMB, hh, hr, hd3, hn4, hfr, hj1, hjc⟩ := hcut
    have hok := hr.mdok hfr
    have hlts : m.ts.length = m.n := hok.is.len
    have HR := hid (rightM_ans (b := true) hok (by simp [hr]))
    have HRm := hid hr
    have HT : Hid (∀ (F : Int) w', Jk w1 w' → Calls Try.prog 13 #[modelV m, .int .i64 F] w' fun e w'' => GotZ w' (thr (atsT m.ts F m.n)) e w'') := fun F w' hj => thr_yes w' (hok.jk hj) hr
    have HTd : Hid (thr (atsT m.ts m.d m.n) = []) := by rw [← hlts]; exact thr_none hr (.inr (Int.le_refl _))
    have HTn : Hid (thr (atsT m.ts (-1) m.n) = []) := by rw [← hlts]; exact thr_none hr (.inl (by omega))
    have HE : Hid (∀ (p : Int → Int) (C : Int), 0 ≤ C → C < m.k → AnsW w1 11 #[modelV m, .int .i64 C, pointV p] (.int .i64 (m.sum p C))) := fun p C h0 h1 => eval_ans p hok (hr.evalP p h0 h1)
    have HSame : Hid ((∀ F : Nat, (F : Int) < m.d → ∀ t, t ∈ thr (atsT m.ts F m.n) → (x F ≤ t ↔ y F ≤ t)) → ∀ C, m.sum x C = m.sum y C) := by
      rw [← hlts]
      exact fun h C => sum_same hr h C
    have HHit : Hid (∀ (F t : Int), t ∈ thr (atsT m.ts F m.n) → ∃ I X, I < m.n ∧ X < (tA m.ts I).ws.length ∧ HitN (wd (tA m.ts I).ws X) F t) := by
      rw [← hlts]
      exact fun F t h => thr_hit hr h
    have HTr : Hid (∀ i, i < m.n → TreeP (tA m.ts i).ws m.d) := fun i hi => (hr.trees.2 i (by rw [hlts]; exact hi)).tree
    have HMB := hid hMB
    have HJc := hid hjc
    have HJ1 := hid hj1
    have HOk := hid hok
    have hk1 := hr.k1
    have hk3 := hr.k3
    have hd1 := hr.d1
    obtain ⟨DD, hDD⟩ : ∃ DD : Nat, m.d = (DD : Int) := ⟨m.d.toNat, by omega⟩
    obtain ⟨KK, hKK⟩ : ∃ KK : Nat, m.k = (KK : Int) := ⟨m.k.toNat, by omega⟩
    have HPc : Hid (∀ wr, Jk w1 wr → PtIn wr (w.heap.size + 1) (x 0) (x 1) (x 2) (x 3) ∧ PtIn wr (w.heap.size + 1 + 1) (y 0) (y 1) (y 2) (y 3)) := fun wr hj => ⟨HP.out.jk (hj1.trans hj), HQ.out.jk (hj1.trans hj)⟩
    clear hMB hjc hj1 hok hr hfr fi0 fi1 fi2 fi3 fi4 HM hlts
    obtain ⟨wM, rfl⟩ : ∃ wM, wM = wc := ⟨_, rfl⟩
    obtain ⟨D, k', b0, b1, b2, a, n, c, ts⟩ := m
    obtain rfl : D = (DD : Int) := hDD
    obtain rfl : k' = (KK : Int) := hKK
    simp only [modelV, pointV] at HR HT HE HTd HTn HSame HHit HTr hk1 hk3 hd1 hd3 hn4
    have HLn : Hid (ts.length = n) := HOk.out.is.len
    have hcap := HOk.out.is.cap
    have hmax := HOk.out.is.max
    simp only at hcap hmax
    unfold maxLen at hmax
    obtain ⟨m0, m1, m2, m3, m4, m5, m6⟩ := HMB.out.in
    simp only at m1 m2 m3 m4 m5 m6
    go_wp2_with (first | (go_at_call 10; refine (HR.out.on _ HJc.out).mono ?_; rintro e wR ⟨rfl, hjR⟩; obtain ⟨m0, m1, m2, m3, m4, m5, m6⟩ := (HMB.out.jk hjR).in; simp only at m1 m2 m3 m4 m5 m6))
    have HMR := hid (HMB.out.jk hjR)
    have HJR : Hid (Jk w1 wR) := HJc.out.trans hjR
    clear hjR HR HMB
    go_loopg [8, 9] DD (fun r s v wr => ∃ (j : Nat) (b : Bool), j + r = DD ∧ v = .int .i64 (j : Int) ∧ s = .bool b ∧ Hid (b = true → ∀ F : Nat, F < j → ∀ t, t ∈ thr (atsT ts F n) → (x F ≤ t ↔ y F ≤ t)) ∧ Hid (Jk wR wr))
    case atStart => exact ⟨0, true, by omega, rfl, rfl, hid (fun _ F hF => by omega), hid (Jk.refl _)⟩
    case round =>
      obtain ⟨j, b, hj, rfl, rfl, HS, HJ⟩ := hrel
      obtain ⟨wj, rfl⟩ : ∃ z, z = wr := ⟨_, rfl⟩
      obtain ⟨r1, hr1⟩ : ∃ z, z = gk := ⟨_, rfl⟩
      subst hr1
      clear m0 m1 m2 m3 m4 m5 m6
      have HMj := hid (HMR.out.jk HJ.out)
      obtain ⟨m0, m1, m2, m3, m4, m5, m6⟩ := HMj.out.in
      simp only at m1 m2 m3 m4 m5 m6
      have HJ1j : Hid (Jk w1 wj) := HJR.out.trans HJ.out
      by_cases hfuel : r1 = 0
      · subst hfuel
        obtain rfl : j = DD := by omega
        have HTD : Hid (∀ w', Jk w1 w' → Calls Try.prog 13 #[.agg #[.int .i64 (j : Int), .int .i64 (KK : Int), .int .i64 b0, .int .i64 b1, .int .i64 b2, .slice a n c], .int .i64 (j : Int)] w' fun e w'' => GotZ w' [] e w'') := fun w' hj => by
          have := HT.out (j : Int) w' hj
          rwa [HTd.out] at this
        have HTN : Hid (∀ w', Jk w1 w' → Calls Try.prog 13 #[.agg #[.int .i64 (j : Int), .int .i64 (KK : Int), .int .i64 b0, .int .i64 b1, .int .i64 b2, .slice a n c], .int .i64 (-1)] w' fun e w'' => GotZ w' [] e w'') := fun w' hj => by
          have := HT.out (-1) w' hj
          rwa [HTn.out] at this
        cases b
        · have HJe := HJ1j
          have L1 := lt_more3 m0
          have h0K : (0 : Int) < (KK : Int) := by omega
          go_wp2
          go_loopg [28] 0 (fun r v wr => v = .int .i64 0 ∧ wr = wj)
          case atStart => exact ⟨rfl, rfl⟩
          case round =>
            obtain ⟨rfl, rfl⟩ := hrel
            go_wp2_with (first
            | (go_at_call 13; refine Calls.mono (by with_reducible first | exact HTD.out _ (by repeat (with_reducible first | exact HJe.out | apply Jk.junk | apply Jk.alloc)) | exact HTN.out _ (by repeat (with_reducible first | exact HJe.out | apply Jk.junk | apply Jk.alloc))) ?_; rintro e wt ⟨za, zn, zc, rfl, hz, X3, rfl⟩; obtain rfl : 0 = zn := hz.len; clear hz)
            | (go_at_call 3; refine (HRuns.out _).mono ?_; rintro e wt ⟨rfl, X4, rfl⟩))
            go_ret
            exact ⟨rfl, by repeat (with_reducible first | exact (HJ0.out.trans (HJ1.out.trans HJe.out)) | apply Jk.junk | apply Jk.alloc)⟩
        · have HSm : Hid (∀ C : Int, Md.sum ⟨(j : Int), (KK : Int), b0, b1, b2, a, n, c, ts⟩ x C = Md.sum ⟨(j : Int), (KK : Int), b0, b1, b2, a, n, c, ts⟩ y C) := HSame.out (fun F hF t ht => HS.out rfl F (by omega) t ht)
          go_wp2
          go_loopg [28] KK (fun r v wr => ∃ i : Nat, i + r = KK ∧ v = .int .i64 (i : Int) ∧ Hid (Jk wj wr))
          case atStart => exact ⟨0, by omega, rfl, hid (Jk.refl _)⟩
          case round =>
            obtain ⟨i, hi, rfl, HJi⟩ := hrel
            clear m0 m1 m2 m3 m4 m5 m6
            obtain ⟨m0, m1, m2, m3, m4, m5, m6⟩ := (HMj.out.jk HJi.out).in
            simp only at m1 m2 m3 m4 m5 m6
            have HJe : Hid (Jk w1 wr) := HJ1j.out.trans HJi.out
            by_cases hfuel : gk = 0
            · subst hfuel
              obtain rfl : i = KK := by omega
              have L1 := lt_more3 m0
              go_wp2_with (first
              | (go_at_call 13; refine Calls.mono (by with_reducible first | exact HTD.out _ (by repeat (with_reducible first | exact HJe.out | apply Jk.junk | apply Jk.alloc)) | exact HTN.out _ (by repeat (with_reducible first | exact HJe.out | apply Jk.junk | apply Jk.alloc))) ?_; rintro e wt ⟨za, zn, zc, rfl, hz, X3, rfl⟩; obtain rfl : 0 = zn := hz.len; clear hz)
              | (go_at_call 3; refine (HRuns.out _).mono ?_; rintro e wt ⟨rfl, X4, rfl⟩))
              go_ret
              exact ⟨rfl, by repeat (with_reducible first | exact (HJ0.out.trans (HJ1.out.trans HJe.out)) | apply Jk.junk | apply Jk.alloc)⟩
            · obtain ⟨r, rfl⟩ : ∃ r, gk = r + 1 := ⟨gk - 1, by omega⟩
              have hiK : (i : Int) < (KK : Int) := by omega
              obtain ⟨⟨q0, q1, q2, q3, q4⟩, ⟨u0, u1, u2, u3, u4⟩⟩ := HPc.out _ HJe.out
              have HEx : Hid (AnsW wr 11 _ _) := fun w' hj => HE.out x (i : Int) (by omega) hiK w' (HJe.out.trans hj)
              have HEy : Hid (AnsW wr 11 _ _) := fun w' hj => HE.out y (i : Int) (by omega) hiK w' (HJe.out.trans hj)
              rw [HSm.out] at HEx
              obtain ⟨S, hS⟩ : ∃ S, Md.sum ⟨(j : Int), (KK : Int), b0, b1, b2, a, n, c, ts⟩ y (i : Int) = S := ⟨_, rfl⟩
              rw [hS] at HEx HEy
              clear hS
              go_wp2_with fail
              refine region_junk (by kernel_rfl) (by kernel_rfl) ?_
              repeat (go_big_quiet_step (first | (go_at_call 11; exact AnsW.junk (by with_reducible first | exact HEx.out | exact HEy.out) _) | exact rfl))
              refine wpQuiet_nil ?_
              rintro _ ⟨XX, rfl⟩
              go_wp2
              go_roundg r
              case measure => omega
              case rel => exact ⟨i + 1, by omega, by go_num, hid (HJi.out.junk _)⟩
      · obtain ⟨r, rfl⟩ : ∃ r, r1 = r + 1 := ⟨r1 - 1, by omega⟩
        have hjD : (j : Int) < (DD : Int) := by omega
        have hj4 : j < 4 := by omega
        have HTj := hid (HT.out (j : Int))
        have HHj := hid (HHit.out (j : Int))
        obtain ⟨zs, hzs⟩ : ∃ zs, thr (atsT ts (j : Int) n) = zs := ⟨_, rfl⟩
        have HZe : Hid (thr (atsT ts (j : Int) n) = zs) := hzs
        have HUp : Hid (zs.Pairwise (fun a b => a < b)) := by rw [← hzs]; exact thr_up _
        rw [hzs] at HTj HHj
        clear hzs
        go_wp2_with (first | (go_at_call 13; refine (HTj.out _ HJ1j.out).mono ?_; rintro e wt ⟨za, zn, zc, rfl, hz, hjz⟩))
        have HZ := hid hz
        have HJt : Hid (Jk w1 wt) := HJ1j.out.trans hjz
        have HJRt : Hid (Jk wR wt) := HJ.out.trans hjz
        have HMt := hid (HMj.out.jk hjz)
        have HLz : Hid (zs.length = zn) := hz.len
        have hzcap := hz.cap
        have hzmax := hz.max
        unfold maxLen at hzmax
        clear hz hjz m0 m1 m2 m3 m4 m5 m6 HTj
        go_loopg [8, 11, 46] zn (fun r s cnt idx wr => ∃ (i : Nat) (b' : Bool), i + r = zn ∧ idx = .int .i64 (i : Int) ∧ cnt = .int .i64 (i : Int) ∧ s = .bool b' ∧ Hid (b' = true → (∀ F : Nat, F < j → ∀ t, t ∈ thr (atsT ts F n) → (x F ≤ t ↔ y F ≤ t)) ∧ ∀ i' : Nat, i' < i → (x (j : Int) ≤ wd zs i' ↔ y (j : Int) ≤ wd zs i')) ∧ Hid (Jk wt wr))
        case atStart => exact ⟨0, b, by omega, rfl, rfl, rfl, hid (fun e => ⟨HS.out e, fun i' hi' => by omega⟩), hid (Jk.refl _)⟩
        case round =>
          obtain ⟨i, b', hi, rfl, rfl, rfl, HS2, HJ2⟩ := hrel
          obtain ⟨wi, rfl⟩ : ∃ z, z = wr := ⟨_, rfl⟩
          obtain ⟨r2, hr2⟩ : ∃ z, z = gk := ⟨_, rfl⟩
          subst hr2
          have HMi := hid (HMt.out.jk HJ2.out)
          obtain ⟨m0, m1, m2, m3, m4, m5, m6⟩ := HMi.out.in
          simp only at m1 m2 m3 m4 m5 m6
          have HJ1i : Hid (Jk w1 wi) := HJt.out.trans HJ2.out
          by_cases hfuel2 : r2 = 0
          · subst hfuel2
            obtain rfl : i = zn := by omega
            obtain ⟨wm, hwm⟩ : ∃ wm, wi.alloc (.map #[] 0) = wm := ⟨_, rfl⟩
            have HMp : Hid (MapS wm wi.heap.size 0 []) := hwm ▸ MapS.made wi
            have HJm : Hid (Jk wi wm) := hwm ▸ (Jk.refl wi).alloc _
            have HMm := hid (HMi.out.jk HJm.out)
            clear m0 m1 m2 m3 m4 m5 m6
            obtain ⟨m0, m1, m2, m3, m4, m5, m6⟩ := HMm.out.in
            simp only at m1 m2 m3 m4 m5 m6
            have HNx : Hid (∀ F : Nat, F < j + 1 → b' = true → ∀ t, t ∈ thr (atsT ts F n) → (x F ≤ t ↔ y F ≤ t)) := fun F hF e t ht => by
              obtain ⟨e1, e2⟩ := HS2.out e
              by_cases e3 : F < j
              · exact e1 F e3 t ht
              · obtain rfl : F = j := by omega
                rw [HZe.out] at ht
                obtain ⟨i', hi', rfl⟩ := List.mem_iff_getElem.1 ht
                have := e2 i' (by have := HLz.out; omega)
                simpa [wd, hi'] using this
            obtain ⟨bm, hbm⟩ : ∃ bm, wi.heap.size = bm := ⟨_, rfl⟩
            have HBm : Hid (wi.heap.size = bm) := hbm
            rw [hbm] at HMp
            have hmm := @run_makeMap Try.prog
            go_wp2
            clear hmm
            go_loopg [124] n (fun r idx wr => ∃ (i5 q : Nat) (K : List Int), i5 + r = n ∧ idx = .int .i64 (i5 : Int) ∧ Hid (MapS wr bm q K) ∧ q ≤ 31 * i5 ∧ Hid (∀ z, z ∈ K ↔ z ∈ atsT ts (j : Int) i5) ∧ Hid (Jk wi wr))
            case atStart => exact ⟨0, 0, [], by omega, rfl, HMp, by omega, hid (fun z => by simp [atsT]), HJm⟩
            case round =>
              obtain ⟨i5, q, K, hi5, rfl, HMp5, hq5, HK5, HJ5⟩ := hrel
              obtain ⟨w6, rfl⟩ : ∃ z, z = wr := ⟨_, rfl⟩
              obtain ⟨r7, hr7⟩ : ∃ z, z = gk := ⟨_, rfl⟩
              subst hr7
              clear m0 m1 m2 m3 m4 m5 m6
              obtain ⟨m0, m1, m2, m3, m4, m5, m6⟩ := (HMi.out.jk HJ5.out).in
              simp only at m1 m2 m3 m4 m5 m6
              by_cases hfuel5 : r7 = 0
              · subst hfuel5
                obtain rfl : i5 = n := by omega
                have hKl : K.length = i := by
                  obtain ⟨_, _, hnd, _⟩ := HMp5.out
                  have := nodup_eq hnd (up_nodup HUp.out) (fun z => by rw [HK5.out z, ← HZe.out, thr_mem])
                  rw [HLz.out] at this
                  exact this
                have hlen : ∀ ty, (Builtin.len_ #[52] ty #[.map (some bm)]).run Try.prog w6 = .ok (.int .i64 (i : Int)) w6 := fun ty => by
                  have := HMp5.out.len ty
                  rwa [hKl] at this
                clear hKl
                go_wp2
                go_roundg r
                case measure => omega
                case rel => exact ⟨j + 1, b', by omega, by go_num, rfl, hid (fun e F hF t ht => HNx.out F hF e t ht), hid (HJRt.out.trans (HJ2.out.trans HJ5.out))⟩
              · obtain ⟨r8, rfl⟩ : ∃ r, r7 = r + 1 := ⟨r7 - 1, by omega⟩
                have h5n : (i5 : Int) < (n : Int) := by omega
                obtain ⟨g, o, rfl, hg, hat⟩ := HOk.out.is.lies (by simp only; omega)
                have hJ16 : Jk w1 w6 := HJ1i.out.trans HJ5.out
                have hgr : g < w6.heap.size := Nat.lt_of_lt_of_le hg hJ16.below.size
                obtain ⟨k0, k1⟩ := (hat.jk hJ16 hg) i5 (by have := HLn.out; simp only; omega)
                have hok3 := (HOk.out.is.all i5 (by simp only; omega)).is
                have HT3 : Hid (TreeP (tA ts i5).ws (DD : Int)) := HTr.out i5 (by omega)
                have HAt : Hid (atsT ts (j : Int) (i5 + 1) = atsT ts (j : Int) i5 ++ atsW (tA ts i5).ws (j : Int) (tA ts i5).ws.length) := rfl
                simp only at k0 k1 hok3
                obtain ⟨t, ht⟩ : ∃ t, tA ts i5 = t := ⟨_, rfl⟩
                rw [ht] at k0 k1 hok3 HT3 HAt
                clear ht hat
                obtain ⟨cl, ta, tn, tc, tw⟩ := t
                simp only at k0 k1 HT3 hok3 HAt
                have HW := hid hok3
                have hmax2 := hok3.max
                have hcap2 := hok3.cap
                have HLw : Hid (tw.length = tn) := hok3.len
                have h31 : tn ≤ 31 := by have := HT3.out.few; rw [HLw.out] at this; exact this
                unfold maxLen at hmax2
                have HJ16 := hid hJ16
                clear hok3 hJ16
                go_wp2
                go_loopg [131] tn (fun r idx wr => ∃ (x6 q6 : Nat) (K6 : List Int), x6 + r = tn ∧ idx = .int .i64 (x6 : Int) ∧ Hid (MapS wr bm q6 K6) ∧ q6 ≤ 31 * i5 + x6 ∧ Hid (∀ z, z ∈ K6 ↔ z ∈ atsT ts (j : Int) i5 ∨ z ∈ atsW tw (j : Int) x6) ∧ Hid (Jk wi wr) ∧ Hid (Jk w1 wr))
                case atStart => exact ⟨0, q, K, by omega, rfl, hid (HMp5.out.jk ((Jk.refl w6).alloc _)), by omega, hid (fun z => by rw [HK5.out z]; simp [atsW]), hid (HJ5.out.alloc _), hid (HJ16.out.alloc _)⟩
                case round =>
                  obtain ⟨x6, q6, K6, hx6, rfl, HMp6, hq6, HK6, HJ6, HJ61⟩ := hrel
                  clear k0 k1
                  by_cases hfuel6 : gk = 0
                  · subst hfuel6
                    obtain rfl : x6 = tn := by omega
                    go_wp2
                    go_roundg r8
                    case measure => omega
                    case rel => exact ⟨i5 + 1, q6, K6, by omega, by go_num, HMp6, by omega, hid (fun z => by rw [HK6.out z, HAt.out, List.mem_append, HLw.out]), HJ6⟩
                  · obtain ⟨r9, rfl⟩ : ∃ r, gk = r + 1 := ⟨gk - 1, by omega⟩
                    have h6n : (x6 : Int) < (tn : Int) := by omega
                    obtain ⟨g2, o2, rfl, hg2, hat2⟩ := HW.out.lies (by omega)
                    have hgr2 : g2 < wr.heap.size := Nat.lt_of_lt_of_le hg2 HJ61.out.below.size
                    have k2 : wr.cell? ⟨g2, o2 + x6, none⟩ = some (.int .u64 (wd tw x6)) := (hat2.jk HJ61.out hg2) x6 (by rw [HLw.out]; omega)
                    obtain ⟨bd1, bd2⟩ := HW.out.bd x6 (by omega)
                    have HU := hid (unpack_ans (wd tw x6) bd1 bd2)
                    have hu : unB (wd tw x6) = true := HT3.out.can x6 (by rw [HLw.out]; omega)
                    have HAx : Hid (atsW tw (j : Int) (x6 + 1) = atsW tw (j : Int) x6 ++ (if partB (wd tw x6) (j : Int) = true then [sgI (wd tw x6)] else [])) := rfl
                    have HPt : Hid ((partB (wd tw x6) (j : Int) = true ↔ (unI (wd tw x6)).leaf = false ∧ (unI (wd tw x6)).f = (j : Int)) ∧ (partB (wd tw x6) (j : Int) = true → sgI (wd tw x6) = (unI (wd tw x6)).a)) := ⟨part_iff hu, fun h => part_at hu h⟩
                    have HA32 : Hid (I32 (unI (wd tw x6)).a) := by
                      show I32 (unI (wd tw x6)).a
                      unfold unI
                      rw [if_pos hu]
                      unfold readI
                      split
                      · exact ⟨by show (-2147483648 : Int) ≤ 0; omega, by show (0 : Int) ≤ 2147483647; omega⟩
                      · exact sg_bd _
                    have hbw : bm < wr.heap.size := HMp6.out.lt
                    have hwibm : wi.heap.size ≤ bm := Nat.le_of_eq HBm.out
                    have hw1bm : w1.heap.size ≤ bm := by have := HJ1i.out.below.size; omega
                    rw [hu] at HU
                    obtain ⟨z, hz⟩ : ∃ z, unI (wd tw x6) = z := ⟨_, rfl⟩
                    rw [hz] at HU HPt HA32
                    obtain ⟨pb, hpb⟩ : ∃ pb, partB (wd tw x6) (j : Int) = pb := ⟨_, rfl⟩
                    obtain ⟨sg, hsg⟩ : ∃ sg, sgI (wd tw x6) = sg := ⟨_, rfl⟩
                    rw [hpb, hsg] at HPt HAx
                    clear hz bd1 bd2 hat2 hu hpb hsg
                    obtain ⟨leaf, v, ff, aa, ll, rr⟩ := z
                    simp only [nodeV] at HU HPt HA32
                    have L1 := lt_more3 hgr2
                    cases leaf
                    · by_cases hff : ff = (j : Int)
                      · subst hff
                        obtain rfl : true = pb := (HPt.out.1.2 ⟨rfl, rfl⟩).symm
                        obtain rfl : sg = aa := HPt.out.2 rfl
                        go_wp2_with (first | (go_at_call 20; refine (HU.out.on _).mono ?_; rintro e w5 ⟨rfl, X5, rfl⟩) | (at_mapUpdate; refine list_updS rfl _ _ _ rfl (HMp6.out.jk (by repeat (with_reducible first | exact Jk.refl _ | apply Jk.junk | apply Jk.alloc))) (by omega) rfl sg HA32.out rfl true rfl ?_; intro w7 hM7 hG7; have HM7 := hid hM7; have HG7 := hid hG7; clear hM7 hG7))
                        go_roundg r9
                        case measure => omega
                        case rel =>
                          refine ⟨x6 + 1, q6 + 1, _, by omega, by go_num, HM7, by omega, hid (fun z => ?_), hid ?_, hid ?_⟩
                          · rw [addI_mem, HK6.out z, HAx.out, if_pos trivial, List.mem_append, List.mem_singleton, or_assoc]
                          · refine Jk.grown ?_ HG7.out (fun k hk => by cases hk; exact hwibm)
                            repeat (with_reducible first | exact HJ6.out | apply Jk.junk | apply Jk.alloc)
                          · refine Jk.grown ?_ HG7.out (fun k hk => by cases hk; exact hw1bm)
                            repeat (with_reducible first | exact HJ61.out | apply Jk.junk | apply Jk.alloc)
                      · have hff2 : (ff == (j : Int)) = false := by simpa using hff
                        obtain rfl : false = pb := (Bool.eq_false_iff.2 fun e => hff (HPt.out.1.1 e).2).symm
                        go_wp2_with (first | (go_at_call 20; refine (HU.out.on _).mono ?_; rintro e w5 ⟨rfl, X5, rfl⟩))
                        go_roundg r9
                        case measure => omega
                        case rel => exact ⟨x6 + 1, q6, K6, by omega, by go_num, hid (HMp6.out.jk (by repeat (with_reducible first | exact Jk.refl _ | apply Jk.junk | apply Jk.alloc))), by omega, hid (fun z => by rw [HK6.out z, HAx.out]; simp), by repeat (with_reducible first | apply hid | exact HJ6.out | apply Jk.junk | apply Jk.alloc), by repeat (with_reducible first | apply hid | exact HJ61.out | apply Jk.junk | apply Jk.alloc)⟩
                    · obtain rfl : false = pb := (Bool.eq_false_iff.2 fun e => by have := (HPt.out.1.1 e).1; cases this).symm
                      go_wp2_with (first | (go_at_call 20; refine (HU.out.on _).mono ?_; rintro e w5 ⟨rfl, X5, rfl⟩))
                      go_roundg r9
                      case measure => omega
                      case rel => exact ⟨x6 + 1, q6, K6, by omega, by go_num, hid (HMp6.out.jk (by repeat (with_reducible first | exact Jk.refl _ | apply Jk.junk | apply Jk.alloc))), by omega, hid (fun z => by rw [HK6.out z, HAx.out]; simp), by repeat (with_reducible first | apply hid | exact HJ6.out | apply Jk.junk | apply Jk.alloc), by repeat (with_reducible first | apply hid | exact HJ61.out | apply Jk.junk | apply Jk.alloc)⟩
          · obtain ⟨r3, rfl⟩ : ∃ r, r2 = r + 1 := ⟨r2 - 1, by omega⟩
            have hizn : (i : Int) < (zn : Int) := by omega
            have hi0 : (0 : Int) ≤ (i : Int) := by omega
            obtain ⟨zg, zo, rfl, hzg, hzat⟩ := HZ.out.lies (by omega)
            have hzgr : zg < wi.heap.size := Nat.lt_of_lt_of_le hzg HJ2.out.below.size
            have hzc : wi.cell? ⟨zg, zo + i, none⟩ = some (.int .i64 (wd zs i)) := (hzat.jk HJ2.out hzg) i (by rw [HLz.out]; omega)
            have hmem : wd zs i ∈ zs := by
              have hil : i < zs.length := by rw [HLz.out]; omega
              simp only [wd, List.getD_eq_getElem?_getD, List.getElem?_eq_getElem hil, Option.getD_some]
              exact List.getElem_mem _
            obtain ⟨I, X, hI, hX, HHit'⟩ := HHj.out _ hmem
            have HHt := hid HHit'
            have HI2 : Hid (I < n ∧ X < (tA ts I).ws.length) := ⟨hI, hX⟩
            have HPv : Hid (∀ i' : Nat, i' + 1 = i → wi.cell? ⟨zg, zo + i', none⟩ = some (.int .i64 (wd zs i')) ∧ wd zs i' < wd zs i) := fun i' e => by
              refine ⟨(hzat.jk HJ2.out hzg) i' (by rw [HLz.out]; omega), ?_⟩
              have hil : i < zs.length := by rw [HLz.out]; omega
              have := List.pairwise_iff_getElem.1 HUp.out i' i (by omega) hil (by omega)
              simpa [wd, hil, show i' < zs.length by omega] using this
            obtain ⟨T, hT⟩ : ∃ T, wd zs i = T := ⟨_, rfl⟩
            have HTe : Hid (wd zs i = T) := hT
            rw [hT] at hzc HHt HPv
            obtain ⟨hPi, hQi⟩ := HPc.out _ HJ1i.out
            have p0 := hPi.1
            have q0 := hQi.1
            have pc := hPi.at hj4
            have qc := hQi.at hj4
            obtain ⟨XJ, hXJ⟩ : ∃ z, x (j : Int) = z := ⟨_, rfl⟩
            obtain ⟨YJ, hYJ⟩ : ∃ z, y (j : Int) = z := ⟨_, rfl⟩
            have HXJ : Hid (x (j : Int) = XJ ∧ y (j : Int) = YJ) := ⟨hXJ, hYJ⟩
            rw [hXJ] at pc
            rw [hYJ] at qc
            have hjz0 : (0 : Int) ≤ (j : Int) := by omega
            have hjz4 : (j : Int) < 4 := by omega
            clear hmem hT hzat hI hX HHit' hXJ hYJ hPi hQi
            have hfirst : i = 0 ∨ ∃ i', i = i' + 1 := by cases i with
              | zero => exact .inl rfl
              | succ i' => exact .inr ⟨i', rfl⟩
            go_upto_region 13 with fail
            go_cut [61] (fun v wc => v = .bool false ∧ wc = wi)
            case first =>
              rcases hfirst with rfl | ⟨i', rfl⟩
              · go_wp2
                go_meet
                case rel => exact ⟨rfl, rfl⟩
              · obtain ⟨hzc2, hlt⟩ := HPv.out i' rfl
                obtain ⟨T0, hT0⟩ : ∃ T0, wd zs i' = T0 := ⟨_, rfl⟩
                rw [hT0] at hzc2 hlt
                have hpos : (0 : Int) < ((i' + 1 : Nat) : Int) := by omega
                have hsub : ((i' + 1 : Nat) : Int) - 1 = (i' : Int) := by omega
                have hsub2 : (i' : Int) + 1 - 1 = (i' : Int) := by omega
                have hiz2 : (i' : Int) < (zn : Int) := by omega
                have hpos2 : (0 : Int) < (i' : Int) + 1 := by omega
                have hnot : ¬ T ≤ T0 := by omega
                go_wp2
                go_meet
                case rel => exact ⟨by simp, rfl⟩
            case rest =>
              obtain ⟨rfl, hwc⟩ := hcut
              subst hwc
              obtain ⟨wi, rfl⟩ : ∃ z, z = wc := ⟨_, rfl⟩
              clear HPv hfirst
              go_upto_region 15 with fail
              go_cut [8] (fun v wc => ∃ b2 : Bool, v = .bool b2 ∧ Hid (b2 = true → b' = true ∧ (XJ ≤ T ↔ YJ ≤ T)) ∧ Jk wi wc)
              case first =>
                cases b'
                · refine region_junk (by kernel_rfl) (by kernel_rfl) ?_
                  repeat (go_big_quiet_step (first | exact rfl))
                  refine wpQuiet_nil ?_
                  rintro _ ⟨XX, rfl⟩
                  go_wp2_with fail
                  go_meet
                  case rel => exact ⟨false, rfl, hid (fun h => by cases h), (Jk.refl _).junk _⟩
                · refine region_junk (by kernel_rfl) (by kernel_rfl) ?_
                  repeat (go_big_quiet_step (first | exact rfl))
                  refine wpQuiet_nil ?_
                  rintro _ ⟨XX, rfl⟩
                  go_wp2_with fail
                  go_meet
                  case rel =>
                    exact ⟨_, rfl, hid (fun h => ⟨by trivial, by simpa using h⟩), (Jk.refl _).junk _⟩
              case rest =>
                obtain ⟨b2, rfl, HB2, hJ15⟩ := hcut
                obtain ⟨w15, rfl⟩ : ∃ z, z = wc := ⟨_, rfl⟩
                have HJ15 := hid hJ15
                have HM15 := hid (HMi.out.jk hJ15)
                have HJ1a : Hid (Jk w1 w15) := HJ1i.out.trans hJ15
                clear m0 m1 m2 m3 m4 m5 m6 p0 q0 pc qc hzc hJ15
                obtain ⟨m0, m1, m2, m3, m4, m5, m6⟩ := HM15.out.in
                simp only at m1 m2 m3 m4 m5 m6
                go_wp2
                go_loopg [14, 79] n (fun r th idx wr => ∃ (i3 : Nat) (bt : Bool), i3 + r = n ∧ idx = .int .i64 (i3 : Int) ∧ th = .bool bt ∧ Hid (I < i3 → bt = true) ∧ Hid (Jk w15 wr))
                case atStart => exact ⟨0, false, by omega, rfl, rfl, hid (fun h => by omega), hid (Jk.refl _)⟩
                case round =>
                  obtain ⟨i3, bt, hi3, rfl, rfl, HB3, HJ3⟩ := hrel
                  obtain ⟨wk, rfl⟩ : ∃ z, z = wr := ⟨_, rfl⟩
                  obtain ⟨r4, hr4⟩ : ∃ z, z = gk := ⟨_, rfl⟩
                  subst hr4
                  clear m0 m1 m2 m3 m4 m5 m6
                  obtain ⟨m0, m1, m2, m3, m4, m5, m6⟩ := (HM15.out.jk HJ3.out).in
                  simp only at m1 m2 m3 m4 m5 m6
                  by_cases hfuel3 : r4 = 0
                  · subst hfuel3
                    obtain rfl : i3 = n := by omega
                    obtain rfl : true = bt := (HB3.out HI2.out.1).symm
                    go_wp2
                    go_roundg r3
                    case measure => omega
                    case rel =>
                      refine ⟨i + 1, b2, by omega, by go_num, by go_num, rfl, hid (fun e => ?_), hid (HJ2.out.trans (HJ15.out.trans HJ3.out))⟩
                      obtain ⟨e1, e2⟩ := HB2.out e
                      obtain ⟨e3, e4⟩ := HS2.out e1
                      refine ⟨e3, fun i' hi' => ?_⟩
                      by_cases e5 : i' < i
                      · exact e4 i' e5
                      · obtain rfl : i' = i := by omega
                        rw [HTe.out, HXJ.out.1, HXJ.out.2]
                        exact e2
                  · obtain ⟨r5, rfl⟩ : ∃ r, r4 = r + 1 := ⟨r4 - 1, by omega⟩
                    have h3n : (i3 : Int) < (n : Int) := by omega
                    obtain ⟨g, o, rfl, hg, hat⟩ := HOk.out.is.lies (by simp only; omega)
                    have hJ1k : Jk w1 wk := HJ1a.out.trans HJ3.out
                    have hgr : g < wk.heap.size := Nat.lt_of_lt_of_le hg hJ1k.below.size
                    obtain ⟨k0, k1⟩ := (hat.jk hJ1k hg) i3 (by have := HLn.out; simp only; omega)
                    have hok3 := (HOk.out.is.all i3 (by simp only; omega)).is
                    have HT3 : Hid (TreeP (tA ts i3).ws (DD : Int)) := HTr.out i3 (by omega)
                    have HX3 : Hid (I = i3 → X < (tA ts i3).ws.length ∧ HitN (wd (tA ts i3).ws X) (j : Int) T) := fun e => by subst e; exact ⟨HI2.out.2, HHt.out⟩
                    simp only at k0 k1 hok3
                    obtain ⟨t, ht⟩ : ∃ t, tA ts i3 = t := ⟨_, rfl⟩
                    rw [ht] at k0 k1 hok3 HT3 HX3
                    clear ht hat
                    obtain ⟨cl, ta, tn, tc, tw⟩ := t
                    simp only at k0 k1 HT3 hok3 HX3
                    have HW := hid hok3
                    have hmax2 := hok3.max
                    have hcap2 := hok3.cap
                    have HLw : Hid (tw.length = tn) := hok3.len
                    unfold maxLen at hmax2
                    have HJ1k := hid hJ1k
                    clear hok3 hJ1k
                    go_wp2
                    go_loopg [14, 86] tn (fun r th idx wr => ∃ (x4 : Nat) (bu : Bool), x4 + r = tn ∧ idx = .int .i64 (x4 : Int) ∧ th = .bool bu ∧ Hid ((I < i3 ∨ (I = i3 ∧ X < x4)) → bu = true) ∧ Hid (Jk wk wr))
                    case atStart => exact ⟨0, bt, by omega, rfl, rfl, hid (fun h => HB3.out (by omega)), by repeat (with_reducible first | apply hid | exact Jk.refl _ | apply Jk.junk | apply Jk.alloc)⟩
                    case round =>
                      obtain ⟨x4, bu, hx4, rfl, rfl, HB4, HJ4⟩ := hrel
                      clear k0 k1
                      by_cases hfuel4 : gk = 0
                      · subst hfuel4
                        obtain rfl : x4 = tn := by omega
                        go_wp2
                        go_roundg r5
                        case measure => omega
                        case rel => exact ⟨i3 + 1, bu, by omega, by go_num, rfl, hid (fun h => HB4.out (by
                          by_cases e : I = i3
                          · right; exact ⟨e, by have := (HX3.out e).1; rw [HLw.out] at this; exact this⟩
                          · left; omega)), hid (HJ3.out.trans HJ4.out)⟩
                      · obtain ⟨r6, rfl⟩ : ∃ r, gk = r + 1 := ⟨gk - 1, by omega⟩
                        have h4n : (x4 : Int) < (tn : Int) := by omega
                        obtain ⟨g2, o2, rfl, hg2, hat2⟩ := HW.out.lies (by omega)
                        have hgr2 : g2 < wr.heap.size := Nat.lt_of_lt_of_le hg2 (HJ1k.out.trans HJ4.out).below.size
                        have k2 : wr.cell? ⟨g2, o2 + x4, none⟩ = some (.int .u64 (wd tw x4)) := (hat2.jk (HJ1k.out.trans HJ4.out) hg2) x4 (by rw [HLw.out]; omega)
                        obtain ⟨bd1, bd2⟩ := HW.out.bd x4 (by omega)
                        have HU := hid (unpack_ans (wd tw x4) bd1 bd2)
                        have HX4 : Hid (I = i3 → X = x4 → HitN (wd tw x4) (j : Int) T) := fun e1 e2 => by have := (HX3.out e1).2; rw [e2] at this; exact this
                        obtain ⟨ub, hub⟩ : ∃ ub, unB (wd tw x4) = ub := ⟨_, rfl⟩
                        obtain ⟨z, hz⟩ : ∃ z, unI (wd tw x4) = z := ⟨_, rfl⟩
                        unfold HitN at HX4
                        rw [hub, hz] at HU
                        rw [hz] at HX4
                        clear hub hz bd1 bd2 hat2
                        obtain ⟨leaf, v, ff, aa, ll, rr⟩ := z
                        simp only [nodeV] at HU HX4
                        have L1 := lt_more3 hgr2
                        cases bu
                        · cases leaf
                          · by_cases hff : ff = (j : Int)
                            · subst hff
                              by_cases haa : aa = T
                              · subst haa
                                go_wp2_with (first | (go_at_call 20; refine (HU.out.on _).mono ?_; rintro e w5 ⟨rfl, X5, rfl⟩))
                                go_roundg r6
                                case measure => omega
                                case rel => exact ⟨x4 + 1, true, by omega, by go_num, rfl, hid (fun h => rfl), by repeat (with_reducible first | apply hid | exact HJ4.out | apply Jk.junk | apply Jk.alloc)⟩
                              · have haa2 : (aa == T) = false := by simpa using haa
                                go_wp2_with (first | (go_at_call 20; refine (HU.out.on _).mono ?_; rintro e w5 ⟨rfl, X5, rfl⟩))
                                go_roundg r6
                                case measure => omega
                                case rel => exact ⟨x4 + 1, false, by omega, by go_num, rfl, hid (fun h => (not_hit h (fun e => by have := HB4.out e; cases this) (fun e1 e2 => haa (HX4.out e1 e2).2.2)).elim), by repeat (with_reducible first | apply hid | exact HJ4.out | apply Jk.junk | apply Jk.alloc)⟩
                            · have hff2 : (ff == (j : Int)) = false := by simpa using hff
                              go_wp2_with (first | (go_at_call 20; refine (HU.out.on _).mono ?_; rintro e w5 ⟨rfl, X5, rfl⟩))
                              go_roundg r6
                              case measure => omega
                              case rel => exact ⟨x4 + 1, false, by omega, by go_num, rfl, hid (fun h => (not_hit h (fun e => by have := HB4.out e; cases this) (fun e1 e2 => hff (HX4.out e1 e2).2.1)).elim), by repeat (with_reducible first | apply hid | exact HJ4.out | apply Jk.junk | apply Jk.alloc)⟩
                          · have hdummy : True := trivial
                            go_wp2_with (first | (go_at_call 20; refine (HU.out.on _).mono ?_; rintro e w5 ⟨rfl, X5, rfl⟩))
                            go_roundg r6
                            case measure => omega
                            case rel => exact ⟨x4 + 1, false, by omega, by go_num, rfl, hid (fun h => (not_hit h (fun e => by have := HB4.out e; cases this) (fun e1 e2 => absurd (HX4.out e1 e2).1 (by simp))).elim), by repeat (with_reducible first | apply hid | exact HJ4.out | apply Jk.junk | apply Jk.alloc)⟩
                        · have hdummy : True := trivial
                          go_wp2_with (first | (go_at_call 20; refine (HU.out.on _).mono ?_; rintro e w5 ⟨rfl, X5, rfl⟩))
                          go_roundg r6
                          case measure => omega
                          case rel => exact ⟨x4 + 1, true, by omega, by go_num, rfl, hid (fun h => rfl), by repeat (with_reducible first | apply hid | exact HJ4.out | apply Jk.junk | apply Jk.alloc)⟩

end Go.Proofs.Ytnjfbmnecfiliaa
