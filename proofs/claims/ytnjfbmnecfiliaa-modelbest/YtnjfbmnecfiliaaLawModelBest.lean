/- The law ModelBest of chapter 8 answers true: its walk through the Go text, by the contracts of package model. -/
import Derived.Test.YtnjfbmnecfiliaaLawModelRuns
import Derived.Test.YtnjfbmnecfiliaaForestA
import Derived.Test.YtnjfbmnecfiliaaStart
namespace Go.Proofs.Ytnjfbmnecfiliaa
open Go.RowKit M

set_option maxRecDepth 100000 in
set_option maxHeartbeats 3200000 in
theorem modelBest_walk (f : Fo) (x : Int → Int) (w : World) (hf : f.ok w) (_ : PtFit x) : Calls Try.prog 5 #[forestV f, pointV x] w fun e w' => e = .returned (.bool true) ∧ Jk w w' := by
  have J := rules8
  obtain ⟨wF, hwF⟩ : ∃ wF, w.alloc (.cells #[.int .i64 f.d, .int .i64 f.k, .slice f.ba f.bn f.bc, .slice f.sa f.sn f.sc] 42) = wF := ⟨_, rfl⟩
  have hszF : wF.heap.size = w.heap.size + 1 := by rw [← hwF]; simp
  have HFi : Hid (FoIn wF w.heap.size f) := hwF ▸ FoIn.laid w f _
  have HJF : Hid (Jk w wF) := hwF ▸ (Jk.refl w).alloc _
  obtain ⟨w0, hw0⟩ : ∃ w0, wF.alloc (.cells #[.int .i64 (x 0), .int .i64 (x 1), .int .i64 (x 2), .int .i64 (x 3)] 33) = w0 := ⟨_, rfl⟩
  have hsz0 : w0.heap.size = w.heap.size + 1 + 1 := by rw [← hw0]; simp [hszF]
  have HJ0 : Hid (Jk w w0) := HJF.out.trans (hw0 ▸ (Jk.refl wF).alloc _)
  have HP : Hid (PtIn w0 (w.heap.size + 1) (x 0) (x 1) (x 2) (x 3)) := hszF ▸ hw0 ▸ PtIn.laid wF (x 0) (x 1) (x 2) (x 3) _
  have HFo : Hid (FoIn w0 w.heap.size f) := HFi.out.jk (hw0 ▸ (Jk.refl wF).alloc _)
  have HM : Hid (Calls Try.prog 17 #[forestV f] w0 fun e w' => GotM w0 e w') := model_any f w0 (hf.jk HJ0.out)
  have HRuns : Hid (∀ w', Calls Try.prog 3 #[] w' fun e w'' => e = .returned (.bool true) ∧ Jk w' w'') := fun w' => modelRuns_walk w'
  obtain ⟨fi0, fi1, fi2, fi3, fi4⟩ := HFo.out
  clear hf HFi HJF HFo
  obtain ⟨d, k, ba, bn, bc, bz, sa, sn, sc, ss⟩ := f
  simp only [forestV, pointV] at *
  go_enter Try.func5, Try.ntmps5
  go_upto_region 1 with fail
  go_cut [5] (fun p wc => ∃ w1 h m, p = .pointer (some ⟨h, 0, none⟩) ∧ Made w0 w1 wc h m)
  case first =>
    go_wp2_with (first | (go_at_call 17; refine HM.out.mono ?_; rintro e w1 ⟨m, rfl, hr, h3, h4, hfr, hj⟩; have HMd := hid (GotM.made hr h3 h4 hfr hj); clear hr h3 h4 hfr hj))
    go_meet
    case rel => exact ⟨w1, _, m, rfl, HMd.out⟩
  case rest =>
    obtain ⟨w1, h, m, rfl, hMB, hh, hr, hd3, hn4, hfr, hj1, hjc⟩ := hcut
    have hok := hr.mdok hfr
    have hk1 := hr.k1
    have hk3 := hr.k3
    obtain ⟨b, hb⟩ : ∃ b, bestTo m x (m.k - 1).toNat = b := ⟨_, rfl⟩
    have hb1 := bestTo_bd m x (m.k - 1).toNat
    have HBb : Hid (∀ c : Int, 0 ≤ c → c < m.k → m.sum x c ≤ m.sum x b ∧ (c < b → m.sum x c < m.sum x b)) := fun c h0 h1 => by
      have := bestTo_best m x (m.k - 1).toNat c h0 (by omega)
      rwa [hb] at this
    rw [hb] at hb1
    have hb2 : 0 ≤ b ∧ b < m.k := by omega
    have HB := hid (best_yes x hok hr hb)
    have HR := hid (rightM_ans (b := true) hok (by simp [hr]))
    have HE : Hid (∀ c : Int, 0 ≤ c → c < m.k → AnsW w1 11 #[modelV m, .int .i64 c, pointV x] (.int .i64 (m.sum x c))) := fun c h0 h1 => eval_ans x hok (hr.evalP x h0 h1)
    have hok0 : Md.ok w1 { m with d := 0 } := ⟨⟨by simp only; omega, by simp only; omega⟩, hok.fk, hok.f0, hok.f1, hok.f2, hok.is⟩
    have HB0 := hid (best_no x hok0 (not_right_dim (by omega)))
    have HE0 := hid (eval_ans (c := 0) (E := 0) x hok0 ⟨fun h' => absurd h' (not_right_dim (by omega)), fun _ => rfl⟩)
    obtain ⟨s, hs⟩ : ∃ s, m.sum x = s := ⟨_, rfl⟩
    rw [hs] at HBb HE
    have HEb := hid (HE.out b hb2.1 hb2.2)
    obtain ⟨K, hK⟩ : ∃ K : Nat, m.k = (K : Int) := ⟨m.k.toNat, by omega⟩
    rw [hK] at hk1 hk3 hb2
    have HMB := hid hMB
    have HJc := hid hjc
    have HJ1 := hid hj1
    have HPc : Hid (∀ wr, Jk w1 wr → PtIn wr (w.heap.size + 1) (x 0) (x 1) (x 2) (x 3)) := fun wr hj => HP.out.jk (hj1.trans hj)
    clear hb1 hb hs hok hok0 hr hfr hd3 hn4 hMB hjc hj1
    obtain ⟨D, k', b0, b1, b2, a, n, c, ts⟩ := m
    obtain rfl : k' = (K : Int) := hK
    simp only [modelV, pointV] at HB HR HE HB0 HE0 HEb HBb
    obtain ⟨m0, m1, m2, m3, m4, m5, m6⟩ := HMB.out.in
    simp only at m1 m2 m3 m4 m5 m6
    obtain ⟨q0, q1, q2, q3, q4⟩ := HPc.out _ HJc.out
    have L1 := lt_more3 m0
    have L2 := lt_more3 q0
    obtain ⟨S, hS⟩ : ∃ S, s b = S := ⟨_, rfl⟩
    rw [hS] at HEb HBb
    clear hS fi0 fi1 fi2 fi3 fi4
    go_wp2_with (first
      | (go_at_call 15; refine (HB.out.on _ (by repeat (with_reducible first | exact HJc.out | apply Jk.junk | apply Jk.alloc))).mono ?_; rintro e w1' ⟨rfl, X1, rfl⟩)
      | (go_at_call 10; refine (HR.out.on _ (by repeat (with_reducible first | exact HJc.out | apply Jk.junk | apply Jk.alloc))).mono ?_; rintro e w1' ⟨rfl, X2, rfl⟩)
      | (go_at_call 11; refine (HEb.out.on _ (by repeat (with_reducible first | exact HJc.out | apply Jk.junk | apply Jk.alloc))).mono ?_; rintro e w1' ⟨rfl, X3, rfl⟩))
    go_loopg [8] K (fun r c' wr => ∃ j : Nat, j + r = K ∧ c' = .int .i64 (j : Int) ∧ Hid (Jk wc wr))
    case atStart => exact ⟨0, by omega, rfl, by repeat (with_reducible first | apply hid | exact Jk.refl _ | apply Jk.junk | apply Jk.alloc)⟩
    case round =>
      obtain ⟨j, hj, rfl, HJ⟩ := hrel
      clear m0 m1 m2 m3 m4 m5 m6 q0 q1 q2 q3 q4 L1 L2
      have HMr := hid (HMB.out.jk HJ.out)
      obtain ⟨m0, m1, m2, m3, m4, m5, m6⟩ := HMr.out.in
      have fz := HMr.out.frozen
      simp only at m1 m2 m3 m4 m5 m6
      obtain ⟨q0, q1, q2, q3, q4⟩ := HPc.out _ (HJc.out.trans HJ.out)
      have L1 := lt_more3 m0
      have L2 := lt_more3 q0
      by_cases hfuel : gk = 0
      · subst hfuel
        obtain rfl : j = K := by omega
        have HJs : Hid (Jk w1 (wr.setCell ⟨h, 0, none⟩ (.int .i64 0))) := (HJc.out.trans HJ.out).set hh _
        have HMz := hid (HMr.out.setD 0)
        obtain ⟨wz, hwz⟩ : ∃ wz, wr.setCell ⟨h, 0, none⟩ (.int .i64 0) = wz := ⟨_, rfl⟩
        rw [hwz] at HJs HMz
        obtain ⟨z0, z1, z2, z3, z4, z5, z6⟩ := HMz.out.in
        simp only at z1 z2 z3 z4 z5 z6
        obtain ⟨y0, y1, y2, y3, y4⟩ := HPc.out _ HJs.out
        have L3 := lt_more3 z0
        have L4 := lt_more3 y0
        clear HB HR HE HEb HBb
        go_wp2_with (first
          | (go_at_call 15; refine (HB0.out.on _ (by repeat (with_reducible first | exact HJs.out | apply Jk.junk | apply Jk.alloc))).mono ?_; rintro e w1' ⟨rfl, X1, rfl⟩)
          | (go_at_call 11; refine (HE0.out.on _ (by repeat (with_reducible first | exact HJs.out | apply Jk.junk | apply Jk.alloc))).mono ?_; rintro e w1' ⟨rfl, X3, rfl⟩)
          | (go_at_call 3; refine (HRuns.out _).mono ?_; rintro e w1' ⟨rfl, X4, rfl⟩))
        go_ret
        exact ⟨rfl, by repeat (with_reducible first | exact (HJ0.out.trans (HJ1.out.trans HJs.out)) | apply Jk.junk | apply Jk.alloc)⟩
      · obtain ⟨r, rfl⟩ : ∃ r, gk = r + 1 := ⟨gk - 1, by omega⟩
        have hjK : (j : Int) < (K : Int) := by omega
        obtain ⟨e1, e2⟩ := HBb.out j (by omega) hjK
        have HEj := hid (HE.out j (by omega) hjK)
        obtain ⟨Y, hY⟩ : ∃ Y, s j = Y := ⟨_, rfl⟩
        rw [hY] at HEj e1 e2
        have e3 : ¬ S < Y := by omega
        clear hY
        by_cases hlt : (j : Int) < b
        · have e4 : (Y == S) = false := by have := e2 hlt; simp; omega
          clear e2
          go_wp2_with (first | (go_at_call 11; refine (HEj.out.on _ (by repeat (with_reducible first | exact (HJc.out.trans HJ.out) | apply Jk.junk | apply Jk.alloc))).mono ?_; rintro e w1' ⟨rfl, X3, rfl⟩))
          go_roundg r
          case measure => omega
          case rel => exact ⟨j + 1, by omega, by go_num, by repeat (with_reducible first | apply hid | exact HJ.out | apply Jk.junk | apply Jk.alloc)⟩
        · clear e2
          go_wp2_with (first | (go_at_call 11; refine (HEj.out.on _ (by repeat (with_reducible first | exact (HJc.out.trans HJ.out) | apply Jk.junk | apply Jk.alloc))).mono ?_; rintro e w1' ⟨rfl, X3, rfl⟩))
          go_roundg r
          case measure => omega
          case rel => exact ⟨j + 1, by omega, by go_num, by repeat (with_reducible first | apply hid | exact HJ.out | apply Jk.junk | apply Jk.alloc)⟩

end Go.Proofs.Ytnjfbmnecfiliaa
