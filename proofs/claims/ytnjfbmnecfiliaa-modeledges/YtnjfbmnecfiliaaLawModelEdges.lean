/- The law ModelEdges of chapter 8 answers true: its walk through the Go text, by the contracts of package model. -/
import Derived.Test.YtnjfbmnecfiliaaLawModelRuns
import Derived.Test.YtnjfbmnecfiliaaForestA
import Derived.Test.YtnjfbmnecfiliaaAppTwo
namespace Go.Proofs.Ytnjfbmnecfiliaa
open Go.RowKit M

theorem wrong_ans {m : Md} {w : World} (hok : m.ok w) (hn : ¬ RightM m) (x : Int → Int) : AnsW w 10 #[modelV m] (.bool false) ∧ AnsW w 11 #[modelV m, .int .i64 0, pointV x] (.int .i64 0) ∧ AnsW w 13 #[modelV m, .int .i64 0] (.slice none 0 0) :=
  ⟨rightM_ans hok (by simp [hn]), eval_ans x hok ⟨fun h => absurd h hn, fun _ => rfl⟩, thr_no hok hn⟩
theorem no_full {m : Md} {a : Option Addr} {n c : Nat} {ts : List Tr} (h : RightM { m with a := a, n := n, c := c, ts := ts ++ [⟨0, none, 0, 0, []⟩] }) : False := by
  have := (h.trees.2 ts.length (by simp)).tree.full
  simp only [tA_last] at this
  simp at this
theorem no_bias {k b0 b1 b2 : Int} (h : 2147483647 < b0) : ¬ BiasP k b0 b1 b2 := fun h' => by
  have := h'.1.1
  simp [fit32] at this
  omega

set_option maxRecDepth 100000 in
set_option maxHeartbeats 6400000 in
theorem modelEdges_walk (f : Fo) (what by_ : Int) (x : Int → Int) (w : World) (hf : f.ok w) (hwhat : (Lit.int .i64 what).wf = true) (hby : (Lit.int .i64 by_).wf = true) (_ : PtFit x) : Calls Try.prog 8 #[forestV f, .int .i64 what, .int .i64 by_, pointV x] w fun e w' => e = .returned (.bool true) ∧ Jk w w' := by
  have J := rules8
  have hN := within_bd by_ 0 1099511627776 (by omega)
  have HWn := hid (within_p (n := by_) (lo := 0) (hi := 1099511627776) rfl (bdi hby) (by omega) (by omega) (by omega))
  have hV := within_bd what 0 7 (by omega)
  have HWv := hid (within_p (n := what) (lo := 0) (hi := 7) rfl (bdi hwhat) (by omega) (by omega) (by omega))
  obtain ⟨N, hNe⟩ : ∃ N, withinI by_ 0 1099511627776 = N := ⟨_, rfl⟩
  obtain ⟨V, hVe⟩ : ∃ V, withinI what 0 7 = V := ⟨_, rfl⟩
  rw [hNe] at hN HWn
  rw [hVe] at hV HWv
  clear hNe hVe hwhat hby
  obtain ⟨wF, hwF⟩ : ∃ wF, w.alloc (.cells #[.int .i64 f.d, .int .i64 f.k, .slice f.ba f.bn f.bc, .slice f.sa f.sn f.sc] 42) = wF := ⟨_, rfl⟩
  have hszF : wF.heap.size = w.heap.size + 1 := by rw [← hwF]; simp
  have HFi : Hid (FoIn wF w.heap.size f) := hwF ▸ FoIn.laid w f _
  have HJF : Hid (Jk w wF) := hwF ▸ (Jk.refl w).alloc _
  obtain ⟨w0, hw0⟩ : ∃ w0, wF.alloc (.cells #[.int .i64 (x 0), .int .i64 (x 1), .int .i64 (x 2), .int .i64 (x 3)] 33) = w0 := ⟨_, rfl⟩
  have hsz0 : w0.heap.size = w.heap.size + 1 + 1 := by rw [← hw0]; simp [hszF]
  have HJ0 : Hid (Jk w w0) := HJF.out.trans (hw0 ▸ (Jk.refl wF).alloc _)
  have HP : Hid (PtIn w0 (w.heap.size + 1) (x 0) (x 1) (x 2) (x 3)) := hszF ▸ hw0 ▸ PtIn.laid wF (x 0) (x 1) (x 2) (x 3) _
  have HFo : Hid (FoIn w0 w.heap.size f) := HFi.out.jk (hw0 ▸ (Jk.refl wF).alloc _)
  have HM : Hid (Calls Try.prog 17 #[forestV f] w0 fun e w' => GotM w0 e w') := model_any f w0 (hf.jk HJ0.out)
  have HRuns : Hid (∀ w', Calls Try.prog 3 #[] w' fun e w'' => e = .returned (.bool true) ∧ Jk w' w'') := fun w' => modelRuns_walk w'
  obtain ⟨fi0, fi1, fi2, fi3, fi4⟩ := HFo.out
  clear hf HFi HJF HFo
  obtain ⟨d, k, ba, bn, bc, bz, sa, sn, sc, ss⟩ := f
  simp only [forestV, pointV] at *
  go_enter Try.func8, Try.ntmps8
  go_upto_region 1 with fail
  go_cut [9] (fun p wc => ∃ w1 h m, p = .pointer (some ⟨h, 0, none⟩) ∧ Made w0 w1 wc h m)
  case first =>
    go_wp2_with (first | (go_at_call 17; refine HM.out.mono ?_; rintro e w1 ⟨m, rfl, hr, h3, h4, hfr, hj⟩; have HMd := hid (GotM.made hr h3 h4 hfr hj); clear hr h3 h4 hfr hj))
    go_meet
    case rel => exact ⟨w1, _, m, rfl, HMd.out⟩
  case rest =>
    obtain ⟨w1, h, m, rfl, hMB, hh, hr, hd3, hn4, hfr, hj1, hjc⟩ := hcut
    have hok := hr.mdok hfr
    have HR := hid (rightM_ans (b := true) hok (by simp [hr]))
    have HMB := hid hMB
    have HJc := hid hjc
    have HJ1 := hid hj1
    have HOk := hid hok
    have HRm := hid hr
    have HFr := hid hfr
    clear hMB hjc hj1 hok hr hfr fi0 fi1 fi2 fi3 fi4
    obtain ⟨D, k', b0, b1, b2, a, n, c, ts⟩ := m
    simp only [modelV] at HR
    obtain ⟨m0, m1, m2, m3, m4, m5, m6⟩ := HMB.out.in
    simp only at m1 m2 m3 m4 m5 m6 hd3 hn4
    have L1 := lt_more3 m0
    go_upto_region 7 with (first
      | (go_at_call 10; refine (HR.out.on _ HJc.out).mono ?_; rintro e wj ⟨rfl, hjj⟩; obtain ⟨m0, m1, m2, m3, m4, m5, m6⟩ := (HMB.out.jk hjj).in; simp only at m1 m2 m3 m4 m5 m6)
      | (go_at_call 16; refine (AnsP.on (by with_reducible first | exact HWn.out | exact HWv.out) _).mono ?_; rintro e w' ⟨rfl, hw⟩; obtain rfl := hw.symm))
    have HMB := hid (HMB.out.jk hjj)
    have HJc := hid (HJc.out.trans hjj)
    clear hjj HR
    have fz := HMB.out.frozen
    have hVV : V = 0 ∨ V = 1 ∨ V = 2 ∨ V = 3 ∨ V = 4 ∨ V = 5 ∨ V = 6 ∨ V = 7 := by omega
    rcases hVV with rfl | rfl | rfl | rfl | rfl | rfl | rfl | rfl
    · obtain ⟨wz, hwz⟩ : ∃ wz, (wj.setCell ⟨h, 0, none⟩ (.int .i64 (4 + (1 + N)))) = wz := ⟨_, rfl⟩
      have HJz : Hid (Jk w1 wz) := hwz ▸ (HJc.out.set hh _)
      have HMz : Hid (MdB wz h ⟨4 + (1 + N), k', b0, b1, b2, a, n, c, ts⟩) := hwz ▸ (HMB.out.setD (4 + (1 + N)))
      have hokz : Md.ok wz ⟨4 + (1 + N), k', b0, b1, b2, a, n, c, ts⟩ := ⟨⟨by simp only; omega, by simp only; omega⟩, HOk.out.fk, HOk.out.f0, HOk.out.f1, HOk.out.f2, HOk.out.is.jk HJz.out⟩
      obtain ⟨W1, W2, W3⟩ := wrong_ans hokz (fun hr => by have := hr.d4; simp only at this; omega) x
      have W1 := hid W1
      have W2 := hid W2
      have W3 := hid W3
      simp only [modelV, pointV] at W1 W2 W3
      obtain ⟨z0, z1, z2, z3, z4, z5, z6⟩ := HMz.out.in
      simp only at z1 z2 z3 z4 z5 z6
      obtain ⟨y0, y1, y2, y3, y4⟩ := HP.out.jk (HJ1.out.trans HJz.out)
      have L3 := lt_more3 z0
      have L4 := lt_more3 y0
      clear hokz
      go_wp2_with (first
          | (go_at_call 10; refine (W1.out.on _ (by repeat (with_reducible first | exact Jk.refl _ | apply Jk.junk | apply Jk.alloc))).mono ?_; rintro e w1' ⟨rfl, X5, rfl⟩)
          | (go_at_call 11; refine (W2.out.on _ (by repeat (with_reducible first | exact Jk.refl _ | apply Jk.junk | apply Jk.alloc))).mono ?_; rintro e w1' ⟨rfl, X6, rfl⟩)
          | (go_at_call 13; refine (W3.out.on _ (by repeat (with_reducible first | exact Jk.refl _ | apply Jk.junk | apply Jk.alloc))).mono ?_; rintro e w1' ⟨rfl, X7, rfl⟩)
          | (go_at_call 3; refine (HRuns.out _).mono ?_; rintro e w1' ⟨rfl, X8, rfl⟩))
      go_ret
      exact ⟨rfl, by repeat (with_reducible first | exact (HJ0.out.trans (HJ1.out.trans HJz.out)) | apply Jk.junk | apply Jk.alloc)⟩
    · obtain ⟨wz, hwz⟩ : ∃ wz, (wj.setCell ⟨h, 0, none⟩ (.int .i64 (1 - (1 + N)))) = wz := ⟨_, rfl⟩
      have HJz : Hid (Jk w1 wz) := hwz ▸ (HJc.out.set hh _)
      have HMz : Hid (MdB wz h ⟨1 - (1 + N), k', b0, b1, b2, a, n, c, ts⟩) := hwz ▸ (HMB.out.setD (1 - (1 + N)))
      have hokz : Md.ok wz ⟨1 - (1 + N), k', b0, b1, b2, a, n, c, ts⟩ := ⟨⟨by simp only; omega, by simp only; omega⟩, HOk.out.fk, HOk.out.f0, HOk.out.f1, HOk.out.f2, HOk.out.is.jk HJz.out⟩
      obtain ⟨W1, W2, W3⟩ := wrong_ans hokz (fun hr => by have := hr.d1; simp only at this; omega) x
      have W1 := hid W1
      have W2 := hid W2
      have W3 := hid W3
      simp only [modelV, pointV] at W1 W2 W3
      obtain ⟨z0, z1, z2, z3, z4, z5, z6⟩ := HMz.out.in
      simp only at z1 z2 z3 z4 z5 z6
      obtain ⟨y0, y1, y2, y3, y4⟩ := HP.out.jk (HJ1.out.trans HJz.out)
      have L3 := lt_more3 z0
      have L4 := lt_more3 y0
      clear hokz
      go_wp2_with (first
          | (go_at_call 10; refine (W1.out.on _ (by repeat (with_reducible first | exact Jk.refl _ | apply Jk.junk | apply Jk.alloc))).mono ?_; rintro e w1' ⟨rfl, X5, rfl⟩)
          | (go_at_call 11; refine (W2.out.on _ (by repeat (with_reducible first | exact Jk.refl _ | apply Jk.junk | apply Jk.alloc))).mono ?_; rintro e w1' ⟨rfl, X6, rfl⟩)
          | (go_at_call 13; refine (W3.out.on _ (by repeat (with_reducible first | exact Jk.refl _ | apply Jk.junk | apply Jk.alloc))).mono ?_; rintro e w1' ⟨rfl, X7, rfl⟩)
          | (go_at_call 3; refine (HRuns.out _).mono ?_; rintro e w1' ⟨rfl, X8, rfl⟩))
      go_ret
      exact ⟨rfl, by repeat (with_reducible first | exact (HJ0.out.trans (HJ1.out.trans HJz.out)) | apply Jk.junk | apply Jk.alloc)⟩
    · obtain ⟨wz, hwz⟩ : ∃ wz, (wj.setCell ⟨h, 1, none⟩ (.int .i64 (3 + (1 + N)))) = wz := ⟨_, rfl⟩
      have HJz : Hid (Jk w1 wz) := hwz ▸ (HJc.out.set hh _)
      have HMz : Hid (MdB wz h ⟨D, 3 + (1 + N), b0, b1, b2, a, n, c, ts⟩) := hwz ▸ (HMB.out.setK (3 + (1 + N)))
      have hokz : Md.ok wz ⟨D, 3 + (1 + N), b0, b1, b2, a, n, c, ts⟩ := ⟨HOk.out.fd, ⟨by simp only; omega, by simp only; omega⟩, HOk.out.f0, HOk.out.f1, HOk.out.f2, HOk.out.is.jk HJz.out⟩
      obtain ⟨W1, W2, W3⟩ := wrong_ans hokz (fun hr => by have := hr.k3; simp only at this; omega) x
      have W1 := hid W1
      have W2 := hid W2
      have W3 := hid W3
      simp only [modelV, pointV] at W1 W2 W3
      obtain ⟨z0, z1, z2, z3, z4, z5, z6⟩ := HMz.out.in
      simp only at z1 z2 z3 z4 z5 z6
      obtain ⟨y0, y1, y2, y3, y4⟩ := HP.out.jk (HJ1.out.trans HJz.out)
      have L3 := lt_more3 z0
      have L4 := lt_more3 y0
      clear hokz
      go_wp2_with (first
          | (go_at_call 10; refine (W1.out.on _ (by repeat (with_reducible first | exact Jk.refl _ | apply Jk.junk | apply Jk.alloc))).mono ?_; rintro e w1' ⟨rfl, X5, rfl⟩)
          | (go_at_call 11; refine (W2.out.on _ (by repeat (with_reducible first | exact Jk.refl _ | apply Jk.junk | apply Jk.alloc))).mono ?_; rintro e w1' ⟨rfl, X6, rfl⟩)
          | (go_at_call 13; refine (W3.out.on _ (by repeat (with_reducible first | exact Jk.refl _ | apply Jk.junk | apply Jk.alloc))).mono ?_; rintro e w1' ⟨rfl, X7, rfl⟩)
          | (go_at_call 3; refine (HRuns.out _).mono ?_; rintro e w1' ⟨rfl, X8, rfl⟩))
      go_ret
      exact ⟨rfl, by repeat (with_reducible first | exact (HJ0.out.trans (HJ1.out.trans HJz.out)) | apply Jk.junk | apply Jk.alloc)⟩
    · obtain ⟨wz, hwz⟩ : ∃ wz, (wj.setCell ⟨h, 1, none⟩ (.int .i64 (1 - (1 + N)))) = wz := ⟨_, rfl⟩
      have HJz : Hid (Jk w1 wz) := hwz ▸ (HJc.out.set hh _)
      have HMz : Hid (MdB wz h ⟨D, 1 - (1 + N), b0, b1, b2, a, n, c, ts⟩) := hwz ▸ (HMB.out.setK (1 - (1 + N)))
      have hokz : Md.ok wz ⟨D, 1 - (1 + N), b0, b1, b2, a, n, c, ts⟩ := ⟨HOk.out.fd, ⟨by simp only; omega, by simp only; omega⟩, HOk.out.f0, HOk.out.f1, HOk.out.f2, HOk.out.is.jk HJz.out⟩
      obtain ⟨W1, W2, W3⟩ := wrong_ans hokz (fun hr => by have := hr.k1; simp only at this; omega) x
      have W1 := hid W1
      have W2 := hid W2
      have W3 := hid W3
      simp only [modelV, pointV] at W1 W2 W3
      obtain ⟨z0, z1, z2, z3, z4, z5, z6⟩ := HMz.out.in
      simp only at z1 z2 z3 z4 z5 z6
      obtain ⟨y0, y1, y2, y3, y4⟩ := HP.out.jk (HJ1.out.trans HJz.out)
      have L3 := lt_more3 z0
      have L4 := lt_more3 y0
      clear hokz
      go_wp2_with (first
          | (go_at_call 10; refine (W1.out.on _ (by repeat (with_reducible first | exact Jk.refl _ | apply Jk.junk | apply Jk.alloc))).mono ?_; rintro e w1' ⟨rfl, X5, rfl⟩)
          | (go_at_call 11; refine (W2.out.on _ (by repeat (with_reducible first | exact Jk.refl _ | apply Jk.junk | apply Jk.alloc))).mono ?_; rintro e w1' ⟨rfl, X6, rfl⟩)
          | (go_at_call 13; refine (W3.out.on _ (by repeat (with_reducible first | exact Jk.refl _ | apply Jk.junk | apply Jk.alloc))).mono ?_; rintro e w1' ⟨rfl, X7, rfl⟩)
          | (go_at_call 3; refine (HRuns.out _).mono ?_; rintro e w1' ⟨rfl, X8, rfl⟩))
      go_ret
      exact ⟨rfl, by repeat (with_reducible first | exact (HJ0.out.trans (HJ1.out.trans HJz.out)) | apply Jk.junk | apply Jk.alloc)⟩
    · obtain ⟨wz, hwz⟩ : ∃ wz, (wj.setCell ⟨h, 2, none⟩ (.int .i64 (2147483647 + (1 + N)))) = wz := ⟨_, rfl⟩
      have HJz : Hid (Jk w1 wz) := hwz ▸ (HJc.out.set hh _)
      have HMz : Hid (MdB wz h ⟨D, k', 2147483647 + (1 + N), b1, b2, a, n, c, ts⟩) := hwz ▸ (HMB.out.setB0 (2147483647 + (1 + N)))
      have hokz : Md.ok wz ⟨D, k', 2147483647 + (1 + N), b1, b2, a, n, c, ts⟩ := ⟨HOk.out.fd, HOk.out.fk, ⟨by simp only; omega, by simp only; omega⟩, HOk.out.f1, HOk.out.f2, HOk.out.is.jk HJz.out⟩
      obtain ⟨W1, W2, W3⟩ := wrong_ans hokz (fun hr => no_bias (b0 := 2147483647 + (1 + N)) (by omega) hr.bias) x
      have W1 := hid W1
      have W2 := hid W2
      have W3 := hid W3
      simp only [modelV, pointV] at W1 W2 W3
      obtain ⟨z0, z1, z2, z3, z4, z5, z6⟩ := HMz.out.in
      simp only at z1 z2 z3 z4 z5 z6
      obtain ⟨y0, y1, y2, y3, y4⟩ := HP.out.jk (HJ1.out.trans HJz.out)
      have L3 := lt_more3 z0
      have L4 := lt_more3 y0
      clear hokz
      go_wp2_with (first
          | (go_at_call 10; refine (W1.out.on _ (by repeat (with_reducible first | exact Jk.refl _ | apply Jk.junk | apply Jk.alloc))).mono ?_; rintro e w1' ⟨rfl, X5, rfl⟩)
          | (go_at_call 11; refine (W2.out.on _ (by repeat (with_reducible first | exact Jk.refl _ | apply Jk.junk | apply Jk.alloc))).mono ?_; rintro e w1' ⟨rfl, X6, rfl⟩)
          | (go_at_call 13; refine (W3.out.on _ (by repeat (with_reducible first | exact Jk.refl _ | apply Jk.junk | apply Jk.alloc))).mono ?_; rintro e w1' ⟨rfl, X7, rfl⟩)
          | (go_at_call 3; refine (HRuns.out _).mono ?_; rintro e w1' ⟨rfl, X8, rfl⟩))
      go_ret
      exact ⟨rfl, by repeat (with_reducible first | exact (HJ0.out.trans (HJ1.out.trans HJz.out)) | apply Jk.junk | apply Jk.alloc)⟩
    · obtain ⟨wz, hwz⟩ : ∃ wz, ((((wj.setCell ⟨h, 1, none⟩ (.int .i64 (1))).setCell ⟨h, 2, none⟩ (.int .i64 (0))).setCell ⟨h, 3, none⟩ (.int .i64 (1 + N))).setCell ⟨h, 4, none⟩ (.int .i64 (0))) = wz := ⟨_, rfl⟩
      have HJz : Hid (Jk w1 wz) := hwz ▸ ((((HJc.out.set hh _).set hh _).set hh _).set hh _)
      have HMz : Hid (MdB wz h ⟨D, 1, 0, 1 + N, 0, a, n, c, ts⟩) := hwz ▸ ((((HMB.out.setK (1)).setB0 (0)).setB1 (1 + N)).setB2 (0))
      have hokz : Md.ok wz ⟨D, 1, 0, 1 + N, 0, a, n, c, ts⟩ := ⟨HOk.out.fd, ⟨by simp only; omega, by simp only; omega⟩, ⟨by simp only; omega, by simp only; omega⟩, ⟨by simp only; omega, by simp only; omega⟩, ⟨by simp only; omega, by simp only; omega⟩, HOk.out.is.jk HJz.out⟩
      obtain ⟨W1, W2, W3⟩ := wrong_ans hokz (fun hr => by have := hr.bias.2.2.1 (Int.le_refl 1); simp only at this; omega) x
      have W1 := hid W1
      have W2 := hid W2
      have W3 := hid W3
      simp only [modelV, pointV] at W1 W2 W3
      obtain ⟨z0, z1, z2, z3, z4, z5, z6⟩ := HMz.out.in
      simp only at z1 z2 z3 z4 z5 z6
      obtain ⟨y0, y1, y2, y3, y4⟩ := HP.out.jk (HJ1.out.trans HJz.out)
      have L3 := lt_more3 z0
      have L4 := lt_more3 y0
      clear hokz
      go_wp2_with (first
          | (go_at_call 10; refine (W1.out.on _ (by repeat (with_reducible first | exact Jk.refl _ | apply Jk.junk | apply Jk.alloc))).mono ?_; rintro e w1' ⟨rfl, X5, rfl⟩)
          | (go_at_call 11; refine (W2.out.on _ (by repeat (with_reducible first | exact Jk.refl _ | apply Jk.junk | apply Jk.alloc))).mono ?_; rintro e w1' ⟨rfl, X6, rfl⟩)
          | (go_at_call 13; refine (W3.out.on _ (by repeat (with_reducible first | exact Jk.refl _ | apply Jk.junk | apply Jk.alloc))).mono ?_; rintro e w1' ⟨rfl, X7, rfl⟩)
          | (go_at_call 3; refine (HRuns.out _).mono ?_; rintro e w1' ⟨rfl, X8, rfl⟩))
      go_ret
      exact ⟨rfl, by repeat (with_reducible first | exact (HJ0.out.trans (HJ1.out.trans HJz.out)) | apply Jk.junk | apply Jk.alloc)⟩
    · have hB : h < wj.heap.size := m0
      have HH3 := fun w' => three_any 1 2 3 w'
      have HH3 := hid HH3
      have HN4 : Hid (n ≤ 4) := hn4
      have hwrs : IntKind.i64.wrap (k' - 1) = k' - 1 := i64_in (by have := HRm.out.k1; simp only at this; omega) (by have := HRm.out.k3; simp only at this; omega)
      have hwrs2 : IntKind.i64.wrap (k' - 1 + (1 + N)) = k' - 1 + (1 + N) := i64_in (by have := HRm.out.k1; simp only at this; omega) (by have := HRm.out.k3; simp only at this; omega)
      have hk1 : 1 ≤ k' := HRm.out.k1
      have hk3 : k' ≤ 3 := HRm.out.k3
      go_wp2_with fail
      refine region_mid 12 [1, 2, 4, 5, 6, 7, 8] [0, 3, 9, 10, 11] #[true, true, true, true, true, true, true, true, true, true, true, true, false, false, false] (by kernel_rfl) (by kernel_rfl) (fun _ _ d _ _ h => by cases d <;> exact h) ?_
      dsimp only [opersAt, List.getElem?_cons_zero, List.getElem?_cons_succ]
      repeat (go_big_quiet_step (first | exact rfl))
      refine wpQuiet_nil ?_
      intro K1 hK1
      go_simp
      refine hK1 _ _ (((Jk.refl wj).drew).alloc _) ?_
      clear hK1 K1
      intro K2 hK2
      refine wp_app0 (B := wj.heap.size) (ts := ts) (.tmp 63) (.tmp 65) rfl (own_empty wj.drew rfl (Nat.le_refl _)) (by show wj.heap.size ≤ (wj.alloc (.cells #[] 26)).heap.size; rw [World.size_alloc]; omega) rfl rfl (HOk.out.is.jk ((HJc.out.drew).alloc _)) (by have := HN4.out; omega) ?_
      intro g1 c1 wA hOA hGA
      have HOA := hid hOA
      have HJA : Hid (Jk wj wA) := (((Jk.refl wj).drew).alloc _).grown hGA (fun k hk => by cases hk; exact Nat.le_refl _)
      clear hOA hGA
      refine hK2 _ _ HJA.out ?_
      clear hK2 K2
      intro K3 hK3
      go_simp
      go_at_call 9
      refine (HH3.out wA).mono ?_
      rintro e w3 ⟨g3, rfl, hIs, hg3, hg3', hj3⟩
      go_simp
      refine hK3 _ _ (HJA.out.trans hj3) ?_
      clear hK3 K3
      intro K4 hK4
      go_simp
      refine hK4 _ _ (HJA.out.trans hj3) ?_
      clear hK4 K4
      intro K5 hK5
      go_simp
      refine hK5 _ _ ((HJA.out.trans hj3).alloc _) ?_
      clear hK5 K5
      have hgA := (World.ownsRow.lt HOA.out.2 g1 rfl)
      refine list_appT (ys := [⟨k' - 1 + (1 + N), some ⟨g3, 0, none⟩, 3, 3, threeW 1 2 3⟩]) rfl (.tmp 66) (.tmp 74) rfl (HOA.out.jk (hj3.alloc _)) (by rw [World.size_alloc]; have := hj3.below.size; omega) rfl (some ⟨w3.heap.size, 0, none⟩) 1 1 rfl rfl (by decide) ⟨_, _, rfl, new_tree w3 _ _ _ _ _ rfl⟩ (by have := HN4.out; omega) (n + 1) rfl ?_
      intro g2 c2 wB hOB hGB hg2
      have HOB := hid hOB
      have HJB : Hid (Jk wj wB) := ((HJA.out.trans hj3).alloc _).grown hGB (fun k hk => HOA.out.base k hk)
      have HIs : Hid (IsW wB (some ⟨g3, 0, none⟩) 3 3 (threeW 1 2 3)) := (hIs.jk ((Jk.refl w3).alloc _)).kept hGB (fun g o e => by simp at e; simp [Value.ownBlock]; omega)
      clear hOB hGB hg2 hIs
      have HMB3 := hid (HMB.out.jk HJB.out)
      obtain ⟨wz, hwz⟩ : ∃ wz, wB.setCell ⟨h, 5, none⟩ (.slice (some ⟨g2, 0, none⟩) (n + 1) c2) = wz := ⟨_, rfl⟩
      have HJz : Hid (Jk w1 wz) := hwz ▸ (HJc.out.trans HJB.out).set hh _
      have HMz : Hid (MdB wz h ⟨D, k', b0, b1, b2, some ⟨g2, 0, none⟩, n + 1, c2, ts ++ [⟨k' - 1 + (1 + N), some ⟨g3, 0, none⟩, 3, 3, threeW 1 2 3⟩]⟩) := hwz ▸ HMB3.out.setT _ _ _ _
      have hlts : ts.length = n := HOk.out.is.len
      have hokz : Md.ok wz ⟨D, k', b0, b1, b2, some ⟨g2, 0, none⟩, n + 1, c2, ts ++ [⟨k' - 1 + (1 + N), some ⟨g3, 0, none⟩, 3, 3, threeW 1 2 3⟩]⟩ := by
        refine ⟨HOk.out.fd, HOk.out.fk, HOk.out.f0, HOk.out.f1, HOk.out.f2, isT_app (B := wj.heap.size) ?_ hlts (fun i hi => (HOk.out.is.all i hi).jk HJz.out) ?_⟩
        · rw [← hwz]
          exact HOB.out.kept (grown_set _ _ _ _) (.inr (fun e => by have := HOB.out.base _ e; omega))
        · refine ⟨⟨by simp only; omega, by simp only; omega⟩, ?_⟩
          rw [← hwz]
          exact HIs.out.kept (grown_set _ _ _ _) (fun g o e => by simp at e; simp; omega)
      obtain ⟨W1, W2, W3⟩ := wrong_ans hokz (fun hr => by have := (hr.trees.2 ts.length (by simp)).hi; simp only [tA_last] at this; omega) x
      have W1 := hid W1
      have W2 := hid W2
      have W3 := hid W3
      simp only [modelV, pointV] at W1 W2 W3
      obtain ⟨n0, n1, n2, n3, n4, n5, n6⟩ := HMB3.out.in
      have nz := HMB3.out.frozen
      simp only at n1 n2 n3 n4 n5 n6
      obtain ⟨z0, z1, z2, z3, z4, z5, z6⟩ := HMz.out.in
      simp only at z1 z2 z3 z4 z5 z6
      obtain ⟨y0, y1, y2, y3, y4⟩ := HP.out.jk (HJ1.out.trans HJz.out)
      have L3 := lt_more3 z0
      have L4 := lt_more3 y0
      clear hokz
      go_wp2_with (first
          | (go_at_call 10; refine (W1.out.on _ (by repeat (with_reducible first | exact Jk.refl _ | apply Jk.junk | apply Jk.alloc))).mono ?_; rintro e w1' ⟨rfl, X5, rfl⟩)
          | (go_at_call 11; refine (W2.out.on _ (by repeat (with_reducible first | exact Jk.refl _ | apply Jk.junk | apply Jk.alloc))).mono ?_; rintro e w1' ⟨rfl, X6, rfl⟩)
          | (go_at_call 13; refine (W3.out.on _ (by repeat (with_reducible first | exact Jk.refl _ | apply Jk.junk | apply Jk.alloc))).mono ?_; rintro e w1' ⟨rfl, X7, rfl⟩)
          | (go_at_call 3; refine (HRuns.out _).mono ?_; rintro e w1' ⟨rfl, X8, rfl⟩))
      go_ret
      exact ⟨rfl, by repeat (with_reducible first | exact (HJ0.out.trans (HJ1.out.trans HJz.out)) | apply Jk.junk | apply Jk.alloc)⟩
    · have hB : h < wj.heap.size := m0
      have HN4 : Hid (n ≤ 4) := hn4
      go_wp2_with (first
          | (at_builtin; refine list_app0 (B := wj.heap.size) (ts := ts) rfl (.tmp 21) (.tmp 23) rfl (own_empty wj rfl (Nat.le_refl _)) (by rw [World.size_alloc]; omega) rfl rfl (HOk.out.is.jk (HJc.out.alloc _)) (by have := HN4.out; omega) ?_; intro g1 c1 wA hOA hGA; have HOA := hid hOA; have HJA := hid (((Jk.refl wj).alloc _).grown hGA (fun k hk => by cases hk; exact Nat.le_refl _)); have hsA := HJA.out.below.size; clear hOA hGA)
          | (at_builtin; refine list_appT (B := wj.heap.size) (ys := [⟨0, none, 0, 0, []⟩]) rfl (.tmp 24) (.tmp 26) rfl (HOA.out.jk ((Jk.refl wA).alloc _)) (by rw [World.size_alloc]; omega) rfl (some ⟨wA.heap.size, 0, none⟩) 1 1 rfl rfl (by decide) ⟨_, _, rfl, new_tree wA _ _ _ _ _ rfl⟩ (by have := HN4.out; omega) (n + 1) rfl ?_; intro g2 c2 wB hOB hGB hg2; have HJB := hid ((HJA.out.alloc _).grown hGB (fun k hk => HOA.out.base k hk)); obtain ⟨n0, n1, n2, n3, n4, n5, n6⟩ := (HMB.out.jk HJB.out).in; have nz := (HMB.out.jk HJB.out).frozen; simp only at n1 n2 n3 n4 n5 n6; obtain ⟨wz, hwz⟩ : ∃ wz, wB.setCell ⟨h, 5, none⟩ (.slice (some ⟨g2, 0, none⟩) (n + 1) c2) = wz := ⟨_, rfl⟩; obtain ⟨hMz, hokz, hJz⟩ := app_store HMB.out HJc.out HJB.out hh HOk.out hOB hB (fun wz _ => ⟨⟨by decide, by decide⟩, nilW wz⟩) hwz; have HJz := hid hJz; obtain ⟨W1, W2, W3⟩ := wrong_ans hokz (fun hr => no_full hr) x; have W1 := hid W1; have W2 := hid W2; have W3 := hid W3; simp only [modelV, pointV] at W1 W2 W3; obtain ⟨z0, z1, z2, z3, z4, z5, z6⟩ := hMz.in; simp only at z1 z2 z3 z4 z5 z6; obtain ⟨y0, y1, y2, y3, y4⟩ := HP.out.jk (HJ1.out.trans HJz.out); have L3 := lt_more3 z0; have L4 := lt_more3 y0; clear hokz hMz hJz hOB hGB hg2)
          | (go_at_call 10; refine (W1.out.on _ (by repeat (with_reducible first | exact Jk.refl _ | apply Jk.junk | apply Jk.alloc))).mono ?_; rintro e w1' ⟨rfl, X5, rfl⟩)
          | (go_at_call 11; refine (W2.out.on _ (by repeat (with_reducible first | exact Jk.refl _ | apply Jk.junk | apply Jk.alloc))).mono ?_; rintro e w1' ⟨rfl, X6, rfl⟩)
          | (go_at_call 13; refine (W3.out.on _ (by repeat (with_reducible first | exact Jk.refl _ | apply Jk.junk | apply Jk.alloc))).mono ?_; rintro e w1' ⟨rfl, X7, rfl⟩)
          | (go_at_call 3; refine (HRuns.out _).mono ?_; rintro e w1' ⟨rfl, X8, rfl⟩))
      go_ret
      exact ⟨rfl, by repeat (with_reducible first | exact (HJ0.out.trans (HJ1.out.trans HJz.out)) | apply Jk.junk | apply Jk.alloc)⟩

end Go.Proofs.Ytnjfbmnecfiliaa
