/- The law QueryEdges of chapter 10 answers true: its walk through the Go text, by the contracts of package query. -/
import Derived.Test.YtmfmiflifebflaaStartQ
import Derived.Test.YtmfmiflifebflaaLawQueryRuns
namespace Go.Proofs.Ytmfmiflifebflaa
open Go.RowKit M

theorem QyB.setRa {w : World} {h : Nat} {x : Qy} (H : QyB w h x) (y : Int) : QyB (w.setCell ⟨h, 2, none⟩ (.int .i64 y)) h { x with rg := { x.rg with a := { x.rg.a with lo := y } } } := heap_setCell_same _ _ _ _ _ _ H
theorem QyB.setRb {w : World} {h : Nat} {x : Qy} (H : QyB w h x) (y : Int) : QyB (w.setCell ⟨h, 3, none⟩ (.int .i64 y)) h { x with rg := { x.rg with a := { x.rg.a with hi := y } } } := heap_setCell_same _ _ _ _ _ _ H
theorem QyB.setRj {w : World} {h : Nat} {x : Qy} (H : QyB w h x) (y : Int) : QyB (w.setCell ⟨h, 11, none⟩ (.int .i64 y)) h { x with rg := { x.rg with e := { x.rg.e with hi := y } } } := heap_setCell_same _ _ _ _ _ _ H
theorem not_right0 (q : Qy) (a : Option Addr) (n c : Nat) (ts : List Tr) : ¬ RightQ ⟨0, 0, 0, 0, 0, a, n, c, ts⟩ q := fun h => by
  have h1 := h.mr.d1
  simp only at h1
  omega

set_option maxRecDepth 100000 in
set_option maxHeartbeats 6400000 in
theorem queryEdges_walk (f : Fo) (a : Ak) (what by_ : Int) (w : World) (hf : f.ok w) (ha : a.ok w) (hwhat : (Lit.int .i64 what).wf = true) (hby : (Lit.int .i64 by_).wf = true) : Calls Try.prog 6 #[forestV f, askV a, .int .i64 what, .int .i64 by_] w fun e w' => e = .returned (.bool true) ∧ Jk w w' := by
  have J := rules8
  have hw1 := bdi hwhat
  have hb1 := bdi hby
  obtain ⟨wv0, hwv0⟩ : ∃ z, w.alloc (.cells #[.int .i64 f.d, .int .i64 f.k, .slice f.ba f.bn f.bc, .slice f.sa f.sn f.sc] 42) = z := ⟨_, rfl⟩
  have hswv0 : wv0.heap.size = w.heap.size + 1 := by rw [← hwv0]; simp
  have HJwv0 : Hid (Jk w wv0) := hwv0 ▸ (Jk.refl w).alloc _
  have HB0wv0 : Hid (FoIn wv0 w.heap.size f) := hwv0 ▸ FoIn.laid w f _
  obtain ⟨w0, hw0⟩ : ∃ z, wv0.alloc (.cells #[.int .i64 a.kd, .int .i64 a.cl, .int .i64 a.lo, .int .i64 a.sz, .int .i64 a.f, .int .i64 a.bu, .bool a.fa, .slice a.sa a.sn a.sc] 44) = z := ⟨_, rfl⟩
  have hsw0 : w0.heap.size = w.heap.size + 1 + 1 := by rw [← hw0]; simp [hswv0]
  have HJw0 : Hid (Jk w w0) := HJwv0.out.trans (hw0 ▸ (Jk.refl wv0).alloc _)
  have HB1w0 : Hid (AkIn w0 (w.heap.size + 1) a) := hswv0 ▸ hw0 ▸ AkIn.laid wv0 a _
  have HB0w0 : Hid (FoIn w0 w.heap.size f) := HB0wv0.out.jk (hw0 ▸ (Jk.refl wv0).alloc _)
  clear HB0wv0
  have HM : Hid (Calls Try.prog 12 #[forestV f] w0 fun e w' => GotM w0 e w') := model_any f w0 (hf.jk HJw0.out)
  have ha0 := hid (ha.jk HJw0.out)
  have HAk : Hid (∀ m : Md, RightM m → AnsW w0 13 #[askV a, modelV m] (queryV (queryI a m.d m.k))) := fun m hr => ask_ans ha0.out hr.d1 hr.d4 hr.k1 hr.k3
  have HRn : Hid (Ans 3 #[] (.bool true)) := fun w' => queryRuns_walk w'
  obtain ⟨fi0, fi1, fi2, fi3, fi4⟩ := HB0w0.out
  clear hf ha ha0
  obtain ⟨d, k, ba, bn, bc, bz, sa, sn, sc, ss⟩ := f
  simp only [forestV] at *
  go_enter Try.func6, Try.ntmps6
  go_upto_region 1 with fail
  go_cut [9] (fun v wc => ∃ w1 h m, v = .pointer (some ⟨h, 0, none⟩) ∧ Made w0 w1 wc h m)
  case first =>
    go_wp2_with (first | (go_at_call 12; refine HM.out.mono ?_; rintro e w1 ⟨m, rfl, hr, h3, h4, hfr, hj⟩; have HMd := hid (GotM.made hr h3 h4 hfr hj); clear hr h3 h4 hfr hj))
    go_meet
    case rel => exact ⟨w1, _, m, rfl, HMd.out⟩
  case rest =>
  obtain ⟨w1, h, m, rfl, hMd⟩ := hcut
  obtain ⟨w2, rfl⟩ : ∃ z, z = wc := ⟨_, rfl⟩
  have HMd := hid hMd
  have HJ2 : Hid (Jk w0 w2) := hMd.2.2.2.2.2.2.1.trans hMd.2.2.2.2.2.2.2
  clear hMd fi0 fi1 fi2 fi3 fi4
  go_upto_region 2 with fail
  go_cut [10] (fun v wc => ∃ g q, v = .pointer (some ⟨g, 0, none⟩) ∧ q = queryI a m.d m.k ∧ MadeQ w0 w1 wc h g m q)
  case first =>
    refine wp_region_lit ?_
    obtain ⟨al, a0, a1, a2, a3, a4, a5, a6, a7⟩ := HB1w0.out.jk HJ2.out
    refine wpList_one rfl fun K hK => ?_
    go_simp
    refine hK _ _ ?_
    clear hK K
    refine listw_loadM rfl _ rfl HMd.out.1 rfl ?_
    simp only [Act.put, List.setIfInBounds_toArray, List.set_cons_succ, List.set_cons_zero]
    refine wpList_one rfl fun K hK => ?_
    go_simp
    go_at_call 13
    refine ((HAk.out m HMd.out.2.2.1).on _ HJ2.out).mono ?_
    rintro e w3 ⟨rfl, hj3⟩
    have HJ3 := hid hj3
    clear hj3
    go_simp
    refine hK _ _ ?_
    clear hK K
    go_wp2
    go_meet
    case rel => exact ⟨_, queryI a m.d m.k, rfl, rfl, HMd.out.q (HJ3.out.trans ((Jk.refl _).alloc _)) (QyB.laid w3 (queryI a m.d m.k)) HJ3.out.below.size⟩
  case rest =>
  obtain ⟨g, q, rfl, hq, hMq⟩ := hcut
  obtain ⟨w4, rfl⟩ : ∃ z, z = wc := ⟨_, rfl⟩
  have HMq := hid hMq
  have hrq : RightQ m q := hq ▸ query_right a hMq.mr
  have HRq := hid hrq
  have HR : Hid (AnsW w4 9 #[modelV m, queryV q] (.bool true)) := (qright_ans (b := true) hMq.ok (iff_of_true rfl hrq)).up hMq.j1
  have HR0 : Hid (AnsW w4 9 #[modelV ⟨0, 0, 0, 0, 0, none, 0, 0, []⟩, queryV q] (.bool false)) := (qright_ans (b := false) (ww := w4) ⟨zfit0 0 rfl, zfit0 0 rfl, zfit0 0 rfl, zfit0 0 rfl, zfit0 0 rfl, ⟨rfl, Nat.le_refl _, Nat.zero_le _, fun i hi => absurd hi (Nat.not_lt_zero _), fun h => absurd h (Nat.lt_irrefl _)⟩⟩ (iff_of_false Bool.false_ne_true (not_right0 q _ _ _ _)))
  have HJc := hid (Jk.refl w4)
  have hqk : q.rg.a.lo ≥ -2 ∧ q.rg.a.lo ≤ 9 ∧ q.lo ≥ -9000 ∧ q.lo ≤ 9000 := by
    have hd1 := hMq.mr.d1
    have hx := within_bd (pickI a.sz' (2 * 0)) (-2) 9 (by omega)
    have hy := within_bd a.lo (-9000) 9000 (by omega)
    rw [hq]
    have e1 : (queryI a m.d m.k).rg.a = spanI a.sz' 0 := by simp only [queryI, regionI]; rw [if_pos (by omega)]
    rw [e1]
    refine ⟨hx.1, hx.2, ?_, ?_⟩ <;> (simp only [queryI]; split <;> omega)
  have hmk := hMq.mr.k1
  have hmk3 := hMq.mr.k3
  have hmd := hMq.mr.d1
  have hmd3 := hMq.d3
  have HFin : Hid (∀ (wz : World) (q' : Qy), MadeQ w0 w1 wz h g m q' → ¬ RightQ m q' → AnsW wz 9 #[modelV m, queryV q'] (.bool false) ∧ AnsW wz 10 #[modelV m, queryV q', pointV (fun _ => 0), .int .i64 0] (.bool false)) := fun wz q' hz hn => ⟨(qright_ans (b := false) hz.ok (iff_of_false Bool.false_ne_true hn)).up hz.j1, (breaks_ans (b := false) (fun _ => 0) 0 hz.ok (iff_of_false Bool.false_ne_true (fun hb => hn hb.1))).up hz.j1⟩
  clear hq hMq hrq HMd
  obtain ⟨md, mk, b0, b1', b2', ma, mn, mc, ts⟩ := m
  obtain ⟨kd, cl, ⟨⟨ra, rb⟩, ⟨rc, rd⟩, ⟨re, rf⟩, ⟨rg, rh⟩, ⟨ri, rj⟩⟩, lo, hi, ff, fa, bu⟩ := q
  simp only at hqk hmk hmk3 hmd hmd3
  simp only [modelV, queryV] at HR HR0
  go_upto_region 3 with fail
  refine wp_region_lit ?_
  refine listw_loadM rfl _ rfl (HMq.out.mb.jk HJc.out) rfl ?_
  simp only [Act.put, List.setIfInBounds_toArray, List.set_cons_succ, List.set_cons_zero]
  refine listw_loadQ rfl _ rfl (HMq.out.qb.jk HJc.out) rfl ?_
  simp only [Act.put, List.setIfInBounds_toArray, List.set_cons_succ, List.set_cons_zero]
  refine wpList_one rfl fun K hK => ?_
  go_simp
  go_at_call 9
  refine (HR.out.on _ HJc.out).mono ?_
  rintro e z0 ⟨rfl, hj⟩
  have HJn := hid (HJc.out.trans hj)
  clear hj HJc
  have HJc := HJn
  clear HJn
  go_simp
  refine hK _ _ ?_
  clear hK K
  refine wpList_one rfl fun K hK => ?_
  go_simp
  refine hK _ _ ?_
  clear hK K
  refine wpList_one rfl fun K hK => ?_
  go_simp
  refine hK _ _ ?_
  clear hK K
  refine wpList_one rfl fun K hK => ?_
  go_simp
  refine hK _ _ ?_
  clear hK K
  refine listw_loadQ rfl _ rfl (HMq.out.qb.jk HJc.out) rfl ?_
  simp only [Act.put, List.setIfInBounds_toArray, List.set_cons_succ, List.set_cons_zero]
  refine wpList_one rfl fun K hK => ?_
  go_simp
  go_at_call 9
  refine (HR0.out.on _ HJc.out).mono ?_
  rintro e z1 ⟨rfl, hj⟩
  have HJn := hid (HJc.out.trans hj)
  clear hj HJc
  have HJc := HJn
  clear HJn
  go_simp
  refine hK _ _ ?_
  clear hK K
  refine wpList_one rfl fun K hK => ?_
  go_simp
  refine hK _ _ ?_
  clear hK K
  refine wpList_nil ?_
  have HMq1 := hid (HMq.out.jk HJc.out)
  obtain ⟨z, hz⟩ : ∃ z, z1 = z := ⟨_, rfl⟩
  rw [hz] at HMq1 ⊢
  clear hz HJc HR HR0 HMq
  have hNb := within_bd by_ 0 1099511627776 (by omega)
  have hSb := within_bd what 0 9 (by omega)
  have HNw := hid (within_q (n := by_) (lo := 0) (hi := 1099511627776) rfl hb1 (by omega) (by omega) (by omega))
  have HSw := hid (within_q (n := what) (lo := 0) (hi := 9) rfl hw1 (by omega) (by omega) (by omega))
  obtain ⟨N, hN⟩ : ∃ N, withinI by_ 0 1099511627776 = N := ⟨_, rfl⟩
  obtain ⟨S, hS⟩ : ∃ N, withinI what 0 9 = N := ⟨_, rfl⟩
  rw [hN] at HNw hNb
  rw [hS] at HSw hSb
  clear hN hS
  have hwN : IntKind.i64.wrap (1 + N) = 1 + N := i64_in (by omega) (by omega)
  go_upto_region 6 with (first | (go_at_call 17; refine (HNw.out.on _).mono ?_; rintro e w9 ⟨rfl, hw⟩; obtain rfl := hw.symm))
  go_cut [30] (fun v wc => v = .int .i64 S ∧ Hid (z = wc))
  case first =>
    go_wp2_with (first | (go_at_call 17; refine (HSw.out.on _).mono ?_; rintro e w9 ⟨rfl, hw⟩; obtain rfl := hw.symm))
    go_meet
    case rel => exact ⟨rfl, hid rfl⟩
  case rest =>
  obtain ⟨rfl, hz2⟩ := hcut
  obtain rfl := hz2.out
  clear hz2 HSw HNw
  obtain ⟨M, hM⟩ : ∃ M, 1 + N = M := ⟨_, rfl⟩
  have hMb : 1 ≤ M ∧ M ≤ 1099511627777 := by omega
  rw [hM]
  clear hM hwN hNb N
  go_step
  go_cut [] (fun wc => ∃ q', MadeQ w0 w1 wc h g ⟨md, mk, b0, b1', b2', ma, mn, mc, ts⟩ q' ∧ ¬ RightQ ⟨md, mk, b0, b1', b2', ma, mn, mc, ts⟩ q')
  case first =>
    obtain ⟨m0, m1, m2, m3, m4, m5, m6⟩ := HMq1.out.mb.in
    obtain ⟨q0, q1, q2, q3, q4, q5, q6, q7, q8, q9, q10, q11, q12, q13, q14, q15, q16⟩ := HMq1.out.qb.in
    have qf := HMq1.out.qb.frozen
    have ql := HMq1.out.qb.lt
    have hne := HMq1.out.ne
    simp only at m1 m2 m3 m4 m5 m6 q0 q1 q2 q3 q4 q5 q6 q7 q8 q9 q10 q11 q12 q13 q14 q15 q16
    have e1 : IntKind.i64.wrap (mk - 1) = mk - 1 := i64_in (by omega) (by omega)
    have e2 : IntKind.i64.wrap (mk - 1 + M) = mk - 1 + M := i64_in (by omega) (by omega)
    have e3 : IntKind.i64.wrap (-M) = -M := i64_in (by omega) (by omega)
    have e4 : IntKind.i64.wrap (65536 + M) = 65536 + M := i64_in (by omega) (by omega)
    have e5 : IntKind.i64.wrap (ra - M) = ra - M := i64_in (by omega) (by omega)
    have e6 : IntKind.i64.wrap (2147483647 + M) = 2147483647 + M := i64_in (by omega) (by omega)
    have e7 : IntKind.i64.wrap (-2147483648 - M) = -2147483648 - M := i64_in (by omega) (by omega)
    have e8 : IntKind.i64.wrap (3 + M) = 3 + M := i64_in (by omega) (by omega)
    have e9 : IntKind.i64.wrap (lo - M) = lo - M := i64_in (by omega) (by omega)
    have hSS : S = 0 ∨ S = 1 ∨ S = 2 ∨ S = 3 ∨ S = 4 ∨ S = 5 ∨ S = 6 ∨ S = 7 ∨ S = 8 ∨ S = 9 := by omega
    clear hSb
    rcases hSS with rfl | rfl | rfl | rfl | rfl | rfl | rfl | rfl | rfl | rfl
    · go_wp2
      go_meet
      case rel => exact ⟨_, HMq1.out.put (grown_set _ _ _ _) (HMq1.out.qb.setCl (mk - 1 + M)), fun hh => by have := hh.c1; simp only at this; omega⟩
    · go_wp2
      go_meet
      case rel => exact ⟨_, HMq1.out.put (grown_set _ _ _ _) (HMq1.out.qb.setCl (-M)), fun hh => by have := hh.c0; simp only at this; omega⟩
    · go_wp2
      go_meet
      case rel => exact ⟨_, HMq1.out.put (grown_set _ _ _ _) (HMq1.out.qb.setBu (-M)), fun hh => by have := hh.b0; simp only at this; omega⟩
    · go_wp2
      go_meet
      case rel => exact ⟨_, HMq1.out.put (grown_set _ _ _ _) (HMq1.out.qb.setBu (65536 + M)), fun hh => by have := hh.b1; simp only at this; omega⟩
    · go_wp2
      go_meet
      case rel => exact ⟨_, HMq1.out.put (grown_set _ _ _ _) (HMq1.out.qb.setRb (ra - M)), fun hh => by have := (hh.sp.1.1 (by simp only; omega)).1; simp only at this; omega⟩
    · go_wp2
      go_meet
      case rel => exact ⟨_, HMq1.out.put (grown_set _ _ _ _) (HMq1.out.qb.setRb (2147483647 + M)), fun hh => by have := (hh.sp.1.1 (by simp only; omega)).2.2; simp only at this; rw [fit32_no (by omega)] at this; cases this⟩
    · go_wp2
      go_meet
      case rel => exact ⟨_, HMq1.out.put (grown_set _ _ _ _) (HMq1.out.qb.setRa (-2147483648 - M)), fun hh => by have := (hh.sp.1.1 (by simp only; omega)).2.1; simp only at this; rw [fit32_no (by omega)] at this; cases this⟩
    · go_wp2
      go_meet
      case rel => exact ⟨_, HMq1.out.put (grown_set _ _ _ _) (HMq1.out.qb.setRj M), fun hh => by have := (hh.sp.2.2.2.2.2 (by simp only; omega)).2; simp only at this; omega⟩
    · go_wp2
      go_meet
      case rel => exact ⟨_, HMq1.out.put (grown_set _ _ _ _) (HMq1.out.qb.setKd (3 + M)), fun hh => by rcases hh.kd with h1 | h1 | h1 <;> (have := h1.1; simp only at this; omega)⟩
    · by_cases hk1 : kd = 1
      · go_wp2
        go_meet
        case rel => exact ⟨_, HMq1.out.put (grown_set _ _ _ _) (HMq1.out.qb.setHi (lo - M)), fun hh => by rcases hh.kd with h1 | h1 | h1 <;> (have h2 := h1.1; simp only at h2; first | omega | (have h3 := h1.2.1; simp only at h3; omega))⟩
      · go_wp2
        go_meet
        case rel => exact ⟨_, HMq1.out.put (grown_set _ _ _ _) (HMq1.out.qb.setLo M), fun hh => by rcases hh.kd with h1 | h1 | h1 <;> (have h2 := h1.1; simp only at h2; first | omega | (have h3 := h1.2.2.1; simp only at h3; omega) | (have h3 := h1.2.2.2.1; simp only at h3; omega))⟩
  case rest =>
  obtain ⟨q', hMz, hnr⟩ := hcut
  obtain ⟨wz, rfl⟩ : ∃ z, z = wc := ⟨_, rfl⟩
  have HMz := hid hMz
  have HRz := hid (HFin.out wz q' hMz hnr).1
  have HBz := hid (HFin.out wz q' hMz hnr).2
  have HJz := hid ((HJw0.out.trans hMz.j0).trans hMz.j1)
  have HJc := hid (Jk.refl wz)
  clear hMz hnr HMq1 HFin
  obtain ⟨kd', cl', ⟨⟨ra', rb'⟩, ⟨rc', rd'⟩, ⟨re', rf'⟩, ⟨rg', rh'⟩, ⟨ri', rj'⟩⟩, lo', hi', ff', fa', bu'⟩ := q'
  simp only [modelV, queryV, pointV] at HRz HBz
  go_upto_region 28 with fail
  refine wp_region_lit ?_
  refine listw_loadM rfl _ rfl (HMz.out.mb.jk HJc.out) rfl ?_
  simp only [Act.put, List.setIfInBounds_toArray, List.set_cons_succ, List.set_cons_zero]
  refine listw_loadQ rfl _ rfl (HMz.out.qb.jk HJc.out) rfl ?_
  simp only [Act.put, List.setIfInBounds_toArray, List.set_cons_succ, List.set_cons_zero]
  refine wpList_one rfl fun K hK => ?_
  go_simp
  go_at_call 9
  refine (HRz.out.on _ HJc.out).mono ?_
  rintro e z0 ⟨rfl, hj⟩
  have HJn := hid (HJc.out.trans hj)
  clear hj HJc
  have HJc := HJn
  clear HJn
  go_simp
  refine hK _ _ ?_
  clear hK K
  refine wpList_one rfl fun K hK => ?_
  go_simp
  refine hK _ _ ?_
  clear hK K
  refine wpList_one rfl fun K hK => ?_
  go_simp
  refine hK _ _ ?_
  clear hK K
  refine listw_loadM rfl _ rfl (HMz.out.mb.jk HJc.out) rfl ?_
  simp only [Act.put, List.setIfInBounds_toArray, List.set_cons_succ, List.set_cons_zero]
  refine listw_loadQ rfl _ rfl (HMz.out.qb.jk HJc.out) rfl ?_
  simp only [Act.put, List.setIfInBounds_toArray, List.set_cons_succ, List.set_cons_zero]
  refine wpList_one rfl fun K hK => ?_
  go_simp
  refine hK _ _ ?_
  clear hK K
  refine wpList_one rfl fun K hK => ?_
  go_simp
  go_at_call 10
  refine (HBz.out.on _ HJc.out).mono ?_
  rintro e z1 ⟨rfl, hj⟩
  have HJn := hid (HJc.out.trans hj)
  clear hj HJc
  have HJc := HJn
  clear HJn
  go_simp
  refine hK _ _ ?_
  clear hK K
  refine wpList_one rfl fun K hK => ?_
  go_simp
  refine hK _ _ ?_
  clear hK K
  refine wpList_one rfl fun K hK => ?_
  go_simp
  refine hK _ _ ?_
  clear hK K
  refine wpList_one rfl fun K hK => ?_
  go_simp
  refine hK _ _ ?_
  clear hK K
  refine wpList_one rfl fun K hK => ?_
  go_simp
  go_at_call 3
  refine (HRn.out.on _).mono ?_
  rintro e z2 ⟨rfl, hj⟩
  have HJn := hid (HJc.out.trans hj)
  clear hj HJc
  have HJc := HJn
  clear HJn
  go_simp
  refine hK _ _ ?_
  clear hK K
  refine wpList_one rfl fun K hK => ?_
  go_simp
  refine hK _ _ ?_
  clear hK K
  refine wpList_one rfl fun K hK => ?_
  go_simp
  refine hK _ _ ?_
  clear hK K
  go_wp2
  go_ret
  exact ⟨rfl, HJz.out.trans HJc.out⟩

end Go.Proofs.Ytmfmiflifebflaa
