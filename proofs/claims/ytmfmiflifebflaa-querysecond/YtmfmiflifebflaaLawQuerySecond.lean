/- The law QuerySecond of chapter 10 answers true: its walk through the Go text, by the contracts of package query. -/
import Derived.Test.YtmfmiflifebflaaPtQ
import Derived.Test.YtmfmiflifebflaaLawQueryRuns
namespace Go.Proofs.Ytmfmiflifebflaa
open Go.RowKit M

theorem breaks_twin {m : Md} {q : Qy} {p : Int → Int} {t t' : Int} (h : q.kd ≠ 3) : BreaksP m q p t ↔ BreaksP m q p t' := by
  constructor
  · rintro ⟨h1, h2 | h2 | h2⟩
    · exact ⟨h1, .inl h2⟩
    · exact ⟨h1, .inr (.inl h2)⟩
    · exact absurd h2.1 h
  · rintro ⟨h1, h2 | h2 | h2⟩
    · exact ⟨h1, .inl h2⟩
    · exact ⟨h1, .inr (.inl h2)⟩
    · exact absurd h2.1 h

set_option maxRecDepth 100000 in
set_option maxHeartbeats 12800000 in
theorem querySecond_walk (f : Fo) (a : Ak) (p : Int → Int) (t : Int) (w : World) (hf : f.ok w) (ha : a.ok w) (_ : PtFit p) (hwt : (Lit.int .i64 t).wf = true) : Calls Try.prog 7 #[forestV f, askV a, pointV p, .int .i64 t] w fun e w' => e = .returned (.bool true) ∧ Jk w w' := by
  have J := rules8
  have ht1 := bdi hwt
  obtain ⟨wv0, hwv0⟩ : ∃ z, w.alloc (.cells #[.int .i64 f.d, .int .i64 f.k, .slice f.ba f.bn f.bc, .slice f.sa f.sn f.sc] 42) = z := ⟨_, rfl⟩
  have hswv0 : wv0.heap.size = w.heap.size + 1 := by rw [← hwv0]; simp
  have HJwv0 : Hid (Jk w wv0) := hwv0 ▸ (Jk.refl w).alloc _
  have HB0wv0 : Hid (FoIn wv0 w.heap.size f) := hwv0 ▸ FoIn.laid w f _
  obtain ⟨wv1, hwv1⟩ : ∃ z, wv0.alloc (.cells #[.int .i64 a.kd, .int .i64 a.cl, .int .i64 a.lo, .int .i64 a.sz, .int .i64 a.f, .int .i64 a.bu, .bool a.fa, .slice a.sa a.sn a.sc] 44) = z := ⟨_, rfl⟩
  have hswv1 : wv1.heap.size = w.heap.size + 1 + 1 := by rw [← hwv1]; simp [hswv0]
  have HJwv1 : Hid (Jk w wv1) := HJwv0.out.trans (hwv1 ▸ (Jk.refl wv0).alloc _)
  have HB1wv1 : Hid (AkIn wv1 (w.heap.size + 1) a) := hswv0 ▸ hwv1 ▸ AkIn.laid wv0 a _
  have HB0wv1 : Hid (FoIn wv1 w.heap.size f) := HB0wv0.out.jk (hwv1 ▸ (Jk.refl wv0).alloc _)
  clear HB0wv0
  obtain ⟨w0, hw0⟩ : ∃ z, wv1.alloc (.cells #[.int .i64 (p 0), .int .i64 (p 1), .int .i64 (p 2), .int .i64 (p 3)] 36) = z := ⟨_, rfl⟩
  have hsw0 : w0.heap.size = w.heap.size + 1 + 1 + 1 := by rw [← hw0]; simp [hswv1]
  have HJw0 : Hid (Jk w w0) := HJwv1.out.trans (hw0 ▸ (Jk.refl wv1).alloc _)
  have HB2w0 : Hid (PtB w0 (w.heap.size + 1 + 1) (p 0) (p 1) (p 2) (p 3)) := hswv1 ▸ hw0 ▸ PtB.laid wv1 (p 0) (p 1) (p 2) (p 3)
  have HB0w0 : Hid (FoIn w0 w.heap.size f) := HB0wv1.out.jk (hw0 ▸ (Jk.refl wv1).alloc _)
  clear HB0wv1
  have HB1w0 : Hid (AkIn w0 (w.heap.size + 1) a) := HB1wv1.out.jk (hw0 ▸ (Jk.refl wv1).alloc _)
  clear HB1wv1
  have HA20 : Hid (∀ m : Md, RightM m → AnsW w0 21 #[askV a, modelV m] (.int .i64 (queryI a m.d m.k).f)) := fun m hr => a2_ans (ha.jk HJw0.out) hr.d1 hr.d4 hr.k1 hr.k3
  have HM : Hid (Calls Try.prog 12 #[forestV f] w0 fun e w' => GotM w0 e w') := model_any f w0 (hf.jk HJw0.out)
  have ha0 := hid (ha.jk HJw0.out)
  have HAk : Hid (∀ m : Md, RightM m → AnsW w0 13 #[askV a, modelV m] (queryV (queryI a m.d m.k))) := fun m hr => ask_ans ha0.out hr.d1 hr.d4 hr.k1 hr.k3
  have HRn : Hid (Ans 3 #[] (.bool true)) := fun w' => queryRuns_walk w'
  obtain ⟨fi0, fi1, fi2, fi3, fi4⟩ := HB0w0.out
  clear hf ha ha0
  obtain ⟨d, k, ba, bn, bc, bz, sa, sn, sc, ss⟩ := f
  simp only [forestV] at *
  have HAkz : Hid (∀ z, Jk w0 z → AkIn z (w.heap.size + 1) a) := fun z hz => HB1w0.out.jk hz
  go_enter Try.func7, Try.ntmps7
  go_upto_region 1 with fail
  go_cut [9] (fun v wc => ∃ w1 h m, v = .pointer (some ⟨h, 0, none⟩) ∧ Made w0 w1 wc h m)
  case first =>
    go_wp2_with (first | (go_at_call 12; refine HM.out.mono ?_; rintro e w1 ⟨m, rfl, hr, h3, h4, hfr, hj⟩; have HMd := hid (GotM.made hr h3 h4 hfr hj); clear hr h3 h4 hfr hj))
    go_meet
    case rel => exact ⟨w1, _, m, rfl, HMd.out⟩
  case rest =>
  obtain ⟨w1, h, m, rfl, hMd⟩ := hcut
  obtain ⟨w2, rfl⟩ : ∃ z, z = wc := ⟨_, rfl⟩
  have HMd := hid hMd
  have HJ2 : Hid (Jk w0 w2) := hMd.2.2.2.2.2.2.1.trans hMd.2.2.2.2.2.2.2
  clear hMd fi0 fi1 fi2 fi3 fi4
  go_upto_region 2 with fail
  go_cut [10] (fun v wc => ∃ g q, v = .pointer (some ⟨g, 0, none⟩) ∧ q = queryI a m.d m.k ∧ MadeQ w0 w1 wc h g m q)
  case first =>
    refine wp_region_lit ?_
    obtain ⟨al, a0, a1, a2, a3, a4, a5, a6, a7⟩ := HB1w0.out.jk HJ2.out
    refine wpList_one rfl fun K hK => ?_
    go_simp
    refine hK _ _ ?_
    clear hK K
    refine listw_loadM rfl _ rfl HMd.out.1 rfl ?_
    simp only [Act.put, List.setIfInBounds_toArray, List.set_cons_succ, List.set_cons_zero]
    refine wpList_one rfl fun K hK => ?_
    go_simp
    go_at_call 13
    refine ((HAk.out m HMd.out.2.2.1).on _ HJ2.out).mono ?_
    rintro e w3 ⟨rfl, hj3⟩
    have HJ3 := hid hj3
    clear hj3
    go_simp
    refine hK _ _ ?_
    clear hK K
    go_wp2
    go_meet
    case rel => exact ⟨_, queryI a m.d m.k, rfl, rfl, HMd.out.q (HJ3.out.trans ((Jk.refl _).alloc _)) (QyB.laid w3 (queryI a m.d m.k)) HJ3.out.below.size⟩
  case rest =>
  obtain ⟨g, q, rfl, hq, hMq⟩ := hcut
  obtain ⟨w4, rfl⟩ : ∃ z, z = wc := ⟨_, rfl⟩
  have HMq := hid hMq
  have hrq : RightQ m q := hq ▸ query_right a hMq.mr
  have HRq := hid hrq
  have HA2m := hid (HA20.out m hMq.mr)
  rw [← hq] at HA2m
  have HStq := hid (start_ans q)
  have HScq := hid (second_ans q p t)
  have hmd := hMq.mr.d1
  have hmd3 := hMq.d3
  have HPw := hid (HB2w0.out.jk (hMq.j0.trans hMq.j1))
  have HJ4 := hid ((HJw0.out.trans hMq.j0).trans hMq.j1)
  have HBrq : Hid (∀ (q' : Qy) (b : Bool) (T : Int), (b = true ↔ BreaksP m q' p T) → AnsW w1 10 #[modelV m, queryV q', pointV p, .int .i64 T] (.bool b)) := fun q' b T hb => breaks_ans p T hMq.ok hb
  have hkd3 : q.kd = 3 → 0 ≤ q.f ∧ q.f < m.d := fun h => hrq.f h
  obtain ⟨X, hX⟩ : ∃ X, startI q = X := ⟨_, rfl⟩
  obtain ⟨o, ho⟩ : ∃ o, secondI q p t = o := ⟨_, rfl⟩
  have HX0 := hid hX
  have HO0 := hid ho
  rw [hX] at HStq
  rw [ho] at HScq
  clear hX ho hq hMq hrq HMd HAk HA20
  -- the start and the second point are made
  go_upto_region 3 with fail
  go_cut [11, 12] (fun v11 v12 wc => ∃ hx hp, v11 = .pointer (some ⟨hx, 0, none⟩) ∧ v12 = .pointer (some ⟨hp, 0, none⟩) ∧ w4.heap.size ≤ hx ∧ w4.heap.size ≤ hp ∧ BxB wc hx X ∧ PtB wc hp (o 0) (o 1) (o 2) (o 3) ∧ Jk w4 wc)
  case first =>
    refine region_good 8 (fun k => [_, _, _, _, _, _, _, _].getD k undef) (fun x => ⟨#[_, _, _, _, _, _, _, _, _, _, _, x 6, x 7, _, _, _, _, _, _, _, x 0, x 1, x 2, x 3, x 4, x 5, _, _, _, _, _, _, _, _, _, _, _, _, _, _, _, _, _, _, _, _, _, _, _, _, _, _, _, _, _, _, _, _, _, _, _, _, _, _, _, _, _, _, _, _, _, _, _, _, _, _, _, _, _, _, _, _, _, _, _, _, _, _, _, _, _, _, _, _, _, _, _, _, _, _, _, _, _, _, _, _, _, _, _, _, _, _, _, _, _, _, _, _, _, _], []⟩) (Jk w4) Jk (SecG w4.heap.size q X (p 0) (p 1) (p 2) (p 3) t (o 0) (o 1) (o 2) (o 3)) (by kernel_rfl) (by kernel_rfl) (Jk.refl w4).drew SecG.mono ?_ ?_
    · intro i o' ho hi x w' hC hd L hK
      obtain ⟨pl, p0', p1', p2', p3'⟩ := (HPw.out.jk hC).in
      match i, ho with
      | 0, _ =>
        simp at hi
        subst hi
        refine wp_load_row 32 _ rfl g rfl _ _ _ _ (HMq.out.qb.jk hC) Try.underlying32 rfl (by kernel_rfl) ?_
        simp only [Act.put, List.setIfInBounds_toArray, List.set_cons_succ, List.set_cons_zero]
        exact hK _ _ hC (Jk.refl _) rfl
      | 1, _ =>
        simp at hi
        subst hi
        obtain ⟨x, rfl⟩ := upd_know (show x 0 = queryV q from hd 0 (by kernel_rfl))
        simp only [upd, reduceIte, Nat.reduceEqDiff]
        go_simp
        go_at_call 11
        refine (HStq.out.on _).mono ?_
        rintro e z1 ⟨rfl, X1, rfl⟩
        go_simp
        exact hK _ _ (hC.trans ⟨X1, rfl⟩) ⟨X1, rfl⟩ rfl
      | 2, _ =>
        simp at hi
        subst hi
        refine wp_load_row 32 _ rfl g rfl _ _ _ _ (HMq.out.qb.jk hC) Try.underlying32 rfl (by kernel_rfl) ?_
        simp only [Act.put, List.setIfInBounds_toArray, List.set_cons_succ, List.set_cons_zero]
        exact hK _ _ hC (Jk.refl _) rfl
      | 3, _ =>
        simp at hi
        subst hi
        go_simp
        exact hK _ _ hC (Jk.refl _) rfl
      | 4, _ =>
        simp at hi
        subst hi
        go_simp
        exact hK _ _ hC (Jk.refl _) rfl
      | 5, _ =>
        simp at hi
        subst hi
        obtain ⟨x, rfl⟩ := upd_know3 (show x 2 = queryV q from hd 2 (by kernel_rfl)) (show x 3 = .agg #[.int .i64 (p 0), .int .i64 (p 1), .int .i64 (p 2), .int .i64 (p 3)] from hd 3 (by kernel_rfl)) (show x 4 = .int .i64 t from hd 4 (by kernel_rfl))
        simp only [upd, reduceIte, Nat.reduceEqDiff]
        go_simp
        go_at_call 20
        refine (HScq.out.on _).mono ?_
        rintro e z1 ⟨rfl, X1, rfl⟩
        go_simp
        exact hK _ _ (hC.trans ⟨X1, rfl⟩) ⟨X1, rfl⟩ rfl
      | 6, _ =>
        simp at hi
        subst hi
        go_simp
        exact hK _ _ (hC.alloc _) ((Jk.refl _).alloc _) ⟨_, rfl, hC.below.size, BxB.laid _ Bx.nil⟩
      | 7, _ =>
        simp at hi
        subst hi
        go_simp
        exact hK _ _ (hC.alloc _) ((Jk.refl _).alloc _) ⟨_, rfl, hC.below.size, PtB.laid _ 0 0 0 0⟩
      | n + 8, h => exact absurd h (by omega)
    · intro x w' hC hG
      obtain ⟨hx, e6, hx1, hx2⟩ : ∃ h, x 6 = .pointer (some ⟨h, 0, none⟩) ∧ w4.heap.size ≤ h ∧ BxB w' h Bx.nil := hG 6 (by decide)
      obtain ⟨hp, e7, hp1, hp2⟩ : ∃ h, x 7 = .pointer (some ⟨h, 0, none⟩) ∧ w4.heap.size ≤ h ∧ PtB w' h 0 0 0 0 := hG 7 (by decide)
      have hne := hx2.ne_pt hp2
      obtain ⟨x, rfl⟩ := upd_know4 e6 e7 (show x 1 = boxW X from hG 1 (by decide)) (show x 5 = .agg #[.int .i64 (o 0), .int .i64 (o 1), .int .i64 (o 2), .int .i64 (o 3)] from hG 5 (by decide))
      simp only [upd, reduceIte, Nat.reduceEqDiff]
      refine list_storeX rfl _ _ rfl hx2 rfl X rfl fun w5 hX5 hg5 => ?_
      refine list_storeP rfl _ _ rfl (hp2.by hg5 (Ne.symm hne)) rfl (o 0) (o 1) (o 2) (o 3) rfl fun w6 hP6 hg6 => ?_
      have HFin : Hid (BxB w6 hx X ∧ PtB w6 hp (o 0) (o 1) (o 2) (o 3) ∧ Jk w4 w6) := ⟨hX5.by hg6 hne, hP6, (hC.grown hg5 (fun k hk => by cases hk; exact hx1)).grown hg6 (fun k hk => by cases hk; exact hp1)⟩
      go_wp2
      go_meet
      case rel => exact ⟨hx, hp, rfl, rfl, hx1, hp1, HFin.out.1, HFin.out.2.1, HFin.out.2.2⟩
  case rest =>
    obtain ⟨hx, hp, rfl, rfl, hx1, hp1, hX, hO, hj5⟩ := hcut
    obtain ⟨w5, rfl⟩ : ∃ z, z = wc := ⟨_, rfl⟩
    have HX5 := hid hX
    have HO5 := hid hO
    have HJ5 := hid (HJ4.out.trans hj5)
    have HM5 := hid (HMq.out.jk hj5)
    have HP5 := hid (HPw.out.jk hj5)
    have HMlt : Hid (g < w4.heap.size ∧ w4.heap.size ≤ hx ∧ w4.heap.size ≤ hp ∧ w.heap.size + 1 + 1 < w0.heap.size ∧ w0.heap.size ≤ w1.heap.size ∧ w1.heap.size ≤ g) := ⟨HMq.out.qb.lt, hx1, hp1, HB2w0.out.lt, HMq.out.j0.below.size, HMq.out.gh⟩
    have heqs := eq_sp
    have heqp := eq_pt
    clear hX hO hj5 HMq HStq HScq HJ4 HPw
    obtain ⟨md, mk, b0, b1', b2', ma, mn, mc, ts⟩ := m
    obtain ⟨kd, cl, ⟨⟨ra, rb⟩, ⟨rc, rd⟩, ⟨re, rf⟩, ⟨rg, rh⟩, ⟨ri, rj⟩⟩, lo, hi, ff, fa, bu⟩ := q
    simp only at hkd3 hmd hmd3
    have HQ5 := hid HM5.out.qb
    by_cases hk : kd = 3
    · subst hk
      obtain ⟨f0, f1⟩ := hkd3 rfl
      have hfc : ff = 0 ∨ ff = 1 ∨ ff = 2 := by omega
      have hVb := within_bd t 0 9 (by omega)
      have HVw := hid (within_q (n := t) (lo := 0) (hi := 9) rfl ht1 (by omega) (by omega) (by omega))
      obtain ⟨V, hV⟩ : ∃ V, withinI t 0 9 = V := ⟨_, rfl⟩
      rw [hV] at hVb HVw
      clear hV
      have hwV : IntKind.i64.wrap (4 + V) = 4 + V := i64_in (by omega) (by omega)
      clear hkd3 f0 f1
      rcases hfc with rfl | rfl | rfl
      · have hpp : pairP ⟨3, cl, ⟨⟨ra, rb⟩, ⟨rc, rd⟩, ⟨re, rf⟩, ⟨rg, rh⟩, ⟨ri, rj⟩⟩, lo, hi, 0, fa, bu⟩ := ⟨rfl, by show (0 : Int) ≤ 0; omega, by show (0 : Int) < 4; omega⟩
        obtain rfl : X = ⟨⟨ra, rb⟩, ⟨rc, rd⟩, ⟨re, rf⟩, ⟨rg, rh⟩, ⟨ra, rb⟩⟩ := HX0.out.symm.trans (by simp only [startI, if_pos hpp]; rfl)
        obtain rfl : o = putP p 0 t := HO0.out.symm.trans (secondI_yes hpp)
        have HBz0 : Hid (AnsW w1 10 #[modelV ⟨md, mk, b0, b1', b2', ma, mn, mc, ts⟩, queryV ⟨3, cl, ⟨⟨ra, rb⟩, ⟨rc, rd⟩, ⟨re, rf⟩, ⟨rg, rh⟩, ⟨ri, rj⟩⟩, lo, hi, 4 + V, fa, bu⟩, pointV p, .int .i64 t] (.bool false)) := HBrq.out _ false t (iff_of_false Bool.false_ne_true (fun hb => by
          have := (hb.1.f rfl).2
          simp only at this
          omega))
        have HSc0 : Hid (Ans 20 #[queryV ⟨3, cl, ⟨⟨ra, rb⟩, ⟨rc, rd⟩, ⟨re, rf⟩, ⟨rg, rh⟩, ⟨ri, rj⟩⟩, lo, hi, 4 + V, fa, bu⟩, pointV p, .int .i64 t] (pointV p)) := by
          have := second_ans ⟨3, cl, ⟨⟨ra, rb⟩, ⟨rc, rd⟩, ⟨re, rf⟩, ⟨rg, rh⟩, ⟨ri, rj⟩⟩, lo, hi, 4 + V, fa, bu⟩ p t
          rwa [secondI_no (fun h => by have := h.2.2; simp only at this; omega)] at this
        have HSt0 : Hid (Ans 11 #[queryV ⟨3, cl, ⟨⟨ra, rb⟩, ⟨rc, rd⟩, ⟨re, rf⟩, ⟨rg, rh⟩, ⟨ri, rj⟩⟩, lo, hi, 4 + V, fa, bu⟩] (boxW ⟨⟨ra, rb⟩, ⟨rc, rd⟩, ⟨re, rf⟩, ⟨rg, rh⟩, ⟨0, 0⟩⟩)) := by
          have := start_ans ⟨3, cl, ⟨⟨ra, rb⟩, ⟨rc, rd⟩, ⟨re, rf⟩, ⟨rg, rh⟩, ⟨ri, rj⟩⟩, lo, hi, 4 + V, fa, bu⟩
          simp only [startI, if_neg (show ¬ pairP ⟨3, cl, ⟨⟨ra, rb⟩, ⟨rc, rd⟩, ⟨re, rf⟩, ⟨rg, rh⟩, ⟨ri, rj⟩⟩, lo, hi, 4 + V, fa, bu⟩ from fun h => by have := h.2.2; simp only at this; omega)] at this
          exact this
        have hix := fun w => ix4 ⟨⟨ra, rb⟩, ⟨rc, rd⟩, ⟨re, rf⟩, ⟨rg, rh⟩, ⟨0, 0⟩⟩ w
        have HPu : Hid (∀ i : Int, putP p i t = fun j => if j = i then t else p j) := fun i => rfl
        simp only [HPu.out, Int.reduceEq, reduceIte] at HO5
        have HBz := HBz0
        have HSc := HSc0
        have HSt2 := HSt0
        have HA2c := hid HA2m.out
        clear hpp HBrq HX0 HO0 HBz0 HSc0 HSt0 HPu HA2m
        simp only [modelV, queryV, pointV, spV, boxV] at HBz HSc HSt2 HA2c hix
        obtain ⟨p0, e0⟩ : ∃ z, p 0 = z := ⟨_, rfl⟩
        obtain ⟨p1, e1⟩ : ∃ z, p 1 = z := ⟨_, rfl⟩
        obtain ⟨p2, e2⟩ : ∃ z, p 2 = z := ⟨_, rfl⟩
        obtain ⟨p3, e3⟩ : ∃ z, p 3 = z := ⟨_, rfl⟩
        simp only [e0, e1, e2, e3] at *
        go_upto_region 5 with fail
        go_loopg [26] 4 (fun r i wr => ∃ j : Nat, j + r = 4 ∧ i = .int .i64 (j : Int) ∧ Hid (Jk w5 wr))
        case atStart => exact ⟨0, by omega, rfl, hid (Jk.refl w5)⟩
        case round =>
          obtain ⟨j, hj, rfl, HJr⟩ := hrel
          obtain ⟨q0, q1, q2, q3, q4, q5, q6, q7, q8, q9, q10, q11, q12, q13, q14, q15, q16⟩ := (HQ5.out.jk HJr.out).in
          obtain ⟨x0, x1, x2, x3, x4, x5, x6, x7, x8, x9⟩ := (HX5.out.jk HJr.out).in
          obtain ⟨ol, o0', o1', o2', o3'⟩ := (HO5.out.jk HJr.out).in
          obtain ⟨pl, p0', p1', p2', p3'⟩ := (HP5.out.jk HJr.out).in
          have ql := (HQ5.out.jk HJr.out).lt
          have xl := (HX5.out.jk HJr.out).lt
          simp only at q0 q1 q2 q3 q4 q5 q6 q7 q8 q9 q10 q11 q12 q13 q14 q15 q16 x0 x1 x2 x3 x4 x5 x6 x7 x8 x9
          by_cases hfuel : gk = 0
          · subst hfuel
            obtain rfl : j = 4 := by omega
            have qf14 := (HQ5.out.jk HJr.out).frozen
            go_upto_region 16 with (first | (go_at_call 17; refine (HVw.out.on _).mono ?_; rintro e w9 ⟨rfl, hw⟩; obtain rfl := hw.symm))
            have HMz := hid ((HM5.out.jk HJr.out).put (grown_set _ g 14 (.int .i64 (4 + V))) ((HQ5.out.jk HJr.out).setF (4 + V)))
            have hgx : hx ≠ g := by have := HMlt.out; omega
            have hgo : hp ≠ g := by have := HMlt.out; omega
            have HXz := hid (BxB.by (HX5.out.jk HJr.out) (grown_set _ g 14 (.int .i64 (4 + V))) hgx)
            have HPz := hid (PtB.by (HP5.out.jk HJr.out) (grown_set _ g 14 (.int .i64 (4 + V))) (by have := HMlt.out; omega))
            have HAz := hid (HAkz.out _ (HMz.out.j0.trans HMz.out.j1))
            generalize hwz : wr.setCell ⟨g, 14, none⟩ (.int .i64 (4 + V)) = wz at HMz HXz HPz HAz ⊢
            clear hwz q0 q1 q2 q3 q4 q5 q6 q7 q8 q9 q10 q11 q12 q13 q14 q15 q16 x0 x1 x2 x3 x4 x5 x6 x7 x8 x9 ol o0' o1' o2' o3' pl p0' p1' p2' p3' ql xl qf14
            obtain ⟨q0, q1, q2, q3, q4, q5, q6, q7, q8, q9, q10, q11, q12, q13, q14, q15, q16⟩ := HMz.out.qb.in
            obtain ⟨x0, x1, x2, x3, x4, x5, x6, x7, x8, x9⟩ := HXz.out.in
            obtain ⟨pl, p0', p1', p2', p3'⟩ := HPz.out.in
            obtain ⟨m0, m1, m2, m3, m4, m5, m6⟩ := HMz.out.mb.in
            obtain ⟨al, a0, a1, a2, a3, a4, a5, a6, a7⟩ := HAz.out
            simp only at q0 q1 q2 q3 q4 q5 q6 q7 q8 q9 q10 q11 q12 q13 q14 q15 q16 x0 x1 x2 x3 x4 x5 x6 x7 x8 x9 m1 m2 m3 m4 m5 m6
            have xl := HXz.out.lt
            have ql := HMz.out.qb.lt
            have HBr := hid ((HBz.out).up HMz.out.j1)
            have HA2 := hid (HA2c.out.up (HMz.out.j0.trans HMz.out.j1))
            refine region_junk (by kernel_rfl) (by kernel_rfl) ?_
            iterate 9 (go_big_quiet_step (first | (go_at_call 21; exact AnsW.junk (by with_reducible exact HA2.out) _) | (go_at_call 20; exact on_junk HSc.out _) | (go_at_call 11; exact on_junk HSt2.out _) | (go_at_call 10; exact AnsW.junk (by with_reducible exact HBr.out) _) | (go_at_call 3; exact on_junk HRn.out _) | exact rfl))
            refine quietw_loadQ (by rintro _ ⟨X, rfl⟩; exact HMz.out.qb.jk ⟨X, rfl⟩) rfl _ rfl rfl ?_
            intro K hK
            simp only [Act.put, List.setIfInBounds_toArray, List.set_cons_succ, List.set_cons_zero]
            go_big_quiet_on
            iterate 7 (go_big_quiet_step (first | (go_at_call 21; exact AnsW.junk (by with_reducible exact HA2.out) _) | (go_at_call 20; exact on_junk HSc.out _) | (go_at_call 11; exact on_junk HSt2.out _) | (go_at_call 10; exact AnsW.junk (by with_reducible exact HBr.out) _) | (go_at_call 3; exact on_junk HRn.out _) | exact rfl))
            refine quietw_loadQ (by rintro _ ⟨X, rfl⟩; exact HMz.out.qb.jk ⟨X, rfl⟩) rfl _ rfl rfl ?_
            intro K hK
            simp only [Act.put, List.setIfInBounds_toArray, List.set_cons_succ, List.set_cons_zero]
            go_big_quiet_on
            iterate 7 (go_big_quiet_step (first | (go_at_call 21; exact AnsW.junk (by with_reducible exact HA2.out) _) | (go_at_call 20; exact on_junk HSc.out _) | (go_at_call 11; exact on_junk HSt2.out _) | (go_at_call 10; exact AnsW.junk (by with_reducible exact HBr.out) _) | (go_at_call 3; exact on_junk HRn.out _) | exact rfl))
            refine quietw_loadQ (by rintro _ ⟨X, rfl⟩; exact HMz.out.qb.jk ⟨X, rfl⟩) rfl _ rfl rfl ?_
            intro K hK
            simp only [Act.put, List.setIfInBounds_toArray, List.set_cons_succ, List.set_cons_zero]
            go_big_quiet_on
            iterate 9 (go_big_quiet_step (first | (go_at_call 21; exact AnsW.junk (by with_reducible exact HA2.out) _) | (go_at_call 20; exact on_junk HSc.out _) | (go_at_call 11; exact on_junk HSt2.out _) | (go_at_call 10; exact AnsW.junk (by with_reducible exact HBr.out) _) | (go_at_call 3; exact on_junk HRn.out _) | exact rfl))
            refine wpQuiet_nil ?_
            rintro _ ⟨X8, rfl⟩
            go_wp2
            go_ret
            exact ⟨rfl, (HJw0.out.trans (HMz.out.j0.trans HMz.out.j1)).trans ⟨X8, rfl⟩⟩
          · obtain ⟨r, rfl⟩ : ∃ r, gk = r + 1 := ⟨gk - 1, by omega⟩
            have hjc : j = 0 ∨ j = 1 ∨ j = 2 ∨ j = 3 := by omega
            rcases hjc with rfl | rfl | rfl | rfl
            · go_upto_region 10 with fail
              refine region_junk (by kernel_rfl) (by kernel_rfl) ?_
              repeat (go_big_quiet_step (exact rfl))
              refine wpQuiet_nil ?_
              rintro _ ⟨X9, rfl⟩
              go_wp2
              go_roundg r
              case measure => omega
              case rel => exact ⟨0 + 1, by omega, by go_num, hid (HJr.out.trans ⟨X9, rfl⟩)⟩
            · go_upto_region 10 with fail
              refine region_junk (by kernel_rfl) (by kernel_rfl) ?_
              repeat (go_big_quiet_step (exact rfl))
              refine wpQuiet_nil ?_
              rintro _ ⟨X9, rfl⟩
              go_wp2
              go_roundg r
              case measure => omega
              case rel => exact ⟨1 + 1, by omega, by go_num, hid (HJr.out.trans ⟨X9, rfl⟩)⟩
            · go_upto_region 10 with fail
              refine region_junk (by kernel_rfl) (by kernel_rfl) ?_
              repeat (go_big_quiet_step (exact rfl))
              refine wpQuiet_nil ?_
              rintro _ ⟨X9, rfl⟩
              go_wp2
              go_roundg r
              case measure => omega
              case rel => exact ⟨2 + 1, by omega, by go_num, hid (HJr.out.trans ⟨X9, rfl⟩)⟩
            · go_upto_region 10 with fail
              refine region_junk (by kernel_rfl) (by kernel_rfl) ?_
              repeat (go_big_quiet_step (exact rfl))
              refine wpQuiet_nil ?_
              rintro _ ⟨X9, rfl⟩
              go_wp2
              go_roundg r
              case measure => omega
              case rel => exact ⟨3 + 1, by omega, by go_num, hid (HJr.out.trans ⟨X9, rfl⟩)⟩
      · have hpp : pairP ⟨3, cl, ⟨⟨ra, rb⟩, ⟨rc, rd⟩, ⟨re, rf⟩, ⟨rg, rh⟩, ⟨ri, rj⟩⟩, lo, hi, 1, fa, bu⟩ := ⟨rfl, by show (0 : Int) ≤ 1; omega, by show (1 : Int) < 4; omega⟩
        obtain rfl : X = ⟨⟨ra, rb⟩, ⟨rc, rd⟩, ⟨re, rf⟩, ⟨rg, rh⟩, ⟨rc, rd⟩⟩ := HX0.out.symm.trans (by simp only [startI, if_pos hpp]; rfl)
        obtain rfl : o = putP p 1 t := HO0.out.symm.trans (secondI_yes hpp)
        have HBz0 : Hid (AnsW w1 10 #[modelV ⟨md, mk, b0, b1', b2', ma, mn, mc, ts⟩, queryV ⟨3, cl, ⟨⟨ra, rb⟩, ⟨rc, rd⟩, ⟨re, rf⟩, ⟨rg, rh⟩, ⟨ri, rj⟩⟩, lo, hi, 4 + V, fa, bu⟩, pointV p, .int .i64 t] (.bool false)) := HBrq.out _ false t (iff_of_false Bool.false_ne_true (fun hb => by
          have := (hb.1.f rfl).2
          simp only at this
          omega))
        have HSc0 : Hid (Ans 20 #[queryV ⟨3, cl, ⟨⟨ra, rb⟩, ⟨rc, rd⟩, ⟨re, rf⟩, ⟨rg, rh⟩, ⟨ri, rj⟩⟩, lo, hi, 4 + V, fa, bu⟩, pointV p, .int .i64 t] (pointV p)) := by
          have := second_ans ⟨3, cl, ⟨⟨ra, rb⟩, ⟨rc, rd⟩, ⟨re, rf⟩, ⟨rg, rh⟩, ⟨ri, rj⟩⟩, lo, hi, 4 + V, fa, bu⟩ p t
          rwa [secondI_no (fun h => by have := h.2.2; simp only at this; omega)] at this
        have HSt0 : Hid (Ans 11 #[queryV ⟨3, cl, ⟨⟨ra, rb⟩, ⟨rc, rd⟩, ⟨re, rf⟩, ⟨rg, rh⟩, ⟨ri, rj⟩⟩, lo, hi, 4 + V, fa, bu⟩] (boxW ⟨⟨ra, rb⟩, ⟨rc, rd⟩, ⟨re, rf⟩, ⟨rg, rh⟩, ⟨0, 0⟩⟩)) := by
          have := start_ans ⟨3, cl, ⟨⟨ra, rb⟩, ⟨rc, rd⟩, ⟨re, rf⟩, ⟨rg, rh⟩, ⟨ri, rj⟩⟩, lo, hi, 4 + V, fa, bu⟩
          simp only [startI, if_neg (show ¬ pairP ⟨3, cl, ⟨⟨ra, rb⟩, ⟨rc, rd⟩, ⟨re, rf⟩, ⟨rg, rh⟩, ⟨ri, rj⟩⟩, lo, hi, 4 + V, fa, bu⟩ from fun h => by have := h.2.2; simp only at this; omega)] at this
          exact this
        have hix := fun w => ix4 ⟨⟨ra, rb⟩, ⟨rc, rd⟩, ⟨re, rf⟩, ⟨rg, rh⟩, ⟨0, 0⟩⟩ w
        have HPu : Hid (∀ i : Int, putP p i t = fun j => if j = i then t else p j) := fun i => rfl
        simp only [HPu.out, Int.reduceEq, reduceIte] at HO5
        have HBz := HBz0
        have HSc := HSc0
        have HSt2 := HSt0
        have HA2c := hid HA2m.out
        clear hpp HBrq HX0 HO0 HBz0 HSc0 HSt0 HPu HA2m
        simp only [modelV, queryV, pointV, spV, boxV] at HBz HSc HSt2 HA2c hix
        obtain ⟨p0, e0⟩ : ∃ z, p 0 = z := ⟨_, rfl⟩
        obtain ⟨p1, e1⟩ : ∃ z, p 1 = z := ⟨_, rfl⟩
        obtain ⟨p2, e2⟩ : ∃ z, p 2 = z := ⟨_, rfl⟩
        obtain ⟨p3, e3⟩ : ∃ z, p 3 = z := ⟨_, rfl⟩
        simp only [e0, e1, e2, e3] at *
        go_upto_region 5 with fail
        go_loopg [26] 4 (fun r i wr => ∃ j : Nat, j + r = 4 ∧ i = .int .i64 (j : Int) ∧ Hid (Jk w5 wr))
        case atStart => exact ⟨0, by omega, rfl, hid (Jk.refl w5)⟩
        case round =>
          obtain ⟨j, hj, rfl, HJr⟩ := hrel
          obtain ⟨q0, q1, q2, q3, q4, q5, q6, q7, q8, q9, q10, q11, q12, q13, q14, q15, q16⟩ := (HQ5.out.jk HJr.out).in
          obtain ⟨x0, x1, x2, x3, x4, x5, x6, x7, x8, x9⟩ := (HX5.out.jk HJr.out).in
          obtain ⟨ol, o0', o1', o2', o3'⟩ := (HO5.out.jk HJr.out).in
          obtain ⟨pl, p0', p1', p2', p3'⟩ := (HP5.out.jk HJr.out).in
          have ql := (HQ5.out.jk HJr.out).lt
          have xl := (HX5.out.jk HJr.out).lt
          simp only at q0 q1 q2 q3 q4 q5 q6 q7 q8 q9 q10 q11 q12 q13 q14 q15 q16 x0 x1 x2 x3 x4 x5 x6 x7 x8 x9
          by_cases hfuel : gk = 0
          · subst hfuel
            obtain rfl : j = 4 := by omega
            have qf14 := (HQ5.out.jk HJr.out).frozen
            go_upto_region 16 with (first | (go_at_call 17; refine (HVw.out.on _).mono ?_; rintro e w9 ⟨rfl, hw⟩; obtain rfl := hw.symm))
            have HMz := hid ((HM5.out.jk HJr.out).put (grown_set _ g 14 (.int .i64 (4 + V))) ((HQ5.out.jk HJr.out).setF (4 + V)))
            have hgx : hx ≠ g := by have := HMlt.out; omega
            have hgo : hp ≠ g := by have := HMlt.out; omega
            have HXz := hid (BxB.by (HX5.out.jk HJr.out) (grown_set _ g 14 (.int .i64 (4 + V))) hgx)
            have HPz := hid (PtB.by (HP5.out.jk HJr.out) (grown_set _ g 14 (.int .i64 (4 + V))) (by have := HMlt.out; omega))
            have HAz := hid (HAkz.out _ (HMz.out.j0.trans HMz.out.j1))
            generalize hwz : wr.setCell ⟨g, 14, none⟩ (.int .i64 (4 + V)) = wz at HMz HXz HPz HAz ⊢
            clear hwz q0 q1 q2 q3 q4 q5 q6 q7 q8 q9 q10 q11 q12 q13 q14 q15 q16 x0 x1 x2 x3 x4 x5 x6 x7 x8 x9 ol o0' o1' o2' o3' pl p0' p1' p2' p3' ql xl qf14
            obtain ⟨q0, q1, q2, q3, q4, q5, q6, q7, q8, q9, q10, q11, q12, q13, q14, q15, q16⟩ := HMz.out.qb.in
            obtain ⟨x0, x1, x2, x3, x4, x5, x6, x7, x8, x9⟩ := HXz.out.in
            obtain ⟨pl, p0', p1', p2', p3'⟩ := HPz.out.in
            obtain ⟨m0, m1, m2, m3, m4, m5, m6⟩ := HMz.out.mb.in
            obtain ⟨al, a0, a1, a2, a3, a4, a5, a6, a7⟩ := HAz.out
            simp only at q0 q1 q2 q3 q4 q5 q6 q7 q8 q9 q10 q11 q12 q13 q14 q15 q16 x0 x1 x2 x3 x4 x5 x6 x7 x8 x9 m1 m2 m3 m4 m5 m6
            have xl := HXz.out.lt
            have ql := HMz.out.qb.lt
            have HBr := hid ((HBz.out).up HMz.out.j1)
            have HA2 := hid (HA2c.out.up (HMz.out.j0.trans HMz.out.j1))
            refine region_junk (by kernel_rfl) (by kernel_rfl) ?_
            iterate 9 (go_big_quiet_step (first | (go_at_call 21; exact AnsW.junk (by with_reducible exact HA2.out) _) | (go_at_call 20; exact on_junk HSc.out _) | (go_at_call 11; exact on_junk HSt2.out _) | (go_at_call 10; exact AnsW.junk (by with_reducible exact HBr.out) _) | (go_at_call 3; exact on_junk HRn.out _) | exact rfl))
            refine quietw_loadQ (by rintro _ ⟨X, rfl⟩; exact HMz.out.qb.jk ⟨X, rfl⟩) rfl _ rfl rfl ?_
            intro K hK
            simp only [Act.put, List.setIfInBounds_toArray, List.set_cons_succ, List.set_cons_zero]
            go_big_quiet_on
            iterate 7 (go_big_quiet_step (first | (go_at_call 21; exact AnsW.junk (by with_reducible exact HA2.out) _) | (go_at_call 20; exact on_junk HSc.out _) | (go_at_call 11; exact on_junk HSt2.out _) | (go_at_call 10; exact AnsW.junk (by with_reducible exact HBr.out) _) | (go_at_call 3; exact on_junk HRn.out _) | exact rfl))
            refine quietw_loadQ (by rintro _ ⟨X, rfl⟩; exact HMz.out.qb.jk ⟨X, rfl⟩) rfl _ rfl rfl ?_
            intro K hK
            simp only [Act.put, List.setIfInBounds_toArray, List.set_cons_succ, List.set_cons_zero]
            go_big_quiet_on
            iterate 7 (go_big_quiet_step (first | (go_at_call 21; exact AnsW.junk (by with_reducible exact HA2.out) _) | (go_at_call 20; exact on_junk HSc.out _) | (go_at_call 11; exact on_junk HSt2.out _) | (go_at_call 10; exact AnsW.junk (by with_reducible exact HBr.out) _) | (go_at_call 3; exact on_junk HRn.out _) | exact rfl))
            refine quietw_loadQ (by rintro _ ⟨X, rfl⟩; exact HMz.out.qb.jk ⟨X, rfl⟩) rfl _ rfl rfl ?_
            intro K hK
            simp only [Act.put, List.setIfInBounds_toArray, List.set_cons_succ, List.set_cons_zero]
            go_big_quiet_on
            iterate 9 (go_big_quiet_step (first | (go_at_call 21; exact AnsW.junk (by with_reducible exact HA2.out) _) | (go_at_call 20; exact on_junk HSc.out _) | (go_at_call 11; exact on_junk HSt2.out _) | (go_at_call 10; exact AnsW.junk (by with_reducible exact HBr.out) _) | (go_at_call 3; exact on_junk HRn.out _) | exact rfl))
            refine wpQuiet_nil ?_
            rintro _ ⟨X8, rfl⟩
            go_wp2
            go_ret
            exact ⟨rfl, (HJw0.out.trans (HMz.out.j0.trans HMz.out.j1)).trans ⟨X8, rfl⟩⟩
          · obtain ⟨r, rfl⟩ : ∃ r, gk = r + 1 := ⟨gk - 1, by omega⟩
            have hjc : j = 0 ∨ j = 1 ∨ j = 2 ∨ j = 3 := by omega
            rcases hjc with rfl | rfl | rfl | rfl
            · go_upto_region 10 with fail
              refine region_junk (by kernel_rfl) (by kernel_rfl) ?_
              repeat (go_big_quiet_step (exact rfl))
              refine wpQuiet_nil ?_
              rintro _ ⟨X9, rfl⟩
              go_wp2
              go_roundg r
              case measure => omega
              case rel => exact ⟨0 + 1, by omega, by go_num, hid (HJr.out.trans ⟨X9, rfl⟩)⟩
            · go_upto_region 10 with fail
              refine region_junk (by kernel_rfl) (by kernel_rfl) ?_
              repeat (go_big_quiet_step (exact rfl))
              refine wpQuiet_nil ?_
              rintro _ ⟨X9, rfl⟩
              go_wp2
              go_roundg r
              case measure => omega
              case rel => exact ⟨1 + 1, by omega, by go_num, hid (HJr.out.trans ⟨X9, rfl⟩)⟩
            · go_upto_region 10 with fail
              refine region_junk (by kernel_rfl) (by kernel_rfl) ?_
              repeat (go_big_quiet_step (exact rfl))
              refine wpQuiet_nil ?_
              rintro _ ⟨X9, rfl⟩
              go_wp2
              go_roundg r
              case measure => omega
              case rel => exact ⟨2 + 1, by omega, by go_num, hid (HJr.out.trans ⟨X9, rfl⟩)⟩
            · go_upto_region 10 with fail
              refine region_junk (by kernel_rfl) (by kernel_rfl) ?_
              repeat (go_big_quiet_step (exact rfl))
              refine wpQuiet_nil ?_
              rintro _ ⟨X9, rfl⟩
              go_wp2
              go_roundg r
              case measure => omega
              case rel => exact ⟨3 + 1, by omega, by go_num, hid (HJr.out.trans ⟨X9, rfl⟩)⟩
      · have hpp : pairP ⟨3, cl, ⟨⟨ra, rb⟩, ⟨rc, rd⟩, ⟨re, rf⟩, ⟨rg, rh⟩, ⟨ri, rj⟩⟩, lo, hi, 2, fa, bu⟩ := ⟨rfl, by show (0 : Int) ≤ 2; omega, by show (2 : Int) < 4; omega⟩
        obtain rfl : X = ⟨⟨ra, rb⟩, ⟨rc, rd⟩, ⟨re, rf⟩, ⟨rg, rh⟩, ⟨re, rf⟩⟩ := HX0.out.symm.trans (by simp only [startI, if_pos hpp]; rfl)
        obtain rfl : o = putP p 2 t := HO0.out.symm.trans (secondI_yes hpp)
        have HBz0 : Hid (AnsW w1 10 #[modelV ⟨md, mk, b0, b1', b2', ma, mn, mc, ts⟩, queryV ⟨3, cl, ⟨⟨ra, rb⟩, ⟨rc, rd⟩, ⟨re, rf⟩, ⟨rg, rh⟩, ⟨ri, rj⟩⟩, lo, hi, 4 + V, fa, bu⟩, pointV p, .int .i64 t] (.bool false)) := HBrq.out _ false t (iff_of_false Bool.false_ne_true (fun hb => by
          have := (hb.1.f rfl).2
          simp only at this
          omega))
        have HSc0 : Hid (Ans 20 #[queryV ⟨3, cl, ⟨⟨ra, rb⟩, ⟨rc, rd⟩, ⟨re, rf⟩, ⟨rg, rh⟩, ⟨ri, rj⟩⟩, lo, hi, 4 + V, fa, bu⟩, pointV p, .int .i64 t] (pointV p)) := by
          have := second_ans ⟨3, cl, ⟨⟨ra, rb⟩, ⟨rc, rd⟩, ⟨re, rf⟩, ⟨rg, rh⟩, ⟨ri, rj⟩⟩, lo, hi, 4 + V, fa, bu⟩ p t
          rwa [secondI_no (fun h => by have := h.2.2; simp only at this; omega)] at this
        have HSt0 : Hid (Ans 11 #[queryV ⟨3, cl, ⟨⟨ra, rb⟩, ⟨rc, rd⟩, ⟨re, rf⟩, ⟨rg, rh⟩, ⟨ri, rj⟩⟩, lo, hi, 4 + V, fa, bu⟩] (boxW ⟨⟨ra, rb⟩, ⟨rc, rd⟩, ⟨re, rf⟩, ⟨rg, rh⟩, ⟨0, 0⟩⟩)) := by
          have := start_ans ⟨3, cl, ⟨⟨ra, rb⟩, ⟨rc, rd⟩, ⟨re, rf⟩, ⟨rg, rh⟩, ⟨ri, rj⟩⟩, lo, hi, 4 + V, fa, bu⟩
          simp only [startI, if_neg (show ¬ pairP ⟨3, cl, ⟨⟨ra, rb⟩, ⟨rc, rd⟩, ⟨re, rf⟩, ⟨rg, rh⟩, ⟨ri, rj⟩⟩, lo, hi, 4 + V, fa, bu⟩ from fun h => by have := h.2.2; simp only at this; omega)] at this
          exact this
        have hix := fun w => ix4 ⟨⟨ra, rb⟩, ⟨rc, rd⟩, ⟨re, rf⟩, ⟨rg, rh⟩, ⟨0, 0⟩⟩ w
        have HPu : Hid (∀ i : Int, putP p i t = fun j => if j = i then t else p j) := fun i => rfl
        simp only [HPu.out, Int.reduceEq, reduceIte] at HO5
        have HBz := HBz0
        have HSc := HSc0
        have HSt2 := HSt0
        have HA2c := hid HA2m.out
        clear hpp HBrq HX0 HO0 HBz0 HSc0 HSt0 HPu HA2m
        simp only [modelV, queryV, pointV, spV, boxV] at HBz HSc HSt2 HA2c hix
        obtain ⟨p0, e0⟩ : ∃ z, p 0 = z := ⟨_, rfl⟩
        obtain ⟨p1, e1⟩ : ∃ z, p 1 = z := ⟨_, rfl⟩
        obtain ⟨p2, e2⟩ : ∃ z, p 2 = z := ⟨_, rfl⟩
        obtain ⟨p3, e3⟩ : ∃ z, p 3 = z := ⟨_, rfl⟩
        simp only [e0, e1, e2, e3] at *
        go_upto_region 5 with fail
        go_loopg [26] 4 (fun r i wr => ∃ j : Nat, j + r = 4 ∧ i = .int .i64 (j : Int) ∧ Hid (Jk w5 wr))
        case atStart => exact ⟨0, by omega, rfl, hid (Jk.refl w5)⟩
        case round =>
          obtain ⟨j, hj, rfl, HJr⟩ := hrel
          obtain ⟨q0, q1, q2, q3, q4, q5, q6, q7, q8, q9, q10, q11, q12, q13, q14, q15, q16⟩ := (HQ5.out.jk HJr.out).in
          obtain ⟨x0, x1, x2, x3, x4, x5, x6, x7, x8, x9⟩ := (HX5.out.jk HJr.out).in
          obtain ⟨ol, o0', o1', o2', o3'⟩ := (HO5.out.jk HJr.out).in
          obtain ⟨pl, p0', p1', p2', p3'⟩ := (HP5.out.jk HJr.out).in
          have ql := (HQ5.out.jk HJr.out).lt
          have xl := (HX5.out.jk HJr.out).lt
          simp only at q0 q1 q2 q3 q4 q5 q6 q7 q8 q9 q10 q11 q12 q13 q14 q15 q16 x0 x1 x2 x3 x4 x5 x6 x7 x8 x9
          by_cases hfuel : gk = 0
          · subst hfuel
            obtain rfl : j = 4 := by omega
            have qf14 := (HQ5.out.jk HJr.out).frozen
            go_upto_region 16 with (first | (go_at_call 17; refine (HVw.out.on _).mono ?_; rintro e w9 ⟨rfl, hw⟩; obtain rfl := hw.symm))
            have HMz := hid ((HM5.out.jk HJr.out).put (grown_set _ g 14 (.int .i64 (4 + V))) ((HQ5.out.jk HJr.out).setF (4 + V)))
            have hgx : hx ≠ g := by have := HMlt.out; omega
            have hgo : hp ≠ g := by have := HMlt.out; omega
            have HXz := hid (BxB.by (HX5.out.jk HJr.out) (grown_set _ g 14 (.int .i64 (4 + V))) hgx)
            have HPz := hid (PtB.by (HP5.out.jk HJr.out) (grown_set _ g 14 (.int .i64 (4 + V))) (by have := HMlt.out; omega))
            have HAz := hid (HAkz.out _ (HMz.out.j0.trans HMz.out.j1))
            generalize hwz : wr.setCell ⟨g, 14, none⟩ (.int .i64 (4 + V)) = wz at HMz HXz HPz HAz ⊢
            clear hwz q0 q1 q2 q3 q4 q5 q6 q7 q8 q9 q10 q11 q12 q13 q14 q15 q16 x0 x1 x2 x3 x4 x5 x6 x7 x8 x9 ol o0' o1' o2' o3' pl p0' p1' p2' p3' ql xl qf14
            obtain ⟨q0, q1, q2, q3, q4, q5, q6, q7, q8, q9, q10, q11, q12, q13, q14, q15, q16⟩ := HMz.out.qb.in
            obtain ⟨x0, x1, x2, x3, x4, x5, x6, x7, x8, x9⟩ := HXz.out.in
            obtain ⟨pl, p0', p1', p2', p3'⟩ := HPz.out.in
            obtain ⟨m0, m1, m2, m3, m4, m5, m6⟩ := HMz.out.mb.in
            obtain ⟨al, a0, a1, a2, a3, a4, a5, a6, a7⟩ := HAz.out
            simp only at q0 q1 q2 q3 q4 q5 q6 q7 q8 q9 q10 q11 q12 q13 q14 q15 q16 x0 x1 x2 x3 x4 x5 x6 x7 x8 x9 m1 m2 m3 m4 m5 m6
            have xl := HXz.out.lt
            have ql := HMz.out.qb.lt
            have HBr := hid ((HBz.out).up HMz.out.j1)
            have HA2 := hid (HA2c.out.up (HMz.out.j0.trans HMz.out.j1))
            refine region_junk (by kernel_rfl) (by kernel_rfl) ?_
            iterate 9 (go_big_quiet_step (first | (go_at_call 21; exact AnsW.junk (by with_reducible exact HA2.out) _) | (go_at_call 20; exact on_junk HSc.out _) | (go_at_call 11; exact on_junk HSt2.out _) | (go_at_call 10; exact AnsW.junk (by with_reducible exact HBr.out) _) | (go_at_call 3; exact on_junk HRn.out _) | exact rfl))
            refine quietw_loadQ (by rintro _ ⟨X, rfl⟩; exact HMz.out.qb.jk ⟨X, rfl⟩) rfl _ rfl rfl ?_
            intro K hK
            simp only [Act.put, List.setIfInBounds_toArray, List.set_cons_succ, List.set_cons_zero]
            go_big_quiet_on
            iterate 7 (go_big_quiet_step (first | (go_at_call 21; exact AnsW.junk (by with_reducible exact HA2.out) _) | (go_at_call 20; exact on_junk HSc.out _) | (go_at_call 11; exact on_junk HSt2.out _) | (go_at_call 10; exact AnsW.junk (by with_reducible exact HBr.out) _) | (go_at_call 3; exact on_junk HRn.out _) | exact rfl))
            refine quietw_loadQ (by rintro _ ⟨X, rfl⟩; exact HMz.out.qb.jk ⟨X, rfl⟩) rfl _ rfl rfl ?_
            intro K hK
            simp only [Act.put, List.setIfInBounds_toArray, List.set_cons_succ, List.set_cons_zero]
            go_big_quiet_on
            iterate 7 (go_big_quiet_step (first | (go_at_call 21; exact AnsW.junk (by with_reducible exact HA2.out) _) | (go_at_call 20; exact on_junk HSc.out _) | (go_at_call 11; exact on_junk HSt2.out _) | (go_at_call 10; exact AnsW.junk (by with_reducible exact HBr.out) _) | (go_at_call 3; exact on_junk HRn.out _) | exact rfl))
            refine quietw_loadQ (by rintro _ ⟨X, rfl⟩; exact HMz.out.qb.jk ⟨X, rfl⟩) rfl _ rfl rfl ?_
            intro K hK
            simp only [Act.put, List.setIfInBounds_toArray, List.set_cons_succ, List.set_cons_zero]
            go_big_quiet_on
            iterate 9 (go_big_quiet_step (first | (go_at_call 21; exact AnsW.junk (by with_reducible exact HA2.out) _) | (go_at_call 20; exact on_junk HSc.out _) | (go_at_call 11; exact on_junk HSt2.out _) | (go_at_call 10; exact AnsW.junk (by with_reducible exact HBr.out) _) | (go_at_call 3; exact on_junk HRn.out _) | exact rfl))
            refine wpQuiet_nil ?_
            rintro _ ⟨X8, rfl⟩
            go_wp2
            go_ret
            exact ⟨rfl, (HJw0.out.trans (HMz.out.j0.trans HMz.out.j1)).trans ⟨X8, rfl⟩⟩
          · obtain ⟨r, rfl⟩ : ∃ r, gk = r + 1 := ⟨gk - 1, by omega⟩
            have hjc : j = 0 ∨ j = 1 ∨ j = 2 ∨ j = 3 := by omega
            rcases hjc with rfl | rfl | rfl | rfl
            · go_upto_region 10 with fail
              refine region_junk (by kernel_rfl) (by kernel_rfl) ?_
              repeat (go_big_quiet_step (exact rfl))
              refine wpQuiet_nil ?_
              rintro _ ⟨X9, rfl⟩
              go_wp2
              go_roundg r
              case measure => omega
              case rel => exact ⟨0 + 1, by omega, by go_num, hid (HJr.out.trans ⟨X9, rfl⟩)⟩
            · go_upto_region 10 with fail
              refine region_junk (by kernel_rfl) (by kernel_rfl) ?_
              repeat (go_big_quiet_step (exact rfl))
              refine wpQuiet_nil ?_
              rintro _ ⟨X9, rfl⟩
              go_wp2
              go_roundg r
              case measure => omega
              case rel => exact ⟨1 + 1, by omega, by go_num, hid (HJr.out.trans ⟨X9, rfl⟩)⟩
            · go_upto_region 10 with fail
              refine region_junk (by kernel_rfl) (by kernel_rfl) ?_
              repeat (go_big_quiet_step (exact rfl))
              refine wpQuiet_nil ?_
              rintro _ ⟨X9, rfl⟩
              go_wp2
              go_roundg r
              case measure => omega
              case rel => exact ⟨2 + 1, by omega, by go_num, hid (HJr.out.trans ⟨X9, rfl⟩)⟩
            · go_upto_region 10 with fail
              refine region_junk (by kernel_rfl) (by kernel_rfl) ?_
              repeat (go_big_quiet_step (exact rfl))
              refine wpQuiet_nil ?_
              rintro _ ⟨X9, rfl⟩
              go_wp2
              go_roundg r
              case measure => omega
              case rel => exact ⟨3 + 1, by omega, by go_num, hid (HJr.out.trans ⟨X9, rfl⟩)⟩
    · have hnp : ¬ pairP ⟨kd, cl, ⟨⟨ra, rb⟩, ⟨rc, rd⟩, ⟨re, rf⟩, ⟨rg, rh⟩, ⟨ri, rj⟩⟩, lo, hi, ff, fa, bu⟩ := fun h => hk h.1
      obtain rfl : X = ⟨⟨ra, rb⟩, ⟨rc, rd⟩, ⟨re, rf⟩, ⟨rg, rh⟩, ⟨0, 0⟩⟩ := HX0.out.symm.trans (by simp only [startI, if_neg hnp]; rfl)
      obtain rfl : o = p := HO0.out.symm.trans (secondI_no hnp)
      obtain ⟨bb, hbb⟩ := breaks_bool ⟨md, mk, b0, b1', b2', ma, mn, mc, ts⟩ ⟨kd, cl, ⟨⟨ra, rb⟩, ⟨rc, rd⟩, ⟨re, rf⟩, ⟨rg, rh⟩, ⟨ri, rj⟩⟩, lo, hi, ff, fa, bu⟩ o 0
      have HBr0 : Hid (∀ T : Int, AnsW w1 10 #[modelV ⟨md, mk, b0, b1', b2', ma, mn, mc, ts⟩, queryV ⟨kd, cl, ⟨⟨ra, rb⟩, ⟨rc, rd⟩, ⟨re, rf⟩, ⟨rg, rh⟩, ⟨ri, rj⟩⟩, lo, hi, ff, fa, bu⟩, pointV o, .int .i64 T] (.bool bb)) := fun T => HBrq.out _ bb T (hbb.trans (breaks_twin hk))
      clear hbb HBrq HX0 HO0 hkd3 hnp
      simp only [modelV, queryV, pointV] at HBr0
      obtain ⟨p0, e0⟩ : ∃ z, o 0 = z := ⟨_, rfl⟩
      obtain ⟨p1, e1⟩ : ∃ z, o 1 = z := ⟨_, rfl⟩
      obtain ⟨p2, e2⟩ : ∃ z, o 2 = z := ⟨_, rfl⟩
      obtain ⟨p3, e3⟩ : ∃ z, o 3 = z := ⟨_, rfl⟩
      simp only [e0, e1, e2, e3] at *
      go_upto_region 5 with fail
      go_loopg [26] 4 (fun r i wr => ∃ j : Nat, j + r = 4 ∧ i = .int .i64 (j : Int) ∧ Hid (Jk w5 wr))
      case atStart => exact ⟨0, by omega, rfl, hid (Jk.refl w5)⟩
      case round =>
        obtain ⟨j, hj, rfl, HJr⟩ := hrel
        obtain ⟨q0, q1, q2, q3, q4, q5, q6, q7, q8, q9, q10, q11, q12, q13, q14, q15, q16⟩ := (HQ5.out.jk HJr.out).in
        obtain ⟨x0, x1, x2, x3, x4, x5, x6, x7, x8, x9⟩ := (HX5.out.jk HJr.out).in
        obtain ⟨ol, o0', o1', o2', o3'⟩ := (HO5.out.jk HJr.out).in
        obtain ⟨pl, p0', p1', p2', p3'⟩ := (HP5.out.jk HJr.out).in
        have ql := (HQ5.out.jk HJr.out).lt
        have xl := (HX5.out.jk HJr.out).lt
        simp only at q0 q1 q2 q3 q4 q5 q6 q7 q8 q9 q10 q11 q12 q13 q14 q15 q16 x0 x1 x2 x3 x4 x5 x6 x7 x8 x9
        by_cases hfuel : gk = 0
        · subst hfuel
          obtain rfl : j = 4 := by omega
          obtain ⟨m0, m1, m2, m3, m4, m5, m6⟩ := (HM5.out.jk HJr.out).mb.in
          simp only at m1 m2 m3 m4 m5 m6
          have HBr := hid (fun (T : Int) => ((HBr0.out T).up HM5.out.j1).up HJr.out)
          go_upto_region 14 with fail
          refine region_junk (by kernel_rfl) (by kernel_rfl) ?_
          iterate 6 (go_big_quiet_step (first | (go_at_call 10; exact AnsW.junk (by with_reducible exact HBr.out _) _) | (go_at_call 3; exact on_junk HRn.out _) | exact rfl))
          refine quietw_loadQ (by rintro _ ⟨X, rfl⟩; exact (HQ5.out.jk HJr.out).jk ⟨X, rfl⟩) rfl _ rfl rfl ?_
          intro K hK
          simp only [Act.put, List.setIfInBounds_toArray, List.set_cons_succ, List.set_cons_zero]
          go_big_quiet_on
          iterate 4 (go_big_quiet_step (first | (go_at_call 10; exact AnsW.junk (by with_reducible exact HBr.out _) _) | (go_at_call 3; exact on_junk HRn.out _) | exact rfl))
          refine quietw_loadQ (by rintro _ ⟨X, rfl⟩; exact (HQ5.out.jk HJr.out).jk ⟨X, rfl⟩) rfl _ rfl rfl ?_
          intro K hK
          simp only [Act.put, List.setIfInBounds_toArray, List.set_cons_succ, List.set_cons_zero]
          go_big_quiet_on
          iterate 10 (go_big_quiet_step (first | (go_at_call 10; exact AnsW.junk (by with_reducible exact HBr.out _) _) | (go_at_call 3; exact on_junk HRn.out _) | exact rfl))
          refine wpQuiet_nil ?_
          rintro _ ⟨X8, rfl⟩
          go_wp2
          go_ret
          exact ⟨rfl, (HJ5.out.trans HJr.out).trans ⟨X8, rfl⟩⟩
        · obtain ⟨r, rfl⟩ : ∃ r, gk = r + 1 := ⟨gk - 1, by omega⟩
          have hjc : j = 0 ∨ j = 1 ∨ j = 2 ∨ j = 3 := by omega
          rcases hjc with rfl | rfl | rfl | rfl
          · go_upto_region 10 with fail
            refine region_junk (by kernel_rfl) (by kernel_rfl) ?_
            repeat (go_big_quiet_step (exact rfl))
            refine wpQuiet_nil ?_
            rintro _ ⟨X9, rfl⟩
            go_wp2
            go_roundg r
            case measure => omega
            case rel => exact ⟨0 + 1, by omega, by go_num, hid (HJr.out.trans ⟨X9, rfl⟩)⟩
          · go_upto_region 10 with fail
            refine region_junk (by kernel_rfl) (by kernel_rfl) ?_
            repeat (go_big_quiet_step (exact rfl))
            refine wpQuiet_nil ?_
            rintro _ ⟨X9, rfl⟩
            go_wp2
            go_roundg r
            case measure => omega
            case rel => exact ⟨1 + 1, by omega, by go_num, hid (HJr.out.trans ⟨X9, rfl⟩)⟩
          · go_upto_region 10 with fail
            refine region_junk (by kernel_rfl) (by kernel_rfl) ?_
            repeat (go_big_quiet_step (exact rfl))
            refine wpQuiet_nil ?_
            rintro _ ⟨X9, rfl⟩
            go_wp2
            go_roundg r
            case measure => omega
            case rel => exact ⟨2 + 1, by omega, by go_num, hid (HJr.out.trans ⟨X9, rfl⟩)⟩
          · go_upto_region 10 with fail
            refine region_junk (by kernel_rfl) (by kernel_rfl) ?_
            repeat (go_big_quiet_step (exact rfl))
            refine wpQuiet_nil ?_
            rintro _ ⟨X9, rfl⟩
            go_wp2
            go_roundg r
            case measure => omega
            case rel => exact ⟨3 + 1, by omega, by go_num, hid (HJr.out.trans ⟨X9, rfl⟩)⟩

end Go.Proofs.Ytmfmiflifebflaa
