/- The law QueryTells of chapter 10 answers true: its walk through the Go text, by the contracts of package query and of the document's own answers. -/
import Derived.Test.YtmfmiflifebflaaStartQ
import Derived.Test.YtmfmiflifebflaaLawQueryRuns
import Derived.Test.YtmfmiflifebflaaRefBreaks
import Derived.Test.YtmfmiflifebflaaRefStart
namespace Go.Proofs.Ytmfmiflifebflaa
open Go.RowKit M

set_option maxRecDepth 100000 in
set_option maxHeartbeats 6400000 in
theorem queryTells_walk (f : Fo) (a : Ak) (q : Qy) (own : Bool) (p : Int → Int) (t : Int) (w : World) (hf : f.ok w) (ha : a.ok w) (_ : q.ok) (_ : PtFit p) (_ : (Lit.int .i64 t).wf = true) : Calls Try.prog 4 #[forestV f, askV a, queryV q, .bool own, pointV p, .int .i64 t] w fun e w' => e = .returned (.bool true) ∧ Jk w w' := by
  have J := rules8
  obtain ⟨wv0, hwv0⟩ : ∃ z, w.alloc (.cells #[.int .i64 f.d, .int .i64 f.k, .slice f.ba f.bn f.bc, .slice f.sa f.sn f.sc] 42) = z := ⟨_, rfl⟩
  have hswv0 : wv0.heap.size = w.heap.size + 1 := by rw [← hwv0]; simp
  have HJwv0 : Hid (Jk w wv0) := hwv0 ▸ (Jk.refl w).alloc _
  have HB0wv0 : Hid (FoIn wv0 w.heap.size f) := hwv0 ▸ FoIn.laid w f _
  obtain ⟨wv1, hwv1⟩ : ∃ z, wv0.alloc (.cells #[.int .i64 a.kd, .int .i64 a.cl, .int .i64 a.lo, .int .i64 a.sz, .int .i64 a.f, .int .i64 a.bu, .bool a.fa, .slice a.sa a.sn a.sc] 44) = z := ⟨_, rfl⟩
  have hswv1 : wv1.heap.size = w.heap.size + 1 + 1 := by rw [← hwv1]; simp [hswv0]
  have HJwv1 : Hid (Jk w wv1) := HJwv0.out.trans (hwv1 ▸ (Jk.refl wv0).alloc _)
  have HB1wv1 : Hid (AkIn wv1 (w.heap.size + 1) a) := hswv0 ▸ hwv1 ▸ AkIn.laid wv0 a _
  have HB0wv1 : Hid (FoIn wv1 w.heap.size f) := HB0wv0.out.jk (hwv1 ▸ (Jk.refl wv0).alloc _)
  clear HB0wv0
  obtain ⟨wv2, hwv2⟩ : ∃ z, wv1.alloc (.cells #[.int .i64 q.kd, .int .i64 q.cl, .int .i64 q.rg.a.lo, .int .i64 q.rg.a.hi, .int .i64 q.rg.b.lo, .int .i64 q.rg.b.hi, .int .i64 q.rg.c.lo, .int .i64 q.rg.c.hi, .int .i64 q.rg.d.lo, .int .i64 q.rg.d.hi, .int .i64 q.rg.e.lo, .int .i64 q.rg.e.hi, .int .i64 q.lo, .int .i64 q.hi, .int .i64 q.f, .bool q.fa, .int .i64 q.bu] 32) = z := ⟨_, rfl⟩
  have hswv2 : wv2.heap.size = w.heap.size + 1 + 1 + 1 := by rw [← hwv2]; simp [hswv1]
  have HJwv2 : Hid (Jk w wv2) := HJwv1.out.trans (hwv2 ▸ (Jk.refl wv1).alloc _)
  have HB2wv2 : Hid (QyB wv2 (w.heap.size + 1 + 1) q) := hswv1 ▸ hwv2 ▸ QyB.laid wv1 q
  have HB0wv2 : Hid (FoIn wv2 w.heap.size f) := HB0wv1.out.jk (hwv2 ▸ (Jk.refl wv1).alloc _)
  clear HB0wv1
  have HB1wv2 : Hid (AkIn wv2 (w.heap.size + 1) a) := HB1wv1.out.jk (hwv2 ▸ (Jk.refl wv1).alloc _)
  clear HB1wv1
  obtain ⟨w0, hw0⟩ : ∃ z, wv2.alloc (.cells #[.int .i64 (p 0), .int .i64 (p 1), .int .i64 (p 2), .int .i64 (p 3)] 36) = z := ⟨_, rfl⟩
  have hsw0 : w0.heap.size = w.heap.size + 1 + 1 + 1 + 1 := by rw [← hw0]; simp [hswv2]
  have HJw0 : Hid (Jk w w0) := HJwv2.out.trans (hw0 ▸ (Jk.refl wv2).alloc _)
  have HB3w0 : Hid (PtB w0 (w.heap.size + 1 + 1 + 1) (p 0) (p 1) (p 2) (p 3)) := hswv2 ▸ hw0 ▸ PtB.laid wv2 (p 0) (p 1) (p 2) (p 3)
  have HB0w0 : Hid (FoIn w0 w.heap.size f) := HB0wv2.out.jk (hw0 ▸ (Jk.refl wv2).alloc _)
  clear HB0wv2
  have HB1w0 : Hid (AkIn w0 (w.heap.size + 1) a) := HB1wv2.out.jk (hw0 ▸ (Jk.refl wv2).alloc _)
  clear HB1wv2
  have HB2w0 : Hid (QyB w0 (w.heap.size + 1 + 1) q) := HB2wv2.out.jk (hw0 ▸ (Jk.refl wv2).alloc _)
  clear HB2wv2
  have HM : Hid (Calls Try.prog 12 #[forestV f] w0 fun e w' => GotM w0 e w') := model_any f w0 (hf.jk HJw0.out)
  have ha0 := hid (ha.jk HJw0.out)
  have HAk : Hid (∀ m : Md, RightM m → AnsW w0 13 #[askV a, modelV m] (queryV (queryI a m.d m.k))) := fun m hr => ask_ans ha0.out hr.d1 hr.d4 hr.k1 hr.k3
  have HRn : Hid (Ans 3 #[] (.bool true)) := fun w' => queryRuns_walk w'
  obtain ⟨fi0, fi1, fi2, fi3, fi4⟩ := HB0w0.out
  clear hf ha ha0
  obtain ⟨d, k, ba, bn, bc, bz, sa, sn, sc, ss⟩ := f
  simp only [forestV] at *
  go_enter Try.func4, Try.ntmps4
  go_upto_region 1 with fail
  go_cut [13] (fun v wc => ∃ w1 h m, v = .pointer (some ⟨h, 0, none⟩) ∧ Made w0 w1 wc h m)
  case first =>
    go_wp2_with (first | (go_at_call 12; refine HM.out.mono ?_; rintro e w1 ⟨m, rfl, hr, h3, h4, hfr, hj⟩; have HMd := hid (GotM.made hr h3 h4 hfr hj); clear hr h3 h4 hfr hj))
    go_meet
    case rel => exact ⟨w1, _, m, rfl, HMd.out⟩
  case rest =>
    obtain ⟨w1, h, m, rfl, hMd⟩ := hcut
    obtain ⟨w2, rfl⟩ : ∃ z, z = wc := ⟨_, rfl⟩
    have HMd := hid hMd
    have hg : w.heap.size + 1 + 1 < w1.heap.size := Nat.lt_of_lt_of_le HB2w0.out.lt hMd.2.2.2.2.2.2.1.below.size
    have HJ2 : Hid (Jk w0 w2) := hMd.2.2.2.2.2.2.1.trans hMd.2.2.2.2.2.2.2
    clear hMd fi0 fi1 fi2 fi3 fi4
    go_upto_region 2 with fail
    go_cut [16] (fun v wc => v = .bool own ∧ Hid (w2 = wc))
    case first =>
      go_wp2
      go_meet
      case rel => exact ⟨rfl, hid rfl⟩
    case rest =>
    obtain ⟨rfl, hw2⟩ := hcut
    obtain rfl := hw2.out
    clear hw2
    go_step
    go_cut [] (fun wc => ∃ q' : Qy, QyB wc (w.heap.size + 1 + 1) q' ∧ MdB wc h m ∧ m.ok wc ∧ PtB wc (w.heap.size + 1 + 1 + 1) (p 0) (p 1) (p 2) (p 3) ∧ Jk w wc)
    case first =>
      cases own
      · go_wp2
        go_meet
        case rel => exact ⟨q, HB2w0.out.jk HJ2.out, HMd.out.1, HMd.out.2.2.1.mdok (HMd.out.2.2.2.2.2.1.jk HMd.out.2.2.2.2.2.2.2), HB3w0.out.jk HJ2.out, HJw0.out.trans HJ2.out⟩
      · go_upto_region 3 with fail
        refine wp_region_lit ?_
        obtain ⟨al, a0, a1, a2, a3, a4, a5, a6, a7⟩ := HB1w0.out.jk HJ2.out
        refine wpList_one rfl fun K hK => ?_
        go_simp
        refine hK _ _ ?_
        clear hK K
        refine listw_loadM rfl _ rfl HMd.out.1 rfl ?_
        simp only [Act.put, List.setIfInBounds_toArray, List.set_cons_succ, List.set_cons_zero]
        refine wpList_one rfl fun K hK => ?_
        go_simp
        go_at_call 13
        refine ((HAk.out m HMd.out.2.2.1).on _ HJ2.out).mono ?_
        rintro e w3 ⟨rfl, hj3⟩
        have HJ3 := hid hj3
        clear hj3
        go_simp
        refine hK _ _ ?_
        clear hK K
        have hq3 := (HB2w0.out.jk HJ2.out).jk HJ3.out
        refine list_storeQ rfl _ _ rfl hq3 rfl (queryI a m.d m.k) rfl fun w4 hq4 hg4 => ?_
        have HFin : Hid (MdB w4 h m ∧ m.ok w4 ∧ PtB w4 (w.heap.size + 1 + 1 + 1) (p 0) (p 1) (p 2) (p 3) ∧ Jk w w4) := by
          have h1 := hq3.lt
          have h2 := HB2w0.out.lt
          have h3 := HMd.out.2.1
          have h5 := (HB3w0.out.jk HJ2.out).jk HJ3.out
          refine ⟨MdB.byQ (HMd.out.1.jk HJ3.out) hg4 (by omega), HMd.out.2.2.1.mdok ((((HMd.out.2.2.2.2.2.1.jk HMd.out.2.2.2.2.2.2.2).jk HJ3.out).keepB hg4 h2)), (hg4.block _ h5.lt (by simp)).trans h5, (((HJw0.out.trans HJ2.out).trans HJ3.out)).grown hg4 (fun k hk => by cases hk; omega)⟩
        go_wp2
        go_meet
        case rel => exact ⟨queryI a m.d m.k, hq4, HFin.out.1, HFin.out.2.1, HFin.out.2.2.1, HFin.out.2.2.2⟩
    case rest =>
      obtain ⟨q', hq, hm, hok, hp, hjw⟩ := hcut
      obtain ⟨w4, rfl⟩ : ∃ z, z = wc := ⟨_, rfl⟩
      obtain ⟨b1, hb1⟩ := rightQ_bool m q'
      obtain ⟨b2, hb2⟩ := breaks_bool m q' p t
      have HR := hid (qright_ans hok hb1)
      have HRR := hid (rright_q hok hb1)
      have HBr := hid (breaks_ans p t hok hb2)
      have HRB := hid (rbreaks_ans p t hok hb2)
      have HSt := hid (start_ans q')
      have HRS := hid (rstart_ans q')
      have heq := fun (w : World) => eq_box (startI q') (startI q') w
      simp only [Bx.eqB_self] at heq
      obtain ⟨X, hX⟩ : ∃ X, startI q' = X := ⟨_, rfl⟩
      rw [hX] at HSt HRS heq
      have HJ4 := hid hjw
      have HQ := hid hq
      have HMB := hid hm
      have HPB := hid hp
      clear hX hb1 hb2 hok hq hm hp hjw HMd HJ2 HAk
      obtain ⟨kd, cl, ⟨⟨ra, rb⟩, ⟨rc, rd⟩, ⟨re, rf⟩, ⟨rg, rh⟩, ⟨ri, rj⟩⟩, lo, hi, ff, fa, bu⟩ := q'
      obtain ⟨md, mk, b0, b1', b2', ma, mn, mc, ts⟩ := m
      obtain ⟨⟨xa, xb⟩, ⟨xc, xd⟩, ⟨xe, xf⟩, ⟨xg, xh⟩, ⟨xi, xj⟩⟩ := X
      simp only [modelV, queryV, pointV, boxV] at HR HRR HBr HRB HSt HRS heq
      obtain ⟨m0, m1, m2, m3, m4, m5, m6⟩ := HMB.out.in
      obtain ⟨pl, p0, p1, p2, p3⟩ := HPB.out.in
      simp only at m1 m2 m3 m4 m5 m6 p0 p1 p2 p3
      go_upto_region 4 with fail
      refine region_junk (by kernel_rfl) (by kernel_rfl) ?_
      iterate 1 (go_big_quiet_step (first | (go_at_call 9; exact AnsW.junk (by with_reducible exact HR.out) _) | (go_at_call 14; exact AnsW.junk (by with_reducible exact HRR.out) _) | (go_at_call 11; exact on_junk HSt.out _) | (go_at_call 15; exact on_junk HRS.out _) | (go_at_call 10; exact AnsW.junk (by with_reducible exact HBr.out) _) | (go_at_call 16; exact AnsW.junk (by with_reducible exact HRB.out) _) | (go_at_call 3; exact on_junk HRn.out _) | exact rfl))
      refine quietw_loadQ (by rintro _ ⟨X, rfl⟩; exact HQ.out.jk ⟨X, rfl⟩) rfl _ rfl rfl ?_
      intro K hK
      simp only [Act.put, List.setIfInBounds_toArray, List.set_cons_succ, List.set_cons_zero]
      go_big_quiet_on
      iterate 2 (go_big_quiet_step (first | (go_at_call 9; exact AnsW.junk (by with_reducible exact HR.out) _) | (go_at_call 14; exact AnsW.junk (by with_reducible exact HRR.out) _) | (go_at_call 11; exact on_junk HSt.out _) | (go_at_call 15; exact on_junk HRS.out _) | (go_at_call 10; exact AnsW.junk (by with_reducible exact HBr.out) _) | (go_at_call 16; exact AnsW.junk (by with_reducible exact HRB.out) _) | (go_at_call 3; exact on_junk HRn.out _) | exact rfl))
      refine quietw_loadQ (by rintro _ ⟨X, rfl⟩; exact HQ.out.jk ⟨X, rfl⟩) rfl _ rfl rfl ?_
      intro K hK
      simp only [Act.put, List.setIfInBounds_toArray, List.set_cons_succ, List.set_cons_zero]
      go_big_quiet_on
      iterate 3 (go_big_quiet_step (first | (go_at_call 9; exact AnsW.junk (by with_reducible exact HR.out) _) | (go_at_call 14; exact AnsW.junk (by with_reducible exact HRR.out) _) | (go_at_call 11; exact on_junk HSt.out _) | (go_at_call 15; exact on_junk HRS.out _) | (go_at_call 10; exact AnsW.junk (by with_reducible exact HBr.out) _) | (go_at_call 16; exact AnsW.junk (by with_reducible exact HRB.out) _) | (go_at_call 3; exact on_junk HRn.out _) | exact rfl))
      refine quietw_loadQ (by rintro _ ⟨X, rfl⟩; exact HQ.out.jk ⟨X, rfl⟩) rfl _ rfl rfl ?_
      intro K hK
      simp only [Act.put, List.setIfInBounds_toArray, List.set_cons_succ, List.set_cons_zero]
      go_big_quiet_on
      iterate 1 (go_big_quiet_step (first | (go_at_call 9; exact AnsW.junk (by with_reducible exact HR.out) _) | (go_at_call 14; exact AnsW.junk (by with_reducible exact HRR.out) _) | (go_at_call 11; exact on_junk HSt.out _) | (go_at_call 15; exact on_junk HRS.out _) | (go_at_call 10; exact AnsW.junk (by with_reducible exact HBr.out) _) | (go_at_call 16; exact AnsW.junk (by with_reducible exact HRB.out) _) | (go_at_call 3; exact on_junk HRn.out _) | exact rfl))
      refine quietw_loadQ (by rintro _ ⟨X, rfl⟩; exact HQ.out.jk ⟨X, rfl⟩) rfl _ rfl rfl ?_
      intro K hK
      simp only [Act.put, List.setIfInBounds_toArray, List.set_cons_succ, List.set_cons_zero]
      go_big_quiet_on
      iterate 5 (go_big_quiet_step (first | (go_at_call 9; exact AnsW.junk (by with_reducible exact HR.out) _) | (go_at_call 14; exact AnsW.junk (by with_reducible exact HRR.out) _) | (go_at_call 11; exact on_junk HSt.out _) | (go_at_call 15; exact on_junk HRS.out _) | (go_at_call 10; exact AnsW.junk (by with_reducible exact HBr.out) _) | (go_at_call 16; exact AnsW.junk (by with_reducible exact HRB.out) _) | (go_at_call 3; exact on_junk HRn.out _) | exact rfl))
      refine quietw_loadQ (by rintro _ ⟨X, rfl⟩; exact HQ.out.jk ⟨X, rfl⟩) rfl _ rfl rfl ?_
      intro K hK
      simp only [Act.put, List.setIfInBounds_toArray, List.set_cons_succ, List.set_cons_zero]
      go_big_quiet_on
      iterate 4 (go_big_quiet_step (first | (go_at_call 9; exact AnsW.junk (by with_reducible exact HR.out) _) | (go_at_call 14; exact AnsW.junk (by with_reducible exact HRR.out) _) | (go_at_call 11; exact on_junk HSt.out _) | (go_at_call 15; exact on_junk HRS.out _) | (go_at_call 10; exact AnsW.junk (by with_reducible exact HBr.out) _) | (go_at_call 16; exact AnsW.junk (by with_reducible exact HRB.out) _) | (go_at_call 3; exact on_junk HRn.out _) | exact rfl))
      refine quietw_loadQ (by rintro _ ⟨X, rfl⟩; exact HQ.out.jk ⟨X, rfl⟩) rfl _ rfl rfl ?_
      intro K hK
      simp only [Act.put, List.setIfInBounds_toArray, List.set_cons_succ, List.set_cons_zero]
      go_big_quiet_on
      iterate 9 (go_big_quiet_step (first | (go_at_call 9; exact AnsW.junk (by with_reducible exact HR.out) _) | (go_at_call 14; exact AnsW.junk (by with_reducible exact HRR.out) _) | (go_at_call 11; exact on_junk HSt.out _) | (go_at_call 15; exact on_junk HRS.out _) | (go_at_call 10; exact AnsW.junk (by with_reducible exact HBr.out) _) | (go_at_call 16; exact AnsW.junk (by with_reducible exact HRB.out) _) | (go_at_call 3; exact on_junk HRn.out _) | exact rfl))
      refine wpQuiet_nil ?_
      rintro _ ⟨X, rfl⟩
      go_wp2
      go_ret
      exact ⟨rfl, HJ4.out.trans ⟨X, rfl⟩⟩

end Go.Proofs.Ytmfmiflifebflaa
