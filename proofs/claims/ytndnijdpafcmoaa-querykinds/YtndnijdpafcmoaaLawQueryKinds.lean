/- The law QueryKinds of chapter 10 answers true: its walk through the Go text, by the contracts of package query. -/
import Derived.Test.YtndnijdpafcmoaaPtQ
import Derived.Test.YtndnijdpafcmoaaLawQueryRuns
namespace Go.Proofs.Ytndnijdpafcmoaa
open Go.RowKit M

/-- Falls of a query in its block is set: one word for the world behind it -/
theorem listp_storeFa {ops : Array Oper} {rest : List Oper} {o : Oper} {a : Act} {Q : Exit → Act → World → Prop} {w : World} (hg : o.guard = none) (x y : Operand) (ho : o.op = .store 4 x y) {h : Nat} {q : Qy} (H : QyB w h q) (hx : a.eval x = .pointer (some ⟨h, 15, none⟩)) (b : Bool) (hy : a.eval y = .bool b)
    (hK : ∀ w', QyB w' h { q with fa := b } → w.grownBy w' (some h) → wpList Try.prog ops Q rest (a.put o.dst undef) w') : wpList Try.prog ops Q (o :: rest) a w :=
  wpList_plain hg fun K hK' => by
    obtain ⟨x0, x1, x2, x3, x4, x5, x6, x7, x8, x9, x10, x11, x12, x13, x14, x15, x16⟩ := H.in
    have hf := H.frozen 15
    have hsz : (sizeOf 4).run Try.prog w = .ok 1 w := by kernel_rfl
    have hr : (storeVar 4 ⟨h, 15, none⟩ (.bool b)).run Try.prog w = .ok () (w.setCell ⟨h, 15, none⟩ (.bool b)) := by
      simp [storeVar, hsz, go_sem, Value.cells, x15, hf]
    unfold Oper.wp execOp
    simp only [ho, hx, hy, Instr.storeAt, Instr.sureAddr, Sem.run_bind, Sem.run_pure, Result.andThen_ok, hr]
    exact hK' _ _ (hK _ (H.setFa b) (grown_set w h 15 _))
theorem listp_loadP {ops : Array Oper} {rest : List Oper} {o : Oper} {a : Act} {Q : Exit → Act → World → Prop} {w : World} (hg : o.guard = none) (x : Operand) (ho : o.op = .load 29 x) {h : Nat} {p0 p1 p2 p3 : Int} (H : PtB w h p0 p1 p2 p3) (hx : a.eval x = .pointer (some ⟨h, 0, none⟩))
    (hK : wpList Try.prog ops Q rest (a.put o.dst (.agg #[.int .i64 p0, .int .i64 p1, .int .i64 p2, .int .i64 p3])) w) : wpList Try.prog ops Q (o :: rest) a w :=
  wpList_plain hg fun _ hK' => wp_load_row 29 x ho h hx _ _ _ _ H Try.underlying29 rfl (by kernel_rfl) (hK' _ _ hK)
theorem listw_loadP {ops : Array Oper} {rest : List Oper} {o : Oper} {a : Act} {Q : Exit → Act → World → Prop} {w : World} (hw : Region.wanted o (yielded ops a.tmps) = true) (x : Operand) (ho : o.op = .load 29 x) {h : Nat} {p0 p1 p2 p3 : Int} (H : PtB w h p0 p1 p2 p3) (hx : a.eval x = .pointer (some ⟨h, 0, none⟩))
    (hK : wpList Try.prog ops Q rest (a.put o.dst (.agg #[.int .i64 p0, .int .i64 p1, .int .i64 p2, .int .i64 p3])) w) : wpList Try.prog ops Q (o :: rest) a w :=
  wpList_one hw fun _ hK' => wp_load_row 29 x ho h hx _ _ _ _ H Try.underlying29 rfl (by kernel_rfl) (hK' _ _ hK)
theorem MadeQ.by {w0 w1 wc wz : World} {h g b : Nat} {m : Md} {q : Qy} (H : MadeQ w0 w1 wc h g m q) (hg : wc.grownBy wz (some b)) (h1 : h ≠ b) (h2 : g ≠ b) (h3 : w1.heap.size ≤ b) : MadeQ w0 w1 wz h g m q :=
  ⟨(hg.block h H.mb.lt (by simpa using h1)).trans H.mb, H.qb.by hg h2, H.mh, H.gh, H.ne, H.mr, H.ok, H.d3, H.j0, H.j1.grown hg (fun k hk => by cases hk; exact h3)⟩
theorem RightM.small {m : Md} (hr : RightM m) (p : Int → Int) (c : Int) : -100000000000 ≤ m.sum p c ∧ m.sum p c ≤ 100000000000 := by
  have h1 := sumTo_bd m.ts p c m.ts.length
  have h2 := hr.trees.1
  have h3 : -2147483648 ≤ m.b c ∧ m.b c ≤ 2147483647 := by
    rcases hr.bc (c := c) with h | h
    · omega
    · exact fit32_of h
  unfold Md.sum
  omega
/-- queries of one kind each, of a region that may be asked for -/
theorem in_ok {m : Md} {q : Qy} (h : RightQ m q) {cl lo hi : Int} (c0 : 0 ≤ cl) (c1 : cl < m.k) (hl : lo ≤ hi) : RightQ m ⟨1, cl, q.rg, lo, hi, 0, false, 0⟩ := ⟨h.mr, c0, c1, Int.le_refl 0, by show (0 : Int) ≤ 65536; omega, h.sp, .inl ⟨rfl, hl, rfl, rfl⟩⟩
theorem best_ok {m : Md} {q : Qy} (h : RightQ m q) {cl : Int} (c0 : 0 ≤ cl) (c1 : cl < m.k) (hk : 2 ≤ m.k) : RightQ m ⟨2, cl, q.rg, 0, 0, 0, false, 0⟩ := ⟨h.mr, c0, c1, Int.le_refl 0, by show (0 : Int) ≤ 65536; omega, h.sp, .inr (.inl ⟨rfl, hk, rfl, rfl, rfl, rfl⟩)⟩
theorem mono_ok {m : Md} {q : Qy} (h : RightQ m q) {cl : Int} (c0 : 0 ≤ cl) (c1 : cl < m.k) (fa : Bool) : RightQ m ⟨3, cl, q.rg, 0, 0, 0, fa, 0⟩ := ⟨h.mr, c0, c1, Int.le_refl 0, by show (0 : Int) ≤ 65536; omega, h.sp, .inr (.inr ⟨rfl, Int.le_refl 0, h.mr.d1, rfl, rfl⟩)⟩
open Classical in
theorem beats (m : Md) (p : Int → Int) : ∃ bk : Int → Bool, ∀ j, bk j = true ↔ beatP m p j := ⟨fun j => decide (beatP m p j), fun j => by simp⟩
theorem second_mono (cl : Int) (r : Bx) (fa : Bool) (p : Int → Int) (t : Int) : secondI ⟨3, cl, r, 0, 0, 0, fa, 0⟩ p t = putP p 0 t := secondI_yes ⟨rfl, Int.le_refl 0, by show (0 : Int) < 4; omega⟩
theorem in_breaks {m : Md} {q : Qy} {p : Int → Int} {cl lo hi t : Int} (h : RightQ m ⟨1, cl, q.rg, lo, hi, 0, false, 0⟩) : BreaksP m ⟨1, cl, q.rg, lo, hi, 0, false, 0⟩ p t ↔ ¬ (lo ≤ m.sum p cl ∧ m.sum p cl ≤ hi) := by
  constructor
  · rintro ⟨_, ⟨_, h2⟩ | ⟨h2, _⟩ | ⟨h2, _⟩⟩
    · exact h2
    · exact absurd h2 (by show ¬ (1 : Int) = 2; omega)
    · exact absurd h2 (by show ¬ (1 : Int) = 3; omega)
  · exact fun h2 => ⟨h, .inl ⟨rfl, h2⟩⟩
theorem best_breaks {m : Md} {q : Qy} {p : Int → Int} {cl t : Int} (h : RightQ m ⟨2, cl, q.rg, 0, 0, 0, false, 0⟩) : BreaksP m ⟨2, cl, q.rg, 0, 0, 0, false, 0⟩ p t ↔ beatP m p cl := by
  constructor
  · rintro ⟨_, ⟨h2, _⟩ | ⟨_, h2⟩ | ⟨h2, _⟩⟩
    · exact absurd h2 (by show ¬ (2 : Int) = 1; omega)
    · exact h2
    · exact absurd h2 (by show ¬ (2 : Int) = 3; omega)
  · exact fun h2 => ⟨h, .inr (.inl ⟨rfl, h2⟩)⟩
theorem mono_breaks {m : Md} {q : Qy} {p : Int → Int} {cl t : Int} {fa : Bool} (h : RightQ m ⟨3, cl, q.rg, 0, 0, 0, fa, 0⟩) : BreaksP m ⟨3, cl, q.rg, 0, 0, 0, fa, 0⟩ p t ↔ (p 0 < t ∧ ((fa = true ∧ m.sum p cl < m.sum (putP p 0 t) cl) ∨ (fa = false ∧ m.sum (putP p 0 t) cl < m.sum p cl))) := by
  have e := second_mono cl q.rg fa p t
  constructor
  · rintro ⟨_, ⟨h2, _⟩ | ⟨h2, _⟩ | ⟨_, h2, h3⟩⟩
    · exact absurd h2 (by show ¬ (3 : Int) = 1; omega)
    · exact absurd h2 (by show ¬ (3 : Int) = 2; omega)
    · unfold turnP at h3
      rw [e] at h3
      exact ⟨h2, h3⟩
  · rintro ⟨h2, h3⟩
    refine ⟨h, .inr (.inr ⟨rfl, h2, ?_⟩)⟩
    unfold turnP
    rw [e]
    exact h3

set_option maxRecDepth 100000 in
set_option maxHeartbeats 25600000 in
theorem queryKinds_walk (f : Fo) (a : Ak) (p : Int → Int) (t c : Int) (w : World) (hf : f.ok w) (ha : a.ok w) (_ : PtFit p) (_ : (Lit.int .i64 t).wf = true) (hwc : (Lit.int .i64 c).wf = true) : Calls Try.prog 3 #[forestV f, askV a, pointV p, .int .i64 t, .int .i64 c] w fun e w' => e = .returned (.bool true) ∧ Jk w w' := by
  have J := rules8
  have hc1 := bdi hwc
  obtain ⟨wv0, hwv0⟩ : ∃ z, w.alloc (.cells #[.int .i64 f.d, .int .i64 f.k, .slice f.ba f.bn f.bc, .slice f.sa f.sn f.sc] 25) = z := ⟨_, rfl⟩
  have hswv0 : wv0.heap.size = w.heap.size + 1 := by rw [← hwv0]; simp
  have HJwv0 : Hid (Jk w wv0) := hwv0 ▸ (Jk.refl w).alloc _
  have HB0wv0 : Hid (FoIn wv0 w.heap.size f) := hwv0 ▸ FoIn.laid w f _
  obtain ⟨wv1, hwv1⟩ : ∃ z, wv0.alloc (.cells #[.int .i64 a.kd, .int .i64 a.cl, .int .i64 a.lo, .int .i64 a.sz, .int .i64 a.f, .int .i64 a.bu, .bool a.fa, .slice a.sa a.sn a.sc] 27) = z := ⟨_, rfl⟩
  have hswv1 : wv1.heap.size = w.heap.size + 1 + 1 := by rw [← hwv1]; simp [hswv0]
  have HJwv1 : Hid (Jk w wv1) := HJwv0.out.trans (hwv1 ▸ (Jk.refl wv0).alloc _)
  have HB1wv1 : Hid (AkIn wv1 (w.heap.size + 1) a) := hswv0 ▸ hwv1 ▸ AkIn.laid wv0 a _
  have HB0wv1 : Hid (FoIn wv1 w.heap.size f) := HB0wv0.out.jk (hwv1 ▸ (Jk.refl wv0).alloc _)
  clear HB0wv0
  obtain ⟨w0, hw0⟩ : ∃ z, wv1.alloc (.cells #[.int .i64 (p 0), .int .i64 (p 1), .int .i64 (p 2), .int .i64 (p 3)] 29) = z := ⟨_, rfl⟩
  have hsw0 : w0.heap.size = w.heap.size + 1 + 1 + 1 := by rw [← hw0]; simp [hswv1]
  have HJw0 : Hid (Jk w w0) := HJwv1.out.trans (hw0 ▸ (Jk.refl wv1).alloc _)
  have HB2w0 : Hid (PtB w0 (w.heap.size + 1 + 1) (p 0) (p 1) (p 2) (p 3)) := hswv1 ▸ hw0 ▸ PtB.laid wv1 (p 0) (p 1) (p 2) (p 3)
  have HB0w0 : Hid (FoIn w0 w.heap.size f) := HB0wv1.out.jk (hw0 ▸ (Jk.refl wv1).alloc _)
  clear HB0wv1
  have HB1w0 : Hid (AkIn w0 (w.heap.size + 1) a) := HB1wv1.out.jk (hw0 ▸ (Jk.refl wv1).alloc _)
  clear HB1wv1
  have HM : Hid (Calls Try.prog 4 #[forestV f] w0 fun e w' => GotM w0 e w') := model_any f w0 (hf.jk HJw0.out)
  have ha0 := hid (ha.jk HJw0.out)
  have HAk : Hid (∀ m : Md, RightM m → AnsW w0 5 #[askV a, modelV m] (queryV (queryI a m.d m.k))) := fun m hr => ask_ans ha0.out hr.d1 hr.d4 hr.k1 hr.k3
  have HRn : Hid (Ans 12 #[] (.bool true)) := fun w' => queryRuns_walk w'
  obtain ⟨fi0, fi1, fi2, fi3, fi4⟩ := HB0w0.out
  clear hf ha ha0
  obtain ⟨d, k, ba, bn, bc, bz, sa, sn, sc, ss⟩ := f
  simp only [forestV] at *
  go_enter Try.func3, Try.ntmps3
  go_upto_region 1 with fail
  go_cut [11] (fun v wc => ∃ w1 h m, v = .pointer (some ⟨h, 0, none⟩) ∧ Made w0 w1 wc h m)
  case first =>
    go_wp2_with (first | (go_at_call 4; refine HM.out.mono ?_; rintro e w1 ⟨m, rfl, hr, h3, h4, hfr, hj⟩; have HMd := hid (GotM.made hr h3 h4 hfr hj); clear hr h3 h4 hfr hj))
    go_meet
    case rel => exact ⟨w1, _, m, rfl, HMd.out⟩
  case rest =>
  obtain ⟨w1, h, m, rfl, hMd⟩ := hcut
  obtain ⟨w2, rfl⟩ : ∃ z, z = wc := ⟨_, rfl⟩
  have HMd := hid hMd
  have HJ2 : Hid (Jk w0 w2) := hMd.2.2.2.2.2.2.1.trans hMd.2.2.2.2.2.2.2
  clear hMd fi0 fi1 fi2 fi3 fi4
  go_upto_region 2 with fail
  go_cut [12] (fun v wc => ∃ g q, v = .pointer (some ⟨g, 0, none⟩) ∧ q = queryI a m.d m.k ∧ MadeQ w0 w1 wc h g m q)
  case first =>
    refine wp_region_lit ?_
    obtain ⟨al, a0, a1, a2, a3, a4, a5, a6, a7⟩ := HB1w0.out.jk HJ2.out
    refine wpList_one rfl fun K hK => ?_
    go_simp
    refine hK _ _ ?_
    clear hK K
    refine listw_loadM rfl _ rfl HMd.out.1 rfl ?_
    simp only [Act.put, List.setIfInBounds_toArray, List.set_cons_succ, List.set_cons_zero]
    refine wpList_one rfl fun K hK => ?_
    go_simp
    go_at_call 5
    refine ((HAk.out m HMd.out.2.2.1).on _ HJ2.out).mono ?_
    rintro e w3 ⟨rfl, hj3⟩
    have HJ3 := hid hj3
    clear hj3
    go_simp
    refine hK _ _ ?_
    clear hK K
    go_wp2
    go_meet
    case rel => exact ⟨_, queryI a m.d m.k, rfl, rfl, HMd.out.q (HJ3.out.trans ((Jk.refl _).alloc _)) (QyB.laid w3 (queryI a m.d m.k)) HJ3.out.below.size⟩
  case rest =>
  obtain ⟨g, q, rfl, hq, hMq⟩ := hcut
  obtain ⟨w4, rfl⟩ : ∃ z, z = wc := ⟨_, rfl⟩
  have HMq := hid hMq
  have hrq : RightQ m q := hq ▸ query_right a hMq.mr
  have HRq := hid hrq
  -- what is known of the numbers
  have hr := hMq.mr
  have hk1 := hr.k1
  have hk3 := hr.k3
  have hCb := within_bd c 0 (m.k - 1) (by omega)
  have HCw := hid (within_q (n := c) (lo := 0) (hi := m.k - 1) rfl hc1 (by omega) (by omega) (by omega))
  obtain ⟨CL, hCL⟩ : ∃ z, withinI c 0 (m.k - 1) = z := ⟨_, rfl⟩
  rw [hCL] at hCb HCw
  have hcl1 : CL < m.k := by omega
  have hEb := hr.small p CL
  have HR0 := hid (qright_ans (b := true) hMq.ok (iff_of_true rfl hrq))
  have HE0 := hid (eval_ans p hMq.ok (hr.evalP p hCb.1 hcl1))
  have HY0 := hid (eval_ans (putP p 0 t) hMq.ok (hr.evalP (putP p 0 t) hCb.1 hcl1))
  have HI1 : Hid (AnsW w1 9 #[modelV m, queryV ⟨1, CL, q.rg, m.sum p CL, m.sum p CL, 0, false, 0⟩, pointV p, .int .i64 t] (.bool false)) := breaks_ans p t hMq.ok (iff_of_false Bool.false_ne_true (fun hb => (in_breaks (in_ok hrq hCb.1 hcl1 (Int.le_refl _))).1 hb ⟨Int.le_refl _, Int.le_refl _⟩))
  have HI2 : Hid (AnsW w1 9 #[modelV m, queryV ⟨1, CL, q.rg, m.sum p CL + 1, m.sum p CL + 2, 0, false, 0⟩, pointV p, .int .i64 t] (.bool true)) := breaks_ans p t hMq.ok (iff_of_true rfl ((in_breaks (in_ok hrq hCb.1 hcl1 (by omega))).2 (by omega)))
  obtain ⟨bk, hbk⟩ := beats m p
  have HBk : Hid (∀ j : Int, 0 ≤ j → j < m.k → 2 ≤ m.k → AnsW w1 9 #[modelV m, queryV ⟨2, j, q.rg, 0, 0, 0, false, 0⟩, pointV p, .int .i64 t] (.bool (bk j))) := fun j h0 h1 h2 => breaks_ans p t hMq.ok ((hbk j).trans (best_breaks (best_ok hrq h0 h1 h2)).symm)
  obtain ⟨bs, hbs⟩ : ∃ z, bestTo m p (m.k - 1).toNat = z := ⟨_, rfl⟩
  have HBs := hid (best_yes p hMq.ok hr hbs)
  have hb1 := bestTo_bd m p (m.k - 1).toNat
  rw [hbs] at hb1
  have HOne : Hid (∀ j : Int, 0 ≤ j → j < m.k → bk j = false → j = bs) := fun j h0 h1 h2 => by
    by_cases hjb : j = bs
    · exact hjb
    · exfalso
      have h3 := bestTo_best m p (m.k - 1).toNat j h0 (by omega)
      rw [hbs] at h3
      have h4 := (hbk j).2 ⟨bs, hb1.1, by omega, fun e => hjb e.symm, h3.1⟩
      rw [h2] at h4
      cases h4
  have HSc : Hid (Ans 11 #[queryV ⟨3, CL, q.rg, 0, 0, 0, false, 0⟩, pointV p, .int .i64 t] (pointV (putP p 0 t))) := by
    have := second_ans ⟨3, CL, q.rg, 0, 0, 0, false, 0⟩ p t
    rwa [second_mono] at this
  obtain ⟨bu, hbu⟩ := breaks_bool m ⟨3, CL, q.rg, 0, 0, 0, false, 0⟩ p t
  obtain ⟨bd, hbd⟩ := breaks_bool m ⟨3, CL, q.rg, 0, 0, 0, true, 0⟩ p t
  have HUp0 := hid (breaks_ans p t hMq.ok hbu)
  have HDn0 := hid (breaks_ans p t hMq.ok hbd)
  have HBu : Hid (bu = true ↔ p 0 < t ∧ m.sum (putP p 0 t) CL < m.sum p CL) := (hbu.trans (mono_breaks (mono_ok hrq hCb.1 hcl1 false))).trans (by simp)
  have HBd : Hid (bd = true ↔ p 0 < t ∧ m.sum p CL < m.sum (putP p 0 t) CL) := (hbd.trans (mono_breaks (mono_ok hrq hCb.1 hcl1 true))).trans (by simp)
  obtain ⟨Ev, hE⟩ : ∃ z, m.sum p CL = z := ⟨_, rfl⟩
  obtain ⟨Yv, hY⟩ : ∃ z, m.sum (putP p 0 t) CL = z := ⟨_, rfl⟩
  rw [hE] at HE0 HI1 HI2 HBu HBd hEb
  rw [hY] at HY0 HBu HBd
  have HPa := hid (HB2w0.out.jk (hMq.j0.trans hMq.j1))
  have HPlt : Hid (w.heap.size + 1 + 1 < w1.heap.size ∧ w1.heap.size ≤ w4.heap.size) := ⟨Nat.lt_of_lt_of_le HB2w0.out.lt hMq.j0.below.size, hMq.j1.below.size⟩
  have HM4 := hid hMq
  obtain ⟨KK, hKK⟩ : ∃ z : Nat, m.k = (z : Int) := ⟨m.k.toNat, by omega⟩
  have hb2 : 0 ≤ bs ∧ bs < m.k := by omega
  obtain ⟨PP, hPP⟩ : ∃ z, putP p 0 t = z := ⟨_, rfl⟩
  rw [hPP] at HY0 HSc
  clear hCL hE hY hPP hbs hb1 hbk hbu hbd hq hMq hrq HMd HAk hr HMq HRq
  obtain ⟨md, mk, b0, b1', b2', ma, mn, mc, ts⟩ := m
  obtain ⟨kd, cl, ⟨⟨ra, rb⟩, ⟨rc, rd⟩, ⟨re, rf⟩, ⟨rg, rh⟩, ⟨ri, rj⟩⟩, lo, hi, ff, fa, bbu⟩ := q
  simp only at hk1 hk3 hKK hb2 hcl1 HBk HOne hCb HCw
  subst hKK
  obtain ⟨p0, e0⟩ : ∃ z, p 0 = z := ⟨_, rfl⟩
  obtain ⟨p1, e1⟩ : ∃ z, p 1 = z := ⟨_, rfl⟩
  obtain ⟨p2, e2⟩ : ∃ z, p 2 = z := ⟨_, rfl⟩
  obtain ⟨p3, e3⟩ : ∃ z, p 3 = z := ⟨_, rfl⟩
  obtain ⟨s0, g0⟩ : ∃ z, PP 0 = z := ⟨_, rfl⟩
  obtain ⟨s1, g1⟩ : ∃ z, PP 1 = z := ⟨_, rfl⟩
  obtain ⟨s2, g2⟩ : ∃ z, PP 2 = z := ⟨_, rfl⟩
  obtain ⟨s3, g3⟩ : ∃ z, PP 3 = z := ⟨_, rfl⟩
  simp only [modelV, queryV, pointV, e0, e1, e2, e3, g0, g1, g2, g3] at HR0 HE0 HY0 HI1 HI2 HBk HBs HSc HUp0 HDn0 HBu HBd HPa ⊢
  clear e0 e1 e2 e3 g0 g1 g2 g3
  have hwk : IntKind.i64.wrap ((KK : Int) - 1) = (KK : Int) - 1 := i64_in (by omega) (by omega)
  have hwe1 : IntKind.i64.wrap (Ev + 1) = Ev + 1 := i64_in (by omega) (by omega)
  have hwe2 : IntKind.i64.wrap (Ev + 2) = Ev + 2 := i64_in (by omega) (by omega)
  -- Right
  have HPb4 := HPa
  have HP4 := HPb4
  clear HPb4 HPa
  have HR4 := hid (HR0.out.up HM4.out.j1)
  have HJc := hid (Jk.refl w4)
  go_upto_region 3 with fail
  go_cut [30] (fun v wc => v = .bool false ∧ Hid (Jk w4 wc))
  case first =>
    as_aux_lemma =>
    refine wp_region_lit ?_
    refine listp_loadM rfl _ rfl (HM4.out.mb.jk HJc.out) rfl ?_
    simp only [Act.put, List.setIfInBounds_toArray, List.set_cons_succ, List.set_cons_zero]
    refine listp_loadQ rfl _ rfl (HM4.out.qb.jk HJc.out) rfl ?_
    simp only [Act.put, List.setIfInBounds_toArray, List.set_cons_succ, List.set_cons_zero]
    refine wpList_plain rfl fun K hK => ?_
    go_simp
    go_at_call 6
    refine (HR4.out.on _ HJc.out).mono ?_
    rintro e z0 ⟨rfl, hj⟩
    have HJn := hid (HJc.out.trans hj)
    clear hj HJc
    have HJc := HJn
    clear HJn
    go_simp
    refine hK _ _ ?_
    clear hK K
    refine wpList_plain rfl fun K hK => ?_
    go_simp
    refine hK _ _ ?_
    clear hK K
    refine wpList_nil ?_
    go_wp2
    go_meet
    case rel => exact ⟨rfl, HJc⟩
  case rest =>
  obtain ⟨rfl, HJc'⟩ := hcut
  clear HJc
  have HJc := HJc'
  clear HJc'
  obtain ⟨z0, rfl⟩ : ∃ z, z = wc := ⟨_, rfl⟩
  have HM5 := hid (HM4.out.jk HJc.out)
  have HP5 := hid (HP4.out.jk HJc.out)
  clear HM4 HP4 HJc
  obtain ⟨w5, rfl⟩ : ∃ z, z = z0 := ⟨_, rfl⟩
  -- the class
  obtain ⟨m0, m1, m2, m3, m4, m5, m6⟩ := HM5.out.mb.in
  simp only at m1 m2 m3 m4 m5 m6
  go_upto_region 6 with (first | (go_at_call 7; refine (HCw.out.on _).mono ?_; rintro e w9 ⟨rfl, hw⟩; obtain rfl := hw.symm))
  clear m0 m1 m2 m3 m4 m5 m6
  have HE5 := hid (HE0.out.up HM5.out.j1)
  have HJc := hid (Jk.refl w5)
  go_cut [14] (fun v wc => v = .int .i64 Ev ∧ Hid (Jk w5 wc))
  case first =>
    as_aux_lemma =>
    refine wp_region_lit ?_
    refine listp_loadM rfl _ rfl (HM5.out.mb.jk HJc.out) rfl ?_
    simp only [Act.put, List.setIfInBounds_toArray, List.set_cons_succ, List.set_cons_zero]
    refine wpList_plain rfl fun K hK => ?_
    go_simp
    refine hK _ _ ?_
    clear hK K
    refine listp_loadP rfl _ rfl (HP5.out.jk HJc.out) rfl ?_
    simp only [Act.put, List.setIfInBounds_toArray, List.set_cons_succ, List.set_cons_zero]
    refine wpList_plain rfl fun K hK => ?_
    go_simp
    go_at_call 8
    refine (HE5.out.on _ HJc.out).mono ?_
    rintro e z0 ⟨rfl, hj⟩
    have HJn := hid (HJc.out.trans hj)
    clear hj HJc
    have HJc := HJn
    clear HJn
    go_simp
    refine hK _ _ ?_
    clear hK K
    refine wpList_plain rfl fun K hK => ?_
    go_simp
    refine hK _ _ ?_
    clear hK K
    refine wpList_nil ?_
    go_wp2
    go_meet
    case rel => exact ⟨rfl, HJc⟩
  case rest =>
  obtain ⟨rfl, HJc'⟩ := hcut
  clear HJc
  have HJc := HJc'
  clear HJc'
  obtain ⟨z0, rfl⟩ : ∃ z, z = wc := ⟨_, rfl⟩
  have HM6 := hid (HM5.out.jk HJc.out)
  have HP6 := hid (HP5.out.jk HJc.out)
  clear HM5 HP5 HJc
  obtain ⟨w6, rfl⟩ : ∃ z, z = z0 := ⟨_, rfl⟩
  -- a range of one number
  go_upto_region 7 with fail
  refine wp_region_lit ?_
  refine wpList_plain rfl fun K hK => ?_
  go_simp
  refine hK _ _ ?_
  clear hK K
  refine wpList_plain rfl fun K hK => ?_
  go_simp
  refine hK _ _ ?_
  clear hK K
  refine listp_loadXat rfl _ rfl HM6.out.qb rfl ?_
  go_upto_region 8 with fail
  have HA7 : Hid (Jk w6 (w6.alloc (.cells #[.int .i64 1, .int .i64 CL, .int .i64 ra, .int .i64 rb, .int .i64 rc, .int .i64 rd, .int .i64 re, .int .i64 rf, .int .i64 rg, .int .i64 rh, .int .i64 ri, .int .i64 rj, .int .i64 Ev, .int .i64 Ev, .int .i64 0, .bool false, .int .i64 0] 40))) := (Jk.refl w6).alloc _
  have HI7 : Hid (QyB (w6.alloc (.cells #[.int .i64 1, .int .i64 CL, .int .i64 ra, .int .i64 rb, .int .i64 rc, .int .i64 rd, .int .i64 re, .int .i64 rf, .int .i64 rg, .int .i64 rh, .int .i64 ri, .int .i64 rj, .int .i64 Ev, .int .i64 Ev, .int .i64 0, .bool false, .int .i64 0] 40)) w6.heap.size ⟨1, CL, ⟨⟨ra, rb⟩, ⟨rc, rd⟩, ⟨re, rf⟩, ⟨rg, rh⟩, ⟨ri, rj⟩⟩, Ev, Ev, 0, false, 0⟩) := QyB.laid w6 ⟨1, CL, ⟨⟨ra, rb⟩, ⟨rc, rd⟩, ⟨re, rf⟩, ⟨rg, rh⟩, ⟨ri, rj⟩⟩, Ev, Ev, 0, false, 0⟩
  have HS7 : Hid (g < w6.heap.size ∧ h < w6.heap.size ∧ w1.heap.size ≤ w6.heap.size) := ⟨HM6.out.qb.lt, HM6.out.mb.lt, HM6.out.j1.below.size⟩
  generalize hw7 : w6.alloc (.cells #[.int .i64 1, .int .i64 CL, .int .i64 ra, .int .i64 rb, .int .i64 rc, .int .i64 rd, .int .i64 re, .int .i64 rf, .int .i64 rg, .int .i64 rh, .int .i64 ri, .int .i64 rj, .int .i64 Ev, .int .i64 Ev, .int .i64 0, .bool false, .int .i64 0] 40) = w7 at HA7 HI7 ⊢
  have HM7 := hid (HM6.out.jk HA7.out)
  have HP7 := hid (HP6.out.jk HA7.out)
  clear hw7 HM6 HP6 HA7
  have HI7b := hid (HI1.out.up HM7.out.j1)
  have HJc := hid (Jk.refl w7)
  go_cut [50] (fun v wc => v = .bool false ∧ Hid (Jk w7 wc))
  case first =>
    as_aux_lemma =>
    refine wp_region_lit ?_
    refine listp_loadM rfl _ rfl (HM7.out.mb.jk HJc.out) rfl ?_
    simp only [Act.put, List.setIfInBounds_toArray, List.set_cons_succ, List.set_cons_zero]
    refine listp_loadQ rfl _ rfl (HI7.out.jk HJc.out) rfl ?_
    simp only [Act.put, List.setIfInBounds_toArray, List.set_cons_succ, List.set_cons_zero]
    refine listp_loadP rfl _ rfl (HP7.out.jk HJc.out) rfl ?_
    simp only [Act.put, List.setIfInBounds_toArray, List.set_cons_succ, List.set_cons_zero]
    refine wpList_plain rfl fun K hK => ?_
    go_simp
    refine hK _ _ ?_
    clear hK K
    refine wpList_plain rfl fun K hK => ?_
    go_simp
    go_at_call 9
    refine (HI7b.out.on _ HJc.out).mono ?_
    rintro e z0 ⟨rfl, hj⟩
    have HJn := hid (HJc.out.trans hj)
    clear hj HJc
    have HJc := HJn
    clear HJn
    go_simp
    refine hK _ _ ?_
    clear hK K
    refine wpList_nil ?_
    go_wp2
    go_meet
    case rel => exact ⟨rfl, HJc⟩
  case rest =>
  obtain ⟨rfl, HJc'⟩ := hcut
  clear HJc
  have HJc := HJc'
  clear HJc'
  obtain ⟨z0, rfl⟩ : ∃ z, z = wc := ⟨_, rfl⟩
  have HM8 := hid (HM7.out.jk HJc.out)
  have HP8 := hid (HP7.out.jk HJc.out)
  have HI8 := hid (HI7.out.jk HJc.out)
  clear HM7 HP7 HJc
  obtain ⟨w8, rfl⟩ : ∃ z, z = z0 := ⟨_, rfl⟩
  -- a range beside it
  obtain ⟨q0, q1, q2, q3, q4, q5, q6, q7, q8, q9, q10, q11, q12, q13, q14, q15, q16⟩ := HI8.out.in
  have qf := HI8.out.frozen
  have ql := HI8.out.lt
  simp only at q0 q1 q2 q3 q4 q5 q6 q7 q8 q9 q10 q11 q12 q13 q14 q15 q16
  go_upto_region 11 with fail
  have HI9 := hid ((HI8.out.setLo (Ev + 1)).setHi (Ev + 2))
  have HG9 := hid ((grown_set w8 w6.heap.size 12 (.int .i64 (Ev + 1))).trans (grown_set _ w6.heap.size 13 (.int .i64 (Ev + 2))))
  have HM9 := hid (MadeQ.by HM8.out HG9.out (by have := HS7.out; omega) (by have := HS7.out; omega) HS7.out.2.2)
  have HP9 := hid (PtB.by HP8.out HG9.out (by have := HS7.out; have := HPlt.out; omega))
  generalize hw9 : (w8.setCell ⟨w6.heap.size, 12, none⟩ (.int .i64 (Ev + 1))).setCell ⟨w6.heap.size, 13, none⟩ (.int .i64 (Ev + 2)) = w9 at HI9 HM9 HP9 ⊢
  clear hw9 q0 q1 q2 q3 q4 q5 q6 q7 q8 q9 q10 q11 q12 q13 q14 q15 q16 ql qf HM8 HP8 HI8 HG9 HI7b HI7
  have HI9b := hid (HI2.out.up HM9.out.j1)
  have HJc := hid (Jk.refl w9)
  go_cut [62] (fun v wc => v = .bool false ∧ Hid (Jk w9 wc))
  case first =>
    as_aux_lemma =>
    refine wp_region_lit ?_
    refine listp_loadM rfl _ rfl (HM9.out.mb.jk HJc.out) rfl ?_
    simp only [Act.put, List.setIfInBounds_toArray, List.set_cons_succ, List.set_cons_zero]
    refine listp_loadQ rfl _ rfl (HI9.out.jk HJc.out) rfl ?_
    simp only [Act.put, List.setIfInBounds_toArray, List.set_cons_succ, List.set_cons_zero]
    refine listp_loadP rfl _ rfl (HP9.out.jk HJc.out) rfl ?_
    simp only [Act.put, List.setIfInBounds_toArray, List.set_cons_succ, List.set_cons_zero]
    refine wpList_plain rfl fun K hK => ?_
    go_simp
    refine hK _ _ ?_
    clear hK K
    refine wpList_plain rfl fun K hK => ?_
    go_simp
    go_at_call 9
    refine (HI9b.out.on _ HJc.out).mono ?_
    rintro e z0 ⟨rfl, hj⟩
    have HJn := hid (HJc.out.trans hj)
    clear hj HJc
    have HJc := HJn
    clear HJn
    go_simp
    refine hK _ _ ?_
    clear hK K
    refine wpList_plain rfl fun K hK => ?_
    go_simp
    refine hK _ _ ?_
    clear hK K
    refine wpList_nil ?_
    go_wp2
    go_meet
    case rel => exact ⟨rfl, HJc⟩
  case rest =>
  obtain ⟨rfl, HJc'⟩ := hcut
  clear HJc
  have HJc := HJc'
  clear HJc'
  obtain ⟨z0, rfl⟩ : ∃ z, z = wc := ⟨_, rfl⟩
  have HM10 := hid (HM9.out.jk HJc.out)
  have HP10 := hid (HP9.out.jk HJc.out)
  clear HM9 HP9 HJc
  obtain ⟨w10, rfl⟩ : ∃ z, z = z0 := ⟨_, rfl⟩
  clear HI9 HI9b HI1 HI2 HE0 HE5 HR0 HR4 HS7
  -- of two classes not both are best
  go_upto_region 13 with fail
  go_cut [16] (fun v wc => v = .int .i64 0 ∧ Hid (w10 = wc))
  case first =>
    go_wp2
    go_meet
    case rel => exact ⟨rfl, hid rfl⟩
  case rest =>
  obtain ⟨rfl, hw10⟩ := hcut
  obtain rfl := hw10.out
  clear hw10
  go_step
  go_step
  go_cut [16] (fun v wc => ∃ n : Nat, v = .int .i64 (n : Int) ∧ n ≤ 1 ∧ Jk w10 wc)
  case first =>
    go_upto_region 15 with fail
    go_loopg [16, 17] KK (fun r b i wr => ∃ j n : Nat, j + r = KK ∧ i = .int .i64 (j : Int) ∧ b = .int .i64 (n : Int) ∧ n ≤ 1 ∧ Hid (n = 1 → bs < (j : Int)) ∧ Hid (Jk w10 wr))
    case atStart => exact ⟨0, 0, by omega, rfl, rfl, by omega, hid fun h => absurd h (by omega), hid (Jk.refl w10)⟩
    case round =>
      obtain ⟨j, n, hj, rfl, rfl, hn, HN, HJr⟩ := hrel
      obtain ⟨m0, m1, m2, m3, m4, m5, m6⟩ := (HM10.out.jk HJr.out).mb.in
      simp only at m1 m2 m3 m4 m5 m6
      by_cases hfuel : gk = 0
      · subst hfuel
        obtain rfl : j = KK := by omega
        go_wp2
        go_meet
        case rel => exact ⟨n, rfl, hn, HJr.out⟩
      · obtain ⟨r, rfl⟩ : ∃ r, gk = r + 1 := ⟨gk - 1, by omega⟩
        have hjk : (j : Int) < (KK : Int) := by omega
        by_cases hK1 : (KK : Int) ≤ 1
        · have hK1' : ¬ (1 : Int) < (KK : Int) := by omega
          go_wp2
          go_meet
          case rel => exact ⟨n, rfl, hn, HJr.out⟩
        · have hK2 : (1 : Int) < (KK : Int) := by omega
          have HBj := hid ((HBk.out (j : Int) (by omega) hjk (by omega)).up ((HM10.out.jk HJr.out).j1))
          have HOj := hid (HOne.out (j : Int) (by omega) hjk)
          obtain ⟨bj, hbj⟩ : ∃ z, bk (j : Int) = z := ⟨_, rfl⟩
          rw [hbj] at HBj HOj
          clear hbj
          have HMr := hid (HM10.out.jk HJr.out)
          have HPr := hid (HP10.out.jk HJr.out)
          have HJc := hid (Jk.refl wr)
          have hwj : IntKind.i64.wrap ((j : Int) + 1) = (j : Int) + 1 := i64_in (by omega) (by omega)
          have hwn : IntKind.i64.wrap ((n : Int) + 1) = (n : Int) + 1 := i64_in (by omega) (by omega)
          go_upto_region 17 with fail
          refine wp_region_lit ?_
          refine listp_loadM rfl _ rfl (HMr.out.mb.jk HJc.out) rfl ?_
          simp only [Act.put, List.setIfInBounds_toArray, List.set_cons_succ, List.set_cons_zero]
          refine wpList_plain rfl fun K hK => ?_
          go_simp
          refine hK _ _ ?_
          clear hK K
          refine wpList_plain rfl fun K hK => ?_
          go_simp
          refine hK _ _ ?_
          clear hK K
          refine listp_loadXat rfl _ rfl (HMr.out.qb.jk HJc.out) rfl ?_
          simp only [Act.put, List.setIfInBounds_toArray, List.set_cons_succ, List.set_cons_zero]
          refine wpList_plain rfl fun K hK => ?_
          go_simp
          refine hK _ _ ?_
          clear hK K
          refine listp_loadP rfl _ rfl (HPr.out.jk HJc.out) rfl ?_
          simp only [Act.put, List.setIfInBounds_toArray, List.set_cons_succ, List.set_cons_zero]
          refine wpList_plain rfl fun K hK => ?_
          go_simp
          refine hK _ _ ?_
          clear hK K
          refine wpList_plain rfl fun K hK => ?_
          go_simp
          go_at_call 9
          refine (HBj.out.on _ HJc.out).mono ?_
          rintro e z0 ⟨rfl, hj⟩
          have HJn := hid (HJc.out.trans hj)
          clear hj HJc
          have HJc := HJn
          clear HJn
          go_simp
          refine hK _ _ ?_
          clear hK K
          refine wpList_plain rfl fun K hK => ?_
          go_simp
          refine hK _ _ ?_
          clear hK K
          refine wpList_nil ?_
          clear m0 m1 m2 m3 m4 m5 m6
          cases bj
          · have hjb : (j : Int) = bs := HOj.out rfl
            have hn0 : n = 0 := by
              by_cases h1 : n = 1
              · have := HN.out h1
                omega
              · omega
            subst hn0
            go_upto_region 19 with fail
            have HBb := hid (HBs.out.up (HMr.out.jk HJc.out).j1)
            have HJd := HJc
            clear HJc
            have HJc := hid (Jk.refl z0)
            refine wp_region_lit ?_
            refine listp_loadM rfl _ rfl ((HMr.out.jk HJd.out).mb.jk HJc.out) rfl ?_
            simp only [Act.put, List.setIfInBounds_toArray, List.set_cons_succ, List.set_cons_zero]
            refine listp_loadP rfl _ rfl ((HPr.out.jk HJd.out).jk HJc.out) rfl ?_
            simp only [Act.put, List.setIfInBounds_toArray, List.set_cons_succ, List.set_cons_zero]
            refine wpList_plain rfl fun K hK => ?_
            go_simp
            go_at_call 10
            refine (HBb.out.on _ HJc.out).mono ?_
            rintro e z0 ⟨rfl, hj⟩
            have HJn := hid (HJc.out.trans hj)
            clear hj HJc
            have HJc := HJn
            clear HJn
            go_simp
            refine hK _ _ ?_
            clear hK K
            refine wpList_plain rfl fun K hK => ?_
            go_simp
            refine hK _ _ ?_
            clear hK K
            refine wpList_plain rfl fun K hK => ?_
            go_simp
            refine hK _ _ ?_
            clear hK K
            refine wpList_nil ?_
            have hjb' : (bs != (j : Int)) = false := by simp [hjb]
            go_wp2
            go_roundg r
            case measure => omega
            case rel => exact ⟨j + 1, 1, by omega, by go_num, rfl, by omega, hid (fun _ => by omega), hid ((HJr.out.trans HJd.out).trans HJc.out)⟩
          · go_wp2
            go_roundg r
            case measure => omega
            case rel => exact ⟨j + 1, n, by omega, by go_num, rfl, hn, hid (fun h => by have := HN.out h; omega), hid (HJr.out.trans HJc.out)⟩
  case rest =>
  obtain ⟨n, rfl, hn, hjn⟩ := hcut
  obtain ⟨w11, rfl⟩ : ∃ z, z = wc := ⟨_, rfl⟩
  have HM11 := hid (HM10.out.jk hjn)
  have HP11 := hid (HP10.out.jk hjn)
  clear hjn HM10 HP10 HBk HOne HBs
  have hn1 : ¬ (1 : Int) < (n : Int) := by omega
  -- what rises, what falls
  go_upto_region 23 with fail
  refine wp_region_lit ?_
  refine wpList_plain rfl fun K hK => ?_
  go_simp
  refine hK _ _ ?_
  clear hK K
  refine wpList_plain rfl fun K hK => ?_
  go_simp
  refine hK _ _ ?_
  clear hK K
  refine listp_loadXat rfl _ rfl HM11.out.qb rfl ?_
  refine wpList_plain rfl fun K hK => ?_
  go_simp
  refine hK _ _ ?_
  clear hK K
  refine wpList_plain rfl fun K hK => ?_
  go_simp
  refine hK _ _ ?_
  clear hK K
  refine list_storeQ rfl _ _ rfl (QyB.laid w11 ⟨0, 0, Bx.nil, 0, 0, 0, false, 0⟩) rfl ⟨3, CL, ⟨⟨ra, rb⟩, ⟨rc, rd⟩, ⟨re, rf⟩, ⟨rg, rh⟩, ⟨ri, rj⟩⟩, 0, 0, 0, false, 0⟩ rfl fun w12 hq12 hg12 => ?_
  have HU12 := hid hq12
  have HA12 : Hid (Jk w11 w12) := ((Jk.refl w11).alloc _).grown hg12 (fun k hk => by cases hk; exact Nat.le_refl _)
  clear hq12 hg12
  go_upto_region 24 with fail
  have HM12 := hid (HM11.out.jk HA12.out)
  have HP12 := hid (HP11.out.jk HA12.out)
  clear HM11 HP11 HA12
  refine wp_region_lit ?_
  refine list_loadQ rfl _ rfl HU12.out rfl ?_
  refine wpList_plain rfl fun K hK => ?_
  go_simp
  refine hK _ _ ?_
  clear hK K
  refine list_storeQ rfl _ _ rfl (QyB.laid w12 ⟨0, 0, Bx.nil, 0, 0, 0, false, 0⟩) rfl ⟨3, CL, ⟨⟨ra, rb⟩, ⟨rc, rd⟩, ⟨re, rf⟩, ⟨rg, rh⟩, ⟨ri, rj⟩⟩, 0, 0, 0, false, 0⟩ rfl fun wd hqd hgd => ?_
  have HDd := hid hqd
  have HAd : Hid (Jk w12 wd) := ((Jk.refl w12).alloc _).grown hgd (fun k hk => by cases hk; exact Nat.le_refl _)
  clear hqd hgd
  go_upto_region 25 with fail
  refine wp_region_lit ?_
  refine wpList_plain rfl fun K hK => ?_
  go_simp
  refine hK _ _ ?_
  clear hK K
  refine listp_storeFa rfl _ _ rfl HDd.out rfl true rfl fun w13 hq13 hg13 => ?_
  have HD13 := hid hq13
  have HA13 : Hid (Jk w12 w13) := HAd.out.grown hg13 (fun k hk => by cases hk; exact Nat.le_refl _)
  clear hq13 hg13 HDd HAd
  simp only [Act.put]
  go_upto_region 26 with fail
  have HM13 := hid (HM12.out.jk HA13.out)
  have HP13 := hid (HP12.out.jk HA13.out)
  have HU13 := hid (HU12.out.jk HA13.out)
  clear HM12 HP12 HA13 HU12
  go_cut [20] (fun v wc => v = .int .i64 Yv ∧ Hid (Jk w13 wc))
  case first =>
    as_aux_lemma =>
    have HY13 := hid (HY0.out.up HM13.out.j1)
    obtain ⟨m0, m1, m2, m3, m4, m5, m6⟩ := HM13.out.mb.in
    obtain ⟨pl, p0', p1', p2', p3'⟩ := HP13.out.in
    simp only at m1 m2 m3 m4 m5 m6
    refine region_junk (by kernel_rfl) (by kernel_rfl) ?_
    iterate 2 (go_big_quiet_step (exact rfl))
    refine quietw_loadQ (by rintro _ ⟨X, rfl⟩; exact HU13.out.jk ⟨X, rfl⟩) rfl _ rfl rfl ?_
    intro K hK
    simp only [Act.put, List.setIfInBounds_toArray, List.set_cons_succ, List.set_cons_zero]
    go_big_quiet_on
    repeat (go_big_quiet_step (first | (go_at_call 11; exact on_junk HSc.out _) | (go_at_call 8; exact AnsW.junk (by with_reducible exact HY13.out) _) | exact rfl))
    refine wpQuiet_nil ?_
    rintro _ ⟨X26, rfl⟩
    go_wp2
    go_meet
    case rel => exact ⟨rfl, hid ⟨X26, rfl⟩⟩
  case rest =>
  obtain ⟨rfl, HJx⟩ := hcut
  obtain ⟨w14, rfl⟩ : ∃ z, z = wc := ⟨_, rfl⟩
  have HM14 := hid (HM13.out.jk HJx.out)
  have HP14 := hid (HP13.out.jk HJx.out)
  have HU14 := hid (HU13.out.jk HJx.out)
  have HD14 := hid (HD13.out.jk HJx.out)
  clear HM13 HP13 HU13 HD13 HJx HY0
  have HUp := hid (HUp0.out.up HM14.out.j1)
  have HDn := hid (HDn0.out.up HM14.out.j1)
  have HJw14 := hid ((HJw0.out.trans HM14.out.j0).trans HM14.out.j1)
  clear HUp0 HDn0
  have HJc := hid (Jk.refl w14)
  have HPc : Hid (∀ z, Jk w14 z → PtB z (w.heap.size + 1 + 1) p0 p1 p2 p3) := fun z hz => HP14.out.jk hz
  by_cases hpt : p0 < t
  · rcases Int.lt_trichotomy Yv Ev with hlt | heq | hgt
    · obtain rfl : true = bu := (HBu.out.2 ⟨hpt, hlt⟩).symm
      obtain rfl : false = bd := (Bool.eq_false_iff.2 fun e => by have := (HBd.out.1 e).2; omega).symm
      have hne : (Ev != Yv) = true := by simp; omega
      as_aux_lemma =>
      go_upto_region 27 with fail
      refine wp_region_lit ?_
      refine listp_loadM rfl _ rfl (HM14.out.mb.jk HJc.out) rfl ?_
      simp only [Act.put, List.setIfInBounds_toArray, List.set_cons_succ, List.set_cons_zero]
      refine listp_loadQ rfl _ rfl (HU14.out.jk HJc.out) rfl ?_
      simp only [Act.put, List.setIfInBounds_toArray, List.set_cons_succ, List.set_cons_zero]
      refine listp_loadP rfl _ rfl (HP14.out.jk HJc.out) rfl ?_
      simp only [Act.put, List.setIfInBounds_toArray, List.set_cons_succ, List.set_cons_zero]
      refine wpList_plain rfl fun K hK => ?_
      go_simp
      refine hK _ _ ?_
      clear hK K
      refine wpList_plain rfl fun K hK => ?_
      go_simp
      go_at_call 9
      refine (HUp.out.on _ HJc.out).mono ?_
      rintro e z0 ⟨rfl, hj⟩
      have HJn := hid (HJc.out.trans hj)
      clear hj HJc
      have HJc := HJn
      clear HJn
      go_simp
      refine hK _ _ ?_
      clear hK K
      refine wpList_plain rfl fun K hK => ?_
      go_simp
      refine hK _ _ ?_
      clear hK K
      refine wpList_skip rfl ?_
      simp only [Act.put, List.setIfInBounds_toArray, List.set_cons_succ, List.set_cons_zero]
      refine wpList_skip rfl ?_
      simp only [Act.put, List.setIfInBounds_toArray, List.set_cons_succ, List.set_cons_zero]
      refine wpList_skip rfl ?_
      simp only [Act.put, List.setIfInBounds_toArray, List.set_cons_succ, List.set_cons_zero]
      refine wpList_skip rfl ?_
      simp only [Act.put, List.setIfInBounds_toArray, List.set_cons_succ, List.set_cons_zero]
      refine wpList_skip rfl ?_
      simp only [Act.put, List.setIfInBounds_toArray, List.set_cons_succ, List.set_cons_zero]
      refine wpList_plain rfl fun K hK => ?_
      go_simp
      refine hK _ _ ?_
      clear hK K
      refine wpList_plain rfl fun K hK => ?_
      go_simp
      refine hK _ _ ?_
      clear hK K
      refine wpList_nil ?_
      go_upto_region 28 with fail
      refine wp_region_lit ?_
      refine wpList_plain rfl fun K hK => ?_
      obtain ⟨pl, p0a, p1a, p2a, p3a⟩ := (HPc.out _ HJc.out).in
      go_simp
      clear pl p0a p1a p2a p3a
      refine hK _ _ ?_
      clear hK K
      refine wpList_plain rfl fun K hK => ?_
      obtain ⟨pl, p0a, p1a, p2a, p3a⟩ := (HPc.out _ HJc.out).in
      go_simp
      clear pl p0a p1a p2a p3a
      refine hK _ _ ?_
      clear hK K
      refine wpList_plain rfl fun K hK => ?_
      obtain ⟨pl, p0a, p1a, p2a, p3a⟩ := (HPc.out _ HJc.out).in
      go_simp
      clear pl p0a p1a p2a p3a
      refine hK _ _ ?_
      clear hK K
      refine wpList_plain rfl fun K hK => ?_
      obtain ⟨pl, p0a, p1a, p2a, p3a⟩ := (HPc.out _ HJc.out).in
      go_simp
      clear pl p0a p1a p2a p3a
      refine hK _ _ ?_
      clear hK K
      refine wpList_plain rfl fun K hK => ?_
      go_simp
      refine hK _ _ ?_
      clear hK K
      refine wpList_plain rfl fun K hK => ?_
      go_simp
      refine hK _ _ ?_
      clear hK K
      refine wpList_one rfl fun K hK => ?_
      go_simp
      refine hK _ _ ?_
      clear hK K
      refine wpList_one rfl fun K hK => ?_
      go_simp
      refine hK _ _ ?_
      clear hK K
      refine wpList_one rfl fun K hK => ?_
      go_simp
      refine hK _ _ ?_
      clear hK K
      refine wpList_plain rfl fun K hK => ?_
      go_simp
      refine hK _ _ ?_
      clear hK K
      refine wpList_plain rfl fun K hK => ?_
      go_simp
      refine hK _ _ ?_
      clear hK K
      refine wpList_plain rfl fun K hK => ?_
      go_simp
      refine hK _ _ ?_
      clear hK K
      refine listw_loadM rfl _ rfl (HM14.out.mb.jk HJc.out) rfl ?_
      simp only [Act.put, List.setIfInBounds_toArray, List.set_cons_succ, List.set_cons_zero]
      refine listw_loadQ rfl _ rfl (HU14.out.jk HJc.out) rfl ?_
      simp only [Act.put, List.setIfInBounds_toArray, List.set_cons_succ, List.set_cons_zero]
      refine listw_loadP rfl _ rfl (HP14.out.jk HJc.out) rfl ?_
      simp only [Act.put, List.setIfInBounds_toArray, List.set_cons_succ, List.set_cons_zero]
      refine wpList_one rfl fun K hK => ?_
      go_simp
      refine hK _ _ ?_
      clear hK K
      refine wpList_one rfl fun K hK => ?_
      go_simp
      go_at_call 9
      refine (HUp.out.on _ HJc.out).mono ?_
      rintro e z0 ⟨rfl, hj⟩
      have HJn := hid (HJc.out.trans hj)
      clear hj HJc
      have HJc := HJn
      clear HJn
      go_simp
      refine hK _ _ ?_
      clear hK K
      refine wpList_one rfl fun K hK => ?_
      go_simp
      refine hK _ _ ?_
      clear hK K
      refine listw_loadM rfl _ rfl (HM14.out.mb.jk HJc.out) rfl ?_
      simp only [Act.put, List.setIfInBounds_toArray, List.set_cons_succ, List.set_cons_zero]
      refine listw_loadQ rfl _ rfl (HD14.out.jk HJc.out) rfl ?_
      simp only [Act.put, List.setIfInBounds_toArray, List.set_cons_succ, List.set_cons_zero]
      refine listw_loadP rfl _ rfl (HP14.out.jk HJc.out) rfl ?_
      simp only [Act.put, List.setIfInBounds_toArray, List.set_cons_succ, List.set_cons_zero]
      refine wpList_one rfl fun K hK => ?_
      go_simp
      refine hK _ _ ?_
      clear hK K
      refine wpList_one rfl fun K hK => ?_
      go_simp
      go_at_call 9
      refine (HDn.out.on _ HJc.out).mono ?_
      rintro e z1 ⟨rfl, hj⟩
      have HJn := hid (HJc.out.trans hj)
      clear hj HJc
      have HJc := HJn
      clear HJn
      go_simp
      refine hK _ _ ?_
      clear hK K
      refine wpList_one rfl fun K hK => ?_
      go_simp
      refine hK _ _ ?_
      clear hK K
      refine wpList_one rfl fun K hK => ?_
      go_simp
      refine hK _ _ ?_
      clear hK K
      refine wpList_plain rfl fun K hK => ?_
      go_simp
      refine hK _ _ ?_
      clear hK K
      refine wpList_plain rfl fun K hK => ?_
      go_simp
      refine hK _ _ ?_
      clear hK K
      refine wpList_one rfl fun K hK => ?_
      go_simp
      go_at_call 12
      refine (HRn.out.on _).mono ?_
      rintro e z2 ⟨rfl, hj⟩
      have HJn := hid (HJc.out.trans hj)
      clear hj HJc
      have HJc := HJn
      clear HJn
      go_simp
      refine hK _ _ ?_
      clear hK K
      refine wpList_plain rfl fun K hK => ?_
      go_simp
      refine hK _ _ ?_
      clear hK K
      refine wpList_plain rfl fun K hK => ?_
      go_simp
      refine hK _ _ ?_
      clear hK K
      refine wpList_nil ?_
      go_wp2
      go_ret
      exact ⟨rfl, HJw14.out.trans HJc.out⟩
    · obtain rfl : false = bu := (Bool.eq_false_iff.2 fun e => by have := (HBu.out.1 e).2; omega).symm
      obtain rfl : false = bd := (Bool.eq_false_iff.2 fun e => by have := (HBd.out.1 e).2; omega).symm
      subst heq
      as_aux_lemma =>
      go_upto_region 27 with fail
      refine wp_region_lit ?_
      refine listp_loadM rfl _ rfl (HM14.out.mb.jk HJc.out) rfl ?_
      simp only [Act.put, List.setIfInBounds_toArray, List.set_cons_succ, List.set_cons_zero]
      refine listp_loadQ rfl _ rfl (HU14.out.jk HJc.out) rfl ?_
      simp only [Act.put, List.setIfInBounds_toArray, List.set_cons_succ, List.set_cons_zero]
      refine listp_loadP rfl _ rfl (HP14.out.jk HJc.out) rfl ?_
      simp only [Act.put, List.setIfInBounds_toArray, List.set_cons_succ, List.set_cons_zero]
      refine wpList_plain rfl fun K hK => ?_
      go_simp
      refine hK _ _ ?_
      clear hK K
      refine wpList_plain rfl fun K hK => ?_
      go_simp
      go_at_call 9
      refine (HUp.out.on _ HJc.out).mono ?_
      rintro e z0 ⟨rfl, hj⟩
      have HJn := hid (HJc.out.trans hj)
      clear hj HJc
      have HJc := HJn
      clear HJn
      go_simp
      refine hK _ _ ?_
      clear hK K
      refine wpList_plain rfl fun K hK => ?_
      go_simp
      refine hK _ _ ?_
      clear hK K
      refine listw_loadM rfl _ rfl (HM14.out.mb.jk HJc.out) rfl ?_
      simp only [Act.put, List.setIfInBounds_toArray, List.set_cons_succ, List.set_cons_zero]
      refine listw_loadQ rfl _ rfl (HD14.out.jk HJc.out) rfl ?_
      simp only [Act.put, List.setIfInBounds_toArray, List.set_cons_succ, List.set_cons_zero]
      refine listw_loadP rfl _ rfl (HP14.out.jk HJc.out) rfl ?_
      simp only [Act.put, List.setIfInBounds_toArray, List.set_cons_succ, List.set_cons_zero]
      refine wpList_one rfl fun K hK => ?_
      go_simp
      refine hK _ _ ?_
      clear hK K
      refine wpList_one rfl fun K hK => ?_
      go_simp
      go_at_call 9
      refine (HDn.out.on _ HJc.out).mono ?_
      rintro e z1 ⟨rfl, hj⟩
      have HJn := hid (HJc.out.trans hj)
      clear hj HJc
      have HJc := HJn
      clear HJn
      go_simp
      refine hK _ _ ?_
      clear hK K
      refine wpList_plain rfl fun K hK => ?_
      go_simp
      refine hK _ _ ?_
      clear hK K
      refine wpList_plain rfl fun K hK => ?_
      go_simp
      refine hK _ _ ?_
      clear hK K
      refine wpList_nil ?_
      go_upto_region 28 with fail
      refine wp_region_lit ?_
      refine wpList_plain rfl fun K hK => ?_
      obtain ⟨pl, p0a, p1a, p2a, p3a⟩ := (HPc.out _ HJc.out).in
      go_simp
      clear pl p0a p1a p2a p3a
      refine hK _ _ ?_
      clear hK K
      refine wpList_plain rfl fun K hK => ?_
      obtain ⟨pl, p0a, p1a, p2a, p3a⟩ := (HPc.out _ HJc.out).in
      go_simp
      clear pl p0a p1a p2a p3a
      refine hK _ _ ?_
      clear hK K
      refine wpList_plain rfl fun K hK => ?_
      obtain ⟨pl, p0a, p1a, p2a, p3a⟩ := (HPc.out _ HJc.out).in
      go_simp
      clear pl p0a p1a p2a p3a
      refine hK _ _ ?_
      clear hK K
      refine wpList_plain rfl fun K hK => ?_
      obtain ⟨pl, p0a, p1a, p2a, p3a⟩ := (HPc.out _ HJc.out).in
      go_simp
      clear pl p0a p1a p2a p3a
      refine hK _ _ ?_
      clear hK K
      refine wpList_plain rfl fun K hK => ?_
      go_simp
      refine hK _ _ ?_
      clear hK K
      refine wpList_plain rfl fun K hK => ?_
      go_simp
      refine hK _ _ ?_
      clear hK K
      refine wpList_one rfl fun K hK => ?_
      go_simp
      refine hK _ _ ?_
      clear hK K
      refine wpList_one rfl fun K hK => ?_
      go_simp
      refine hK _ _ ?_
      clear hK K
      refine wpList_one rfl fun K hK => ?_
      go_simp
      refine hK _ _ ?_
      clear hK K
      refine wpList_plain rfl fun K hK => ?_
      go_simp
      refine hK _ _ ?_
      clear hK K
      refine wpList_plain rfl fun K hK => ?_
      go_simp
      refine hK _ _ ?_
      clear hK K
      refine wpList_plain rfl fun K hK => ?_
      go_simp
      refine hK _ _ ?_
      clear hK K
      refine listw_loadM rfl _ rfl (HM14.out.mb.jk HJc.out) rfl ?_
      simp only [Act.put, List.setIfInBounds_toArray, List.set_cons_succ, List.set_cons_zero]
      refine listw_loadQ rfl _ rfl (HU14.out.jk HJc.out) rfl ?_
      simp only [Act.put, List.setIfInBounds_toArray, List.set_cons_succ, List.set_cons_zero]
      refine listw_loadP rfl _ rfl (HP14.out.jk HJc.out) rfl ?_
      simp only [Act.put, List.setIfInBounds_toArray, List.set_cons_succ, List.set_cons_zero]
      refine wpList_one rfl fun K hK => ?_
      go_simp
      refine hK _ _ ?_
      clear hK K
      refine wpList_one rfl fun K hK => ?_
      go_simp
      go_at_call 9
      refine (HUp.out.on _ HJc.out).mono ?_
      rintro e z0 ⟨rfl, hj⟩
      have HJn := hid (HJc.out.trans hj)
      clear hj HJc
      have HJc := HJn
      clear HJn
      go_simp
      refine hK _ _ ?_
      clear hK K
      refine wpList_one rfl fun K hK => ?_
      go_simp
      refine hK _ _ ?_
      clear hK K
      refine wpList_skip rfl ?_
      simp only [Act.put, List.setIfInBounds_toArray, List.set_cons_succ, List.set_cons_zero]
      refine wpList_skip rfl ?_
      simp only [Act.put, List.setIfInBounds_toArray, List.set_cons_succ, List.set_cons_zero]
      refine wpList_skip rfl ?_
      simp only [Act.put, List.setIfInBounds_toArray, List.set_cons_succ, List.set_cons_zero]
      refine wpList_skip rfl ?_
      simp only [Act.put, List.setIfInBounds_toArray, List.set_cons_succ, List.set_cons_zero]
      refine wpList_skip rfl ?_
      simp only [Act.put, List.setIfInBounds_toArray, List.set_cons_succ, List.set_cons_zero]
      refine wpList_one rfl fun K hK => ?_
      go_simp
      refine hK _ _ ?_
      clear hK K
      refine wpList_one rfl fun K hK => ?_
      go_simp
      refine hK _ _ ?_
      clear hK K
      refine wpList_plain rfl fun K hK => ?_
      go_simp
      refine hK _ _ ?_
      clear hK K
      refine wpList_plain rfl fun K hK => ?_
      go_simp
      refine hK _ _ ?_
      clear hK K
      refine wpList_one rfl fun K hK => ?_
      go_simp
      go_at_call 12
      refine (HRn.out.on _).mono ?_
      rintro e z1 ⟨rfl, hj⟩
      have HJn := hid (HJc.out.trans hj)
      clear hj HJc
      have HJc := HJn
      clear HJn
      go_simp
      refine hK _ _ ?_
      clear hK K
      refine wpList_plain rfl fun K hK => ?_
      go_simp
      refine hK _ _ ?_
      clear hK K
      refine wpList_plain rfl fun K hK => ?_
      go_simp
      refine hK _ _ ?_
      clear hK K
      refine wpList_nil ?_
      go_wp2
      go_ret
      exact ⟨rfl, HJw14.out.trans HJc.out⟩
    · obtain rfl : false = bu := (Bool.eq_false_iff.2 fun e => by have := (HBu.out.1 e).2; omega).symm
      obtain rfl : true = bd := (HBd.out.2 ⟨hpt, hgt⟩).symm
      have hne : (Ev != Yv) = true := by simp; omega
      as_aux_lemma =>
      go_upto_region 27 with fail
      refine wp_region_lit ?_
      refine listp_loadM rfl _ rfl (HM14.out.mb.jk HJc.out) rfl ?_
      simp only [Act.put, List.setIfInBounds_toArray, List.set_cons_succ, List.set_cons_zero]
      refine listp_loadQ rfl _ rfl (HU14.out.jk HJc.out) rfl ?_
      simp only [Act.put, List.setIfInBounds_toArray, List.set_cons_succ, List.set_cons_zero]
      refine listp_loadP rfl _ rfl (HP14.out.jk HJc.out) rfl ?_
      simp only [Act.put, List.setIfInBounds_toArray, List.set_cons_succ, List.set_cons_zero]
      refine wpList_plain rfl fun K hK => ?_
      go_simp
      refine hK _ _ ?_
      clear hK K
      refine wpList_plain rfl fun K hK => ?_
      go_simp
      go_at_call 9
      refine (HUp.out.on _ HJc.out).mono ?_
      rintro e z0 ⟨rfl, hj⟩
      have HJn := hid (HJc.out.trans hj)
      clear hj HJc
      have HJc := HJn
      clear HJn
      go_simp
      refine hK _ _ ?_
      clear hK K
      refine wpList_plain rfl fun K hK => ?_
      go_simp
      refine hK _ _ ?_
      clear hK K
      refine listw_loadM rfl _ rfl (HM14.out.mb.jk HJc.out) rfl ?_
      simp only [Act.put, List.setIfInBounds_toArray, List.set_cons_succ, List.set_cons_zero]
      refine listw_loadQ rfl _ rfl (HD14.out.jk HJc.out) rfl ?_
      simp only [Act.put, List.setIfInBounds_toArray, List.set_cons_succ, List.set_cons_zero]
      refine listw_loadP rfl _ rfl (HP14.out.jk HJc.out) rfl ?_
      simp only [Act.put, List.setIfInBounds_toArray, List.set_cons_succ, List.set_cons_zero]
      refine wpList_one rfl fun K hK => ?_
      go_simp
      refine hK _ _ ?_
      clear hK K
      refine wpList_one rfl fun K hK => ?_
      go_simp
      go_at_call 9
      refine (HDn.out.on _ HJc.out).mono ?_
      rintro e z1 ⟨rfl, hj⟩
      have HJn := hid (HJc.out.trans hj)
      clear hj HJc
      have HJc := HJn
      clear HJn
      go_simp
      refine hK _ _ ?_
      clear hK K
      refine wpList_plain rfl fun K hK => ?_
      go_simp
      refine hK _ _ ?_
      clear hK K
      refine wpList_plain rfl fun K hK => ?_
      go_simp
      refine hK _ _ ?_
      clear hK K
      refine wpList_nil ?_
      go_upto_region 28 with fail
      refine wp_region_lit ?_
      refine wpList_plain rfl fun K hK => ?_
      obtain ⟨pl, p0a, p1a, p2a, p3a⟩ := (HPc.out _ HJc.out).in
      go_simp
      clear pl p0a p1a p2a p3a
      refine hK _ _ ?_
      clear hK K
      refine wpList_plain rfl fun K hK => ?_
      obtain ⟨pl, p0a, p1a, p2a, p3a⟩ := (HPc.out _ HJc.out).in
      go_simp
      clear pl p0a p1a p2a p3a
      refine hK _ _ ?_
      clear hK K
      refine wpList_plain rfl fun K hK => ?_
      obtain ⟨pl, p0a, p1a, p2a, p3a⟩ := (HPc.out _ HJc.out).in
      go_simp
      clear pl p0a p1a p2a p3a
      refine hK _ _ ?_
      clear hK K
      refine wpList_plain rfl fun K hK => ?_
      obtain ⟨pl, p0a, p1a, p2a, p3a⟩ := (HPc.out _ HJc.out).in
      go_simp
      clear pl p0a p1a p2a p3a
      refine hK _ _ ?_
      clear hK K
      refine wpList_plain rfl fun K hK => ?_
      go_simp
      refine hK _ _ ?_
      clear hK K
      refine wpList_plain rfl fun K hK => ?_
      go_simp
      refine hK _ _ ?_
      clear hK K
      refine wpList_one rfl fun K hK => ?_
      go_simp
      refine hK _ _ ?_
      clear hK K
      refine wpList_one rfl fun K hK => ?_
      go_simp
      refine hK _ _ ?_
      clear hK K
      refine wpList_one rfl fun K hK => ?_
      go_simp
      refine hK _ _ ?_
      clear hK K
      refine wpList_plain rfl fun K hK => ?_
      go_simp
      refine hK _ _ ?_
      clear hK K
      refine wpList_plain rfl fun K hK => ?_
      go_simp
      refine hK _ _ ?_
      clear hK K
      refine wpList_plain rfl fun K hK => ?_
      go_simp
      refine hK _ _ ?_
      clear hK K
      refine listw_loadM rfl _ rfl (HM14.out.mb.jk HJc.out) rfl ?_
      simp only [Act.put, List.setIfInBounds_toArray, List.set_cons_succ, List.set_cons_zero]
      refine listw_loadQ rfl _ rfl (HU14.out.jk HJc.out) rfl ?_
      simp only [Act.put, List.setIfInBounds_toArray, List.set_cons_succ, List.set_cons_zero]
      refine listw_loadP rfl _ rfl (HP14.out.jk HJc.out) rfl ?_
      simp only [Act.put, List.setIfInBounds_toArray, List.set_cons_succ, List.set_cons_zero]
      refine wpList_one rfl fun K hK => ?_
      go_simp
      refine hK _ _ ?_
      clear hK K
      refine wpList_one rfl fun K hK => ?_
      go_simp
      go_at_call 9
      refine (HUp.out.on _ HJc.out).mono ?_
      rintro e z0 ⟨rfl, hj⟩
      have HJn := hid (HJc.out.trans hj)
      clear hj HJc
      have HJc := HJn
      clear HJn
      go_simp
      refine hK _ _ ?_
      clear hK K
      refine wpList_one rfl fun K hK => ?_
      go_simp
      refine hK _ _ ?_
      clear hK K
      refine wpList_skip rfl ?_
      simp only [Act.put, List.setIfInBounds_toArray, List.set_cons_succ, List.set_cons_zero]
      refine wpList_skip rfl ?_
      simp only [Act.put, List.setIfInBounds_toArray, List.set_cons_succ, List.set_cons_zero]
      refine wpList_skip rfl ?_
      simp only [Act.put, List.setIfInBounds_toArray, List.set_cons_succ, List.set_cons_zero]
      refine wpList_skip rfl ?_
      simp only [Act.put, List.setIfInBounds_toArray, List.set_cons_succ, List.set_cons_zero]
      refine wpList_skip rfl ?_
      simp only [Act.put, List.setIfInBounds_toArray, List.set_cons_succ, List.set_cons_zero]
      refine wpList_one rfl fun K hK => ?_
      go_simp
      refine hK _ _ ?_
      clear hK K
      refine wpList_one rfl fun K hK => ?_
      go_simp
      refine hK _ _ ?_
      clear hK K
      refine wpList_plain rfl fun K hK => ?_
      go_simp
      refine hK _ _ ?_
      clear hK K
      refine wpList_plain rfl fun K hK => ?_
      go_simp
      refine hK _ _ ?_
      clear hK K
      refine wpList_one rfl fun K hK => ?_
      go_simp
      go_at_call 12
      refine (HRn.out.on _).mono ?_
      rintro e z1 ⟨rfl, hj⟩
      have HJn := hid (HJc.out.trans hj)
      clear hj HJc
      have HJc := HJn
      clear HJn
      go_simp
      refine hK _ _ ?_
      clear hK K
      refine wpList_plain rfl fun K hK => ?_
      go_simp
      refine hK _ _ ?_
      clear hK K
      refine wpList_plain rfl fun K hK => ?_
      go_simp
      refine hK _ _ ?_
      clear hK K
      refine wpList_nil ?_
      go_wp2
      go_ret
      exact ⟨rfl, HJw14.out.trans HJc.out⟩
  · obtain rfl : false = bu := (Bool.eq_false_iff.2 fun e => hpt (HBu.out.1 e).1).symm
    obtain rfl : false = bd := (Bool.eq_false_iff.2 fun e => hpt (HBd.out.1 e).1).symm
    as_aux_lemma =>
    go_upto_region 27 with fail
    refine wp_region_lit ?_
    refine listp_loadM rfl _ rfl (HM14.out.mb.jk HJc.out) rfl ?_
    simp only [Act.put, List.setIfInBounds_toArray, List.set_cons_succ, List.set_cons_zero]
    refine listp_loadQ rfl _ rfl (HU14.out.jk HJc.out) rfl ?_
    simp only [Act.put, List.setIfInBounds_toArray, List.set_cons_succ, List.set_cons_zero]
    refine listp_loadP rfl _ rfl (HP14.out.jk HJc.out) rfl ?_
    simp only [Act.put, List.setIfInBounds_toArray, List.set_cons_succ, List.set_cons_zero]
    refine wpList_plain rfl fun K hK => ?_
    go_simp
    refine hK _ _ ?_
    clear hK K
    refine wpList_plain rfl fun K hK => ?_
    go_simp
    go_at_call 9
    refine (HUp.out.on _ HJc.out).mono ?_
    rintro e z0 ⟨rfl, hj⟩
    have HJn := hid (HJc.out.trans hj)
    clear hj HJc
    have HJc := HJn
    clear HJn
    go_simp
    refine hK _ _ ?_
    clear hK K
    refine wpList_plain rfl fun K hK => ?_
    go_simp
    refine hK _ _ ?_
    clear hK K
    refine listw_loadM rfl _ rfl (HM14.out.mb.jk HJc.out) rfl ?_
    simp only [Act.put, List.setIfInBounds_toArray, List.set_cons_succ, List.set_cons_zero]
    refine listw_loadQ rfl _ rfl (HD14.out.jk HJc.out) rfl ?_
    simp only [Act.put, List.setIfInBounds_toArray, List.set_cons_succ, List.set_cons_zero]
    refine listw_loadP rfl _ rfl (HP14.out.jk HJc.out) rfl ?_
    simp only [Act.put, List.setIfInBounds_toArray, List.set_cons_succ, List.set_cons_zero]
    refine wpList_one rfl fun K hK => ?_
    go_simp
    refine hK _ _ ?_
    clear hK K
    refine wpList_one rfl fun K hK => ?_
    go_simp
    go_at_call 9
    refine (HDn.out.on _ HJc.out).mono ?_
    rintro e z1 ⟨rfl, hj⟩
    have HJn := hid (HJc.out.trans hj)
    clear hj HJc
    have HJc := HJn
    clear HJn
    go_simp
    refine hK _ _ ?_
    clear hK K
    refine wpList_plain rfl fun K hK => ?_
    go_simp
    refine hK _ _ ?_
    clear hK K
    refine wpList_plain rfl fun K hK => ?_
    go_simp
    refine hK _ _ ?_
    clear hK K
    refine wpList_nil ?_
    go_upto_region 28 with fail
    refine wp_region_lit ?_
    refine wpList_plain rfl fun K hK => ?_
    obtain ⟨pl, p0a, p1a, p2a, p3a⟩ := (HPc.out _ HJc.out).in
    go_simp
    clear pl p0a p1a p2a p3a
    refine hK _ _ ?_
    clear hK K
    refine wpList_plain rfl fun K hK => ?_
    obtain ⟨pl, p0a, p1a, p2a, p3a⟩ := (HPc.out _ HJc.out).in
    go_simp
    clear pl p0a p1a p2a p3a
    refine hK _ _ ?_
    clear hK K
    refine wpList_plain rfl fun K hK => ?_
    obtain ⟨pl, p0a, p1a, p2a, p3a⟩ := (HPc.out _ HJc.out).in
    go_simp
    clear pl p0a p1a p2a p3a
    refine hK _ _ ?_
    clear hK K
    refine wpList_plain rfl fun K hK => ?_
    obtain ⟨pl, p0a, p1a, p2a, p3a⟩ := (HPc.out _ HJc.out).in
    go_simp
    clear pl p0a p1a p2a p3a
    refine hK _ _ ?_
    clear hK K
    refine wpList_plain rfl fun K hK => ?_
    go_simp
    refine hK _ _ ?_
    clear hK K
    refine wpList_plain rfl fun K hK => ?_
    go_simp
    refine hK _ _ ?_
    clear hK K
    refine wpList_skip rfl ?_
    simp only [Act.put, List.setIfInBounds_toArray, List.set_cons_succ, List.set_cons_zero]
    refine wpList_skip rfl ?_
    simp only [Act.put, List.setIfInBounds_toArray, List.set_cons_succ, List.set_cons_zero]
    refine wpList_skip rfl ?_
    simp only [Act.put, List.setIfInBounds_toArray, List.set_cons_succ, List.set_cons_zero]
    refine wpList_plain rfl fun K hK => ?_
    go_simp
    refine hK _ _ ?_
    clear hK K
    refine wpList_plain rfl fun K hK => ?_
    go_simp
    refine hK _ _ ?_
    clear hK K
    refine wpList_plain rfl fun K hK => ?_
    go_simp
    refine hK _ _ ?_
    clear hK K
    refine listw_loadM rfl _ rfl (HM14.out.mb.jk HJc.out) rfl ?_
    simp only [Act.put, List.setIfInBounds_toArray, List.set_cons_succ, List.set_cons_zero]
    refine listw_loadQ rfl _ rfl (HU14.out.jk HJc.out) rfl ?_
    simp only [Act.put, List.setIfInBounds_toArray, List.set_cons_succ, List.set_cons_zero]
    refine listw_loadP rfl _ rfl (HP14.out.jk HJc.out) rfl ?_
    simp only [Act.put, List.setIfInBounds_toArray, List.set_cons_succ, List.set_cons_zero]
    refine wpList_one rfl fun K hK => ?_
    go_simp
    refine hK _ _ ?_
    clear hK K
    refine wpList_one rfl fun K hK => ?_
    go_simp
    go_at_call 9
    refine (HUp.out.on _ HJc.out).mono ?_
    rintro e z0 ⟨rfl, hj⟩
    have HJn := hid (HJc.out.trans hj)
    clear hj HJc
    have HJc := HJn
    clear HJn
    go_simp
    refine hK _ _ ?_
    clear hK K
    refine wpList_one rfl fun K hK => ?_
    go_simp
    refine hK _ _ ?_
    clear hK K
    refine wpList_skip rfl ?_
    simp only [Act.put, List.setIfInBounds_toArray, List.set_cons_succ, List.set_cons_zero]
    refine wpList_skip rfl ?_
    simp only [Act.put, List.setIfInBounds_toArray, List.set_cons_succ, List.set_cons_zero]
    refine wpList_skip rfl ?_
    simp only [Act.put, List.setIfInBounds_toArray, List.set_cons_succ, List.set_cons_zero]
    refine wpList_skip rfl ?_
    simp only [Act.put, List.setIfInBounds_toArray, List.set_cons_succ, List.set_cons_zero]
    refine wpList_skip rfl ?_
    simp only [Act.put, List.setIfInBounds_toArray, List.set_cons_succ, List.set_cons_zero]
    refine wpList_one rfl fun K hK => ?_
    go_simp
    refine hK _ _ ?_
    clear hK K
    refine wpList_one rfl fun K hK => ?_
    go_simp
    refine hK _ _ ?_
    clear hK K
    refine wpList_plain rfl fun K hK => ?_
    go_simp
    refine hK _ _ ?_
    clear hK K
    refine wpList_plain rfl fun K hK => ?_
    go_simp
    refine hK _ _ ?_
    clear hK K
    refine wpList_one rfl fun K hK => ?_
    go_simp
    go_at_call 12
    refine (HRn.out.on _).mono ?_
    rintro e z1 ⟨rfl, hj⟩
    have HJn := hid (HJc.out.trans hj)
    clear hj HJc
    have HJc := HJn
    clear HJn
    go_simp
    refine hK _ _ ?_
    clear hK K
    refine wpList_plain rfl fun K hK => ?_
    go_simp
    refine hK _ _ ?_
    clear hK K
    refine wpList_plain rfl fun K hK => ?_
    go_simp
    refine hK _ _ ?_
    clear hK K
    refine wpList_nil ?_
    go_wp2
    go_ret
    exact ⟨rfl, HJw14.out.trans HJc.out⟩

end Go.Proofs.Ytndnijdpafcmoaa
