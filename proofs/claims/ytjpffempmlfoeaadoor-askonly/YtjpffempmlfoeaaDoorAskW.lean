/- What read of package ask answers of any text. Conditions: what package ask asks of the functions beyond it ('LibA'). -/
import Derived.Test.YtjpffempmlfoeaaDoorAskR
import Derived.Test.YtjpffempmlfoeaaDoorAskY
namespace Go.Proofs.YtjpffempmlfoeaaDoor
open Go.RowKit M

theorem results_cell2 {fn : Func} {a b : Tmp} {t : TypeId} (h : fn.results = #[.cell a t, .tmp b]) {tmps : Array Value} {p : Addr} (hp : tmps.getD a undef = .pointer (some p)) {u : Value} (hu : tmps.getD b undef = u) {P : Program} {w : World} {v : Value} (hl : (loadVar t p).run P w = .ok v w) : (results fn tmps).run P w = .ok (.tuple #[v, u]) w := by
  have hp' : tmps[a]?.getD undef = .pointer (some p) := by simpa using hp
  have hu' : tmps[b]?.getD undef = u := by simpa using hu
  simp [results, h, hp', hu', asAddr, hl]
theorem results_cell3 {fn : Func} {a b c : Tmp} {t : TypeId} (h : fn.results = #[.cell a t, .tmp b, .tmp c]) {tmps : Array Value} {p : Addr} (hp : tmps.getD a undef = .pointer (some p)) {u x : Value} (hu : tmps.getD b undef = u) (hx : tmps.getD c undef = x) {P : Program} {w : World} {v : Value} (hl : (loadVar t p).run P w = .ok v w) : (results fn tmps).run P w = .ok (.tuple #[v, u, x]) w := by
  have hp' : tmps[a]?.getD undef = .pointer (some p) := by simpa using hp
  have hu' : tmps[b]?.getD undef = u := by simpa using hu
  have hx' : tmps[c]?.getD undef = x := by simpa using hx
  simp [results, h, hp', hu', hx', asAddr, hl]
/-- another span at a place of a region -/
theorem QyB.putS {z : World} {g : Nat} {q : Qy} (H : QyB z g q) {j : Nat} (hj : j < 4) (s : Sp) : QyB ((z.setCell ⟨g, 2 + j * 2, none⟩ (.int .i64 s.lo)).setCell ⟨g, 2 + j * 2 + 1, none⟩ (.int .i64 s.hi)) g { q with rg := q.rg.put (j : Int) s } := by
  match j, hj with
  | 0, _ => exact H.rgA s
  | 1, _ => exact H.rgB s
  | 2, _ => exact H.rgC s
  | 3, _ => exact H.rgD s
  | j + 4, h => omega
/-- read at work: the reader, the query that is made, the result's cell -/
structure ReS (wb w : World) (g : Nat) (l : Txt) (q : Qy) (z : World) : Prop where
  rd : RaJ wb (w.heap.size + 1) l z
  j : Jk w z
  qb : QyB z g q
  zb : QyB z w.heap.size Qy.nil
  hg : w.heap.size + 1 < g
theorem ReS.call {wb w : World} {g : Nat} {l l' : Txt} {q : Qy} {z z' : World} (H : ReS wb w g l q z) (hr : RaB z' (w.heap.size + 1) l') (hg : z.grownBy z' (some (w.heap.size + 1))) : ReS wb w g l' q z' :=
  ⟨H.rd.call hr hg, H.j.grown hg (fun k hk => by cases hk; omega), H.qb.by hg (by have := H.hg; omega), H.zb.by hg (by omega), H.hg⟩
theorem ReS.jk {wb w : World} {g : Nat} {l : Txt} {q : Qy} {z z' : World} (H : ReS wb w g l q z) (hj : Jk z z') : ReS wb w g l q z' := ⟨H.rd.grow hj, H.j.trans hj, H.qb.jk hj, H.zb.jk hj, H.hg⟩
theorem ReS.set {wb w : World} {g : Nat} {l : Txt} {q q' : Qy} {z z' : World} (H : ReS wb w g l q z) (hq : QyB z' g q') (hg : z.grownBy z' (some g)) (hw : wb.heap.size ≤ w.heap.size) : ReS wb w g l q' z' :=
  ⟨⟨H.rd.j.grown hg (fun k hk => by cases hk; have := H.hg; omega), H.rd.base, (hg.block _ H.rd.rd.lt (by have := H.hg; simp; omega)).trans H.rd.rd⟩, H.j.grown hg (fun k hk => by cases hk; have := H.hg; omega), hq, H.zb.by hg (by have := H.hg; omega), H.hg⟩

set_option maxRecDepth 100000 in
set_option maxHeartbeats 6400000 in
theorem read_ans {wb : World} (hL : LibA wb) (l : Txt) (hl : l.length ≤ 2000000) : AnsW wb 13 #[tx l] (.tuple #[queryV (readQ l).1, .int .i64 ((readQ l).2 : Int)]) := fun w hw => by
  have J := rules8
  obtain ⟨w0, hw0⟩ : ∃ w0, (w.alloc (.cells #[.int .i64 0, .int .i64 0, .int .i64 0, .int .i64 0, .int .i64 0, .int .i64 0, .int .i64 0, .int .i64 0, .int .i64 0, .int .i64 0, .int .i64 0, .int .i64 0, .int .i64 0, .int .i64 0, .int .i64 0, .bool false, .int .i64 0] 27)).alloc (.cells #[tx l] 68) = w0 := ⟨_, rfl⟩
  have hJ0 : Jk w w0 := hw0 ▸ ((Jk.refl w).alloc _).alloc _
  have HSz : Hid (w0.heap.size = w.heap.size + 1 + 1) := by show _ = _; rw [← hw0]; simp
  have HWs := hid hw.below.size
  have HR0 : Hid (RaJ wb (w.heap.size + 1) l w0) := by
    refine ⟨hw.trans hJ0, Nat.le_succ_of_le HWs.out, ?_⟩
    rw [← hw0]
    have := RaB.laid (w.alloc (.cells #[.int .i64 0, .int .i64 0, .int .i64 0, .int .i64 0, .int .i64 0, .int .i64 0, .int .i64 0, .int .i64 0, .int .i64 0, .int .i64 0, .int .i64 0, .int .i64 0, .int .i64 0, .int .i64 0, .int .i64 0, .bool false, .int .i64 0] 27)) l
    rwa [World.size_alloc] at this
  have HZ0 : Hid (QyB w0 w.heap.size Qy.nil) := by
    rw [← hw0]
    exact (QyB.laid w Qy.nil).jk ((Jk.refl _).alloc _)
  have HJ0 := hid hJ0
  -- what is read
  obtain ⟨q0, hq0⟩ : ∃ z, (kindA l).1 = z := ⟨_, rfl⟩
  obtain ⟨l1, hl1⟩ : ∃ z, (kindA l).2 = z := ⟨_, rfl⟩
  have b1 : l1.length ≤ 2000000 := by
    have : (kindA l).2.length ≤ l.length := kindA_len l
    rw [hl1] at this
    omega
  obtain ⟨l2, e2⟩ : ∃ z, aftB l1 = z := ⟨_, rfl⟩
  have b2 : l2.length ≤ 2000000 := by have := aftB_len l1; rw [e2] at this; omega
  obtain ⟨l3, e3⟩ : ∃ z, aftB l2 = z := ⟨_, rfl⟩
  have b3 : l3.length ≤ 2000000 := by have := aftB_len l2; rw [e3] at this; omega
  obtain ⟨wd, h3⟩ : ∃ z, befB l2 = z := ⟨_, rfl⟩
  have bw : wd.length ≤ 2000000 := by have := befB_len l2; rw [h3] at this; omega
  obtain ⟨⟨RG, D, RE⟩, hF⟩ : ∃ z, spansR' 4 0 Bx.nil wd l3 = z := ⟨_, rfl⟩
  have HK := hid (kind_r hL (w.heap.size + 1) l hl)
  have H1 := hid (pass_r hL (w.heap.size + 1) l1 b1 e2)
  have H2 := hid (word_r hL (w.heap.size + 1) l2 b2 h3 e3)
  rw [hq0, hl1] at HK
  have hRd : readQ l = (⟨q0.kd, q0.cl, RG, q0.lo, q0.hi, q0.f, q0.fa, smV (befB RE)⟩, D) := by
    unfold readQ
    simp only [hl1, e2, e3, h3, hF, hq0]
  rw [hRd]
  have hrg : q0.rg = Bx.nil ∧ q0.bu = 0 := by rw [← hq0]; exact kindA_rg l
  have HLen : Hid (RE.length ≤ 2000000) := by
    have := spansR_len 4 0 Bx.nil wd l3 b3
    rw [hF] at this
    exact this
  have HB : Hid (wd.length ≤ 2000000 ∧ l3.length ≤ 2000000) := ⟨bw, b3⟩
  have HLib := hid hL
  obtain ⟨kd, cl, rg, lo, hi, f, fa, bu⟩ := q0
  simp only at hrg ⊢
  obtain ⟨rfl, rfl⟩ := hrg
  obtain ⟨BU, hBU⟩ : ∃ z, smV (befB RE) = z := ⟨_, rfl⟩
  rw [hBU]
  have HBU := hid hBU
  have HF := hid hF
  clear hRd hF hBU h3 e2 e3 hl1 hq0 hL hl hJ0 hw b1 b2 b3 bw
  go_enter Tryd.func13, Tryd.ntmps13
  go_upto_region 2 with fail
  go_cut [5] (fun p wc => ∃ g, p = .pointer (some ⟨g, 0, none⟩) ∧ ReS wb w g l1 ⟨kd, cl, Bx.nil, lo, hi, f, fa, 0⟩ wc)
  case first =>
    go_wp2_with (go_at_call 23; refine (HK.out.on HR0.out).mono ?_; rintro e w1 ⟨rfl, hr, hg⟩; have HR1 := hid (HR0.out.call hr hg); have HG1 := hid hg; clear hr hg)
    go_meet
    case rel =>
      refine ⟨_, rfl, HR1.out.grow ((Jk.refl w1).alloc _), ((HJ0.out).grown HG1.out (fun k hk => by cases hk; omega)).alloc _, QyB.laid w1 ⟨kd, cl, Bx.nil, lo, hi, f, fa, 0⟩, (HZ0.out.by HG1.out (by omega)).jk ((Jk.refl w1).alloc _), by have := HG1.out.size; have := HSz.out; omega⟩
  case rest =>
    obtain ⟨g, rfl, hS⟩ := hcut
    obtain ⟨w1, rfl⟩ : ∃ z, z = wc := ⟨_, rfl⟩
    have HS1 := hid hS
    clear hS HR0 HZ0 HK HSz
    go_upto_region 4 with (go_at_call 24; refine (H1.out.on HS1.out.rd).mono ?_; rintro e w2 ⟨rfl, hr, hg⟩; have HS2 := hid (HS1.out.call hr hg); clear hr hg HS1)
    go_upto_region 6 with (go_at_call 25; refine (H2.out.on HS2.out.rd).mono ?_; rintro e w3 ⟨rfl, hr, hg⟩; have HS3 := hid (HS2.out.call hr hg); clear hr hg HS2)
    clear H1 H2
    go_loopg [6, 7] 4 (fun r dim word wr => ∃ (j : Nat) (wd' l' : Txt) (rg : Bx), dim = .int .i64 (j : Int) ∧ j + r = 4 ∧ word = tx wd' ∧ Hid (spansR' r j rg wd' l' = (RG, D, RE)) ∧ Hid (wd'.length ≤ 2000000 ∧ l'.length ≤ 2000000) ∧ Hid (ReS wb w g l' ⟨kd, cl, rg, lo, hi, f, fa, 0⟩ wr))
    case atStart => exact ⟨0, wd, l3, Bx.nil, rfl, by omega, rfl, HF, HB, HS3⟩
    case round =>
      obtain ⟨j, wd', l', rg, rfl, hj, rfl, HFj, HBj, HSj⟩ := hrel
      clear HF HB HS3
      by_cases hbu : wd' = [98, 117, 100, 103, 101, 116]
      · subst hbu
        have hE : rg = RG ∧ j = D ∧ l' = RE := by
          have := HFj.out
          rw [show ([98, 117, 100, 103, 101, 116] : Txt) = kBudget from rfl, spansR_end] at this
          simpa using this
        obtain ⟨rfl, rfl, rfl⟩ := hE
        obtain ⟨l9, e9⟩ : ∃ z, aftB l' = z := ⟨_, rfl⟩
        obtain ⟨w9, h9⟩ : ∃ z, befB l' = z := ⟨_, rfl⟩
        have bw : w9.length ≤ 2000000 := by have := befB_len l'; rw [h9] at this; have := HBj.out.2; omega
        have HWo := hid (word_r HLib.out (w.heap.size + 1) l' HBj.out.2 h9 e9)
        have HSm := hid (smallOf_ans HLib.out w9 bw)
        rw [← h9, HBU.out, h9] at HSm
        clear h9 e9 bw HFj
        go_upto_region 11 with (first | (go_at_call 25; refine (HWo.out.on HSj.out.rd).mono ?_; rintro e w5 ⟨rfl, hr, hg⟩; have HS5 := hid (HSj.out.call hr hg); clear hr hg HSj) | (go_at_call 27; refine (HSm.out _ HS5.out.rd.j).mono ?_; rintro e w6 ⟨rfl, hj6⟩; have HS6 := hid (HS5.out.jk hj6); clear hj6 HS5; obtain ⟨x0, x1, x2, x3, x4, x5, x6, x7, x8, x9, x10, x11, x12, x13, x14, x15, x16⟩ := HS6.out.qb.in; have xl := HS6.out.qb.lt; have xf := HS6.out.qb.frozen; clear x0 x1 x2 x3 x4 x5 x6 x7 x8 x9 x10 x11 x12 x13 x14 x15; simp only at x16))
        have HS7 := hid (HS6.out.set (HS6.out.qb.setBu BU) (grown_set w6 g 16 _) HWs.out)
        generalize w6.setCell ⟨g, 16, none⟩ (.int .i64 BU) = w7 at HS7 ⊢
        simp only at HS7
        clear HS6 x16 xl xf
        refine wp_region_lit ?_
        refine list_loadQ rfl _ rfl HS7.out.qb rfl ?_
        refine wpList_one rfl fun K hK => ?_
        go_simp
        refine hK _ _ ?_
        clear hK K
        refine list_storeQ rfl _ _ rfl HS7.out.zb rfl ⟨kd, cl, rg, lo, hi, f, fa, BU⟩ rfl fun w99 hq9 hg9 => ?_
        have HE := hid hq9
        have HJE := hid (HS7.out.j.grown hg9 (fun k hk => by cases hk; exact Nat.le_refl _))
        clear hq9 hg9
        go_wp2
        exact bodyPost_ret (results_cell2 Tryd.results13 rfl rfl (load_Q HE.out)) rfl ⟨rfl, HJE.out⟩
      · have hd1 := beq_false_of_ne hbu
        have hd2 : (wd' != [98, 117, 100, 103, 101, 116]) = true := by simp [hbu]
        by_cases hk : gk = 0
        · subst hk
          obtain rfl : j = 4 := by omega
          have hE : rg = RG ∧ 4 = D ∧ l' = RE := by
            have := HFj.out
            rw [spansR'] at this
            simpa using this
          obtain ⟨rfl, rfl, rfl⟩ := hE
          obtain ⟨l9, e9⟩ : ∃ z, aftB l' = z := ⟨_, rfl⟩
          obtain ⟨w9, h9⟩ : ∃ z, befB l' = z := ⟨_, rfl⟩
          have bw : w9.length ≤ 2000000 := by have := befB_len l'; rw [h9] at this; have := HBj.out.2; omega
          have HWo := hid (word_r HLib.out (w.heap.size + 1) l' HBj.out.2 h9 e9)
          have HSm := hid (smallOf_ans HLib.out w9 bw)
          rw [← h9, HBU.out, h9] at HSm
          clear h9 e9 bw HFj
          go_upto_region 11 with (first | (go_at_call 25; refine (HWo.out.on HSj.out.rd).mono ?_; rintro e w5 ⟨rfl, hr, hg⟩; have HS5 := hid (HSj.out.call hr hg); clear hr hg HSj) | (go_at_call 27; refine (HSm.out _ HS5.out.rd.j).mono ?_; rintro e w6 ⟨rfl, hj6⟩; have HS6 := hid (HS5.out.jk hj6); clear hj6 HS5; obtain ⟨x0, x1, x2, x3, x4, x5, x6, x7, x8, x9, x10, x11, x12, x13, x14, x15, x16⟩ := HS6.out.qb.in; have xl := HS6.out.qb.lt; have xf := HS6.out.qb.frozen; clear x0 x1 x2 x3 x4 x5 x6 x7 x8 x9 x10 x11 x12 x13 x14 x15; simp only at x16))
          have HS7 := hid (HS6.out.set (HS6.out.qb.setBu BU) (grown_set w6 g 16 _) HWs.out)
          generalize w6.setCell ⟨g, 16, none⟩ (.int .i64 BU) = w7 at HS7 ⊢
          simp only at HS7
          clear HS6 x16 xl xf
          refine wp_region_lit ?_
          refine list_loadQ rfl _ rfl HS7.out.qb rfl ?_
          refine wpList_one rfl fun K hK => ?_
          go_simp
          refine hK _ _ ?_
          clear hK K
          refine list_storeQ rfl _ _ rfl HS7.out.zb rfl ⟨kd, cl, rg, lo, hi, f, fa, BU⟩ rfl fun w99 hq9 hg9 => ?_
          have HE := hid hq9
          have HJE := hid (HS7.out.j.grown hg9 (fun k hk => by cases hk; exact Nat.le_refl _))
          clear hq9 hg9
          go_wp2
          exact bodyPost_ret (results_cell2 Tryd.results13 rfl rfl (load_Q HE.out)) rfl ⟨rfl, HJE.out⟩
        · obtain ⟨r, rfl⟩ : ∃ r, gk = r + 1 := ⟨gk - 1, by omega⟩
          have hlt : (j : Int) < 4 := by omega
          have HFn : Hid (spansR' r (j + 1) (rg.put (j : Int) (spanV' wd')) (befB l') (aftB l') = (RG, D, RE)) := by
            have := HFj.out
            rw [spansR', if_neg (show ¬ wd' = kBudget from hbu)] at this
            exact this
          have HSp := hid (spanOf_ans HLib.out wd' HBj.out.1)
          obtain ⟨l4, e4⟩ : ∃ z, aftB l' = z := ⟨_, rfl⟩
          have b4 : l4.length ≤ 2000000 := by have := aftB_len l'; rw [e4] at this; have := HBj.out.2; omega
          obtain ⟨w4, h4⟩ : ∃ z, befB l' = z := ⟨_, rfl⟩
          have bw : w4.length ≤ 2000000 := by have := befB_len l'; rw [h4] at this; have := HBj.out.2; omega
          have HWo := hid (word_r HLib.out (w.heap.size + 1) l' HBj.out.2 h4 e4)
          rw [h4, e4] at HFn
          obtain ⟨⟨sx, sy⟩, hs⟩ : ∃ z, spanV' wd' = z := ⟨_, rfl⟩
          rw [hs] at HFn HSp
          simp only [spV] at HSp
          have HBn : Hid (w4.length ≤ 2000000 ∧ l4.length ≤ 2000000) := ⟨bw, b4⟩
          clear hs h4 e4 bw b4 HFj
          go_upto_region 8 with (go_at_call 26; refine (HSp.out _ HSj.out.rd.j).mono ?_; rintro e w5 ⟨rfl, hj5⟩; have HS5 := hid (HSj.out.jk hj5); clear hj5; have hsp := HS5.out.qb.span (show j < 4 by omega); obtain ⟨c0, c1⟩ := hsp; have xl := HS5.out.qb.lt; have xf := HS5.out.qb.frozen)
          have HS6 := hid (HS5.out.set (HS5.out.qb.putS (show j < 4 by omega) ⟨sx, sy⟩) ((grown_set w5 g (2 + j * 2) _).trans (grown_set _ g (2 + j * 2 + 1) _)) HWs.out)
          generalize (w5.setCell ⟨g, 2 + j * 2, none⟩ (.int .i64 sx)).setCell ⟨g, 2 + j * 2 + 1, none⟩ (.int .i64 sy) = w6 at HS6 ⊢
          simp only at HS6
          clear HS5 c0 c1 xl xf
          go_wp2_with (go_at_call 25; refine (HWo.out.on HS6.out.rd).mono ?_; rintro e w7 ⟨rfl, hr, hg⟩; have HS7 := hid (HS6.out.call hr hg); clear hr hg HS6)
          go_roundg r
          case measure => omega
          case rel => exact ⟨j + 1, w4, l4, _, by go_num, by omega, rfl, HFn, HBn, HS7⟩
end Go.Proofs.YtjpffempmlfoeaaDoor
