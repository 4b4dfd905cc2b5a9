/- The law GridHolds of chapter 12 answers true: its walk through the Go text, by the contracts of package grid. -/
import Derived.Test.YtkkbeobocbgmeaaGridN
import Derived.Test.YtkkbeobocbgmeaaRowsL
import Derived.Test.YtkkbeobocbgmeaaLawGridRuns
namespace Go.Proofs.Ytkkbeobocbgmeaa
open Go.RowKit M

theorem quietw_loadM {ops : Array Oper} {rest : List Oper} {C : World → Prop} {Q : Act → Prop} {a : Act} {o : Oper} {h : Nat} {m : Md} (hC : ∀ z, C z → MdB z h m) (hw : Region.wanted o (yielded ops a.tmps) = true) (x : Operand) (ho : o.op = .load 25 x) (hx : a.eval x = .pointer (some ⟨h, 0, none⟩))
    (hh : ∀ K : Act → Prop, (∀ a, wpQuiet Try.prog ops C Q rest a → K a) → K (a.put o.dst (modelV m))) : wpQuiet Try.prog ops C Q (o :: rest) a := by
  refine wpQuiet_step fun K hK' => ?_
  rw [if_pos hw]
  refine ⟨modelV m, fun w hw => ?_, hh K hK'⟩
  unfold Oper.quietAt execOp
  have hl : (loadVar 25 ⟨h, 0, none⟩).run Try.prog w = .ok (modelV m) w := run_loadVar_row w h _ _ _ _ _ (hC w hw) Try.underlying25 rfl (by kernel_rfl)
  simp only [ho, hx, Instr.loadAt, Instr.sureAddr, Sem.run_bind, Sem.run_pure, Result.andThen_ok, hl]
  exact ⟨rfl, rfl⟩
/-- the rest of a quiet region, as one word (what it says is not looked into at each step) -/
structure WQ (ops : Array Oper) (C : World → Prop) (Q : Act → Prop) (l : List Oper) (a : Act) : Prop where
  out : wpQuiet Try.prog ops C Q l a
section
variable {ops : Array Oper} {rest : List Oper} {C : World → Prop} {Q : Act → Prop} {a : Act} {o : Oper}
theorem WQ.skip (hw : Region.wanted o (yielded ops a.tmps) = false) (h : WQ ops C Q rest (a.put o.dst undef)) : WQ ops C Q (o :: rest) a := ⟨by
  have h1 := h.out
  unfold wpQuiet
  rw [hw]
  exact h1⟩
theorem WQ.move (hw : Region.wanted o (yielded ops a.tmps) = true) (x : Operand) (ho : o.op = .move x) (v : Value) (hx : a.eval x = v) (h : WQ ops C Q rest (a.put o.dst v)) : WQ ops C Q (o :: rest) a := ⟨by
  refine wpQuiet_step fun K hK' => ?_
  rw [if_pos hw]
  refine ⟨v, fun w hw => ?_, hK' _ h.out⟩
  unfold Oper.quietAt execOp
  simp only [ho, hx, Sem.run_pure]
  exact ⟨rfl, rfl⟩⟩
theorem WQ.pickF (hw : Region.wanted o (yielded ops a.tmps) = true) (c x y : Operand) (ho : o.op = .pick c x y) (hc : a.eval c = .bool false) (v : Value) (hx : a.eval y = v) (h : WQ ops C Q rest (a.put o.dst v)) : WQ ops C Q (o :: rest) a := ⟨by
  refine wpQuiet_step fun K hK' => ?_
  rw [if_pos hw]
  refine ⟨v, fun w hw => ?_, hK' _ h.out⟩
  unfold Oper.quietAt execOp
  simp only [ho, hc, hx, asBool, Sem.run_bind, Sem.run_pure, Result.andThen_ok]
  exact ⟨rfl, rfl⟩⟩
end
theorem quietw_loadX {ops : Array Oper} {rest : List Oper} {C : World → Prop} {Q : Act → Prop} {a : Act} {o : Oper} {h : Nat} {x : Bx} (hC : ∀ z, C z → BxB z h x) (hw : Region.wanted o (yielded ops a.tmps) = true) (y : Operand) (ho : o.op = .load 30 y) (hx : a.eval y = .pointer (some ⟨h, 0, none⟩))
    (hh : ∀ K : Act → Prop, (∀ a, wpQuiet Try.prog ops C Q rest a → K a) → K (a.put o.dst (boxW x))) : wpQuiet Try.prog ops C Q (o :: rest) a := by
  refine wpQuiet_step fun K hK' => ?_
  rw [if_pos hw]
  refine ⟨boxW x, fun w hw => ?_, hh K hK'⟩
  unfold Oper.quietAt execOp
  simp only [ho, hx, Instr.loadAt, Instr.sureAddr, Sem.run_bind, Sem.run_pure, Result.andThen_ok, load_X (hC w hw)]
  exact ⟨rfl, rfl⟩
theorem QyB.setRbq {w : World} {h : Nat} {x : Qy} (H : QyB w h x) (y : Int) : QyB (w.setCell ⟨h, 3, none⟩ (.int .i64 y)) h (partQ x y) := heap_setCell_same _ _ _ _ _ _ H

set_option maxRecDepth 100000 in
set_option maxHeartbeats 12800000 in
theorem gridHolds_walk (f : Fo) (a : Ak) (la : Option Addr) (ln lc : Nat) (lf : Nat → Li) (twin cut : Int) (w : World) (hf : f.ok w) (ha : a.ok w) (hl : IsL w la ln lc lf) (htwin : (Lit.int .i64 twin).wf = true) (hcut : (Lit.int .i64 cut).wf = true) : Calls Try.prog 5 #[forestV f, askV a, .slice la ln lc, .int .i64 twin, .int .i64 cut] w fun e w' => e = .returned (.bool true) ∧ Jk w w' := by
  have J := rules8
  have hw1 := bdi htwin
  have hb1 := bdi hcut
  obtain ⟨wv0, hwv0⟩ : ∃ z, w.alloc (.cells #[.int .i64 f.d, .int .i64 f.k, .slice f.ba f.bn f.bc, .slice f.sa f.sn f.sc] 44) = z := ⟨_, rfl⟩
  have hswv0 : wv0.heap.size = w.heap.size + 1 := by rw [← hwv0]; simp
  have HJwv0 : Hid (Jk w wv0) := hwv0 ▸ (Jk.refl w).alloc _
  have HB0wv0 : Hid (FoIn wv0 w.heap.size f) := hwv0 ▸ FoIn.laid w f _
  obtain ⟨w0, hw0⟩ : ∃ z, wv0.alloc (.cells #[.int .i64 a.kd, .int .i64 a.cl, .int .i64 a.lo, .int .i64 a.sz, .int .i64 a.f, .int .i64 a.bu, .bool a.fa, .slice a.sa a.sn a.sc] 46) = z := ⟨_, rfl⟩
  have hsw0 : w0.heap.size = w.heap.size + 1 + 1 := by rw [← hw0]; simp [hswv0]
  have HJw0 : Hid (Jk w w0) := HJwv0.out.trans (hw0 ▸ (Jk.refl wv0).alloc _)
  have HB1w0 : Hid (AkIn w0 (w.heap.size + 1) a) := hswv0 ▸ hw0 ▸ AkIn.laid wv0 a _
  have HB0w0 : Hid (FoIn w0 w.heap.size f) := HB0wv0.out.jk (hw0 ▸ (Jk.refl wv0).alloc _)
  clear HB0wv0
  have HM : Hid (Calls Try.prog 13 #[forestV f] w0 fun e w' => GotM w0 e w') := model_any f w0 (hf.jk HJw0.out)
  have ha0 := hid (ha.jk HJw0.out)
  have HAk : Hid (∀ m : Md, RightM m → AnsW w0 14 #[askV a, modelV m] (queryV (queryI a m.d m.k))) := fun m hr => ask_ans ha0.out hr.d1 hr.d4 hr.k1 hr.k3
  have HRn : Hid (Ans 3 #[] (.bool true)) := fun w' => gridRuns_walk w'
  have HLs := hid hl
  obtain ⟨fi0, fi1, fi2, fi3, fi4⟩ := HB0w0.out
  clear hf ha ha0 hl
  obtain ⟨d, k, ba, bn, bc, bz, sa, sn, sc, ss⟩ := f
  simp only [forestV] at *
  go_enter Try.func5, Try.ntmps5
  go_upto_region 1 with fail
  go_cut [11] (fun v wc => ∃ w1 h m, v = .pointer (some ⟨h, 0, none⟩) ∧ Made w0 w1 wc h m)
  case first =>
    go_wp2_with (first | (go_at_call 13; refine HM.out.mono ?_; rintro e w1 ⟨m, rfl, hr, h3, h4, hfr, hj⟩; have HMd := hid (GotM.made hr h3 h4 hfr hj); clear hr h3 h4 hfr hj))
    go_meet
    case rel => exact ⟨w1, _, m, rfl, HMd.out⟩
  case rest =>
  obtain ⟨w1, h, m, rfl, hMd⟩ := hcut
  obtain ⟨w2, rfl⟩ : ∃ z, z = wc := ⟨_, rfl⟩
  have HMd := hid hMd
  have HJ2 : Hid (Jk w0 w2) := hMd.2.2.2.2.2.2.1.trans hMd.2.2.2.2.2.2.2
  clear hMd fi0 fi1 fi2 fi3 fi4
  go_upto_region 2 with fail
  go_cut [12] (fun v wc => ∃ g q, v = .pointer (some ⟨g, 0, none⟩) ∧ q = queryI a m.d m.k ∧ MadeQ w0 w1 wc h g m q)
  case first =>
    refine wp_region_lit ?_
    obtain ⟨al, a0, a1, a2, a3, a4, a5, a6, a7⟩ := HB1w0.out.jk HJ2.out
    refine wpList_one rfl fun K hK => ?_
    go_simp
    refine hK _ _ ?_
    clear hK K
    refine listw_loadM rfl _ rfl HMd.out.1 rfl ?_
    simp only [Act.put, List.setIfInBounds_toArray, List.set_cons_succ, List.set_cons_zero]
    refine wpList_one rfl fun K hK => ?_
    go_simp
    go_at_call 14
    refine ((HAk.out m HMd.out.2.2.1).on _ HJ2.out).mono ?_
    rintro e w3 ⟨rfl, hj3⟩
    have HJ3 := hid hj3
    clear hj3
    go_simp
    refine hK _ _ ?_
    clear hK K
    go_wp2
    go_meet
    case rel => exact ⟨_, queryI a m.d m.k, rfl, rfl, HMd.out.q (HJ3.out.trans ((Jk.refl _).alloc _)) (QyB.laid w3 (queryI a m.d m.k)) HJ3.out.below.size⟩
  case rest =>
  obtain ⟨g, q, rfl, hq, hMq⟩ := hcut
  obtain ⟨w4, rfl⟩ : ∃ z, z = wc := ⟨_, rfl⟩
  have hrq : RightQ m q := hq ▸ query_right a hMq.mr
  have hsm := start_small hrq
  have hful := start_full hrq
  have HSt : Hid (Ans 8 #[queryV q] (boxW (startI q))) := hid (start_ans q)
  have HHo : Hid (∀ (q' : Qy), RightQ m q' → ∀ (H : Bool) (x y : Bool), (H = true ↔ CellsHold m q') → (decide ((cntX (cutsI m q' (startI q')) : Int) ≤ 600) && H) = x → decide ((cntX (cutsI m q' (startI q')) : Int) ≤ 600) = y → AnsW w1 10 #[modelV m, queryV q', .int .i64 600] (.tuple #[.bool x, .bool y])) := hid fun q' hq' H x y hH hx hy => holds_ans q' 600 hMq.ok hMq.mr (start_small hq').ok hH rfl hx hy
  have HBk : Hid (∀ (p : Int → Int) (t : Int) (b : Bool), (b = true ↔ BreaksP m q p t) → AnsW w1 22 #[modelV m, queryV q, pointV p, .int .i64 t] (.bool b)) := hid fun p t b hb => breaks_ans p t hMq.ok hb
  have hmd := hMq.mr.d1
  have hmd3 := hMq.d3
  have HMq := hid hMq
  have HJ0 := hid (HJw0.out.trans hMq.j0)
  have HJw := hid hMq.j1
  have HIn : Hid (∀ i, i < ln → AnsW w1 16 #[boxV (startI q), .slice (lf i).a (lf i).n (lf i).c] (pointV (insideI (startI q) (lf i).z))) := hid fun i hi => (inside_ans (HLs.out.all i hi) hsm).up HJ0.out
  have HL1 := hid (HLs.out.jk HJ0.out)
  have HRq := hid hrq
  have hsp : SmS q.rg.a := (region_small hrq).1
  have hsf : q.rg.a.lo ≤ q.rg.a.hi := placeR_full hrq.sp.1
  clear hq hMq hrq HMd HAk HB1w0 HJ2 HLs
  have hcap := HL1.out.cap
  have hmax := HL1.out.max
  unfold maxLen at hmax
  obtain ⟨Hb, hHb⟩ := cells_bool m q
  obtain ⟨N, hN⟩ : ∃ N, cntX (cutsI m q (startI q)) = N := ⟨_, rfl⟩
  have HM4 := hid HMq.out.mb
  have HQ4 := hid HMq.out.qb
  have hgq := HMq.out.gh
  have hneg := HMq.out.ne
  -- does it hold
  go_upto_region 3 with fail
  refine wp_region_lit ?_
  refine list_loadM rfl _ rfl HM4.out rfl ?_
  refine list_loadQ rfl _ rfl HQ4.out rfl ?_
  by_cases hle : (N : Int) ≤ 600
  · have HH1 := hid (HHo.out q HRq.out Hb Hb true hHb (by rw [hN]; simp; omega) (by rw [hN]; simp; omega))
    go_upto_region 6 with (first | (go_at_call 10; refine (HH1.out.on _ HJw.out).mono ?_; rintro e w5 ⟨rfl, hj5⟩; have HJ5 := hid hj5; clear hj5))
    have HM5 := hid (HM4.out.jk HJ5.out)
    have HQ5 := hid (HQ4.out.jk HJ5.out)
    have HJ5a := hid (HJw.out.trans HJ5.out)
    clear HM4 HQ4 HMq HJw HJ5 HH1
    obtain ⟨b, hb⟩ : ∃ b, startI q = b := ⟨_, rfl⟩
    have HNb : Hid (Hb = true → ∀ p t, HasX b p t → ¬ BreaksP m q p t) := hid fun h => hb ▸ (holds_iff (hb ▸ hful)).1 (hHb.1 h)
    rw [hb] at HSt HIn hsm hful
    go_cut [15] (fun p wc => ∃ gb, p = .pointer (some ⟨gb, 0, none⟩) ∧ BxB wc gb b ∧ Jk w5 wc)
    case first =>
      refine wp_region_lit ?_
      refine list_loadQ rfl _ rfl HQ5.out rfl ?_
      go_wp2_with (first | (go_at_call 8; refine (HSt.out.on _).mono ?_; rintro e z1 ⟨rfl, X1, rfl⟩))
      go_meet
      case rel => exact ⟨_, rfl, by have := BxB.laid (junk w5 X1) b; rwa [junk_size] at this, ((Jk.refl w5).junk X1).alloc _⟩
    case rest =>
    obtain ⟨gb, rfl, hB, hj⟩ := hcut
    obtain ⟨w6, rfl⟩ : ∃ z, z = wc := ⟨_, rfl⟩
    have HB6 := hid hB
    have HM6 := hid (HM5.out.jk hj)
    have HQ6 := hid (HQ5.out.jk hj)
    have HJ6 := hid (HJ5a.out.trans hj)
    clear hB hj HM5 HQ5 HJ5a HSt
    obtain ⟨t, ht⟩ : ∃ t, withinI twin b.e.lo b.e.hi = t := ⟨_, rfl⟩
    have htb := within_bd twin b.e.lo b.e.hi hful.2.2.2.2
    rw [ht] at htb
    have hse := hsm.2.2.2.2
    unfold SmS at hse
    have HWt := hid (within_is ht hw1.1 hw1.2 hful.2.2.2.2 (by omega) (by omega))
    obtain ⟨K, hK⟩ : ∃ K, min ln 8 = K := ⟨_, rfl⟩
    go_upto_region 8 with fail
    go_loopg [16] K (fun r i wr => ∃ j : Nat, j + r = K ∧ i = .int .i64 (j : Int) ∧ Hid (Jk w6 wr))
    case atStart => exact ⟨0, by omega, rfl, hid (Jk.refl w6)⟩
    case round =>
      obtain ⟨j, hj, rfl, HS⟩ := hrel
      by_cases hfuel : gk = 0
      · subst hfuel
        obtain rfl : j = K := by omega
        have hend : (j : Int) = ln ∨ ((j : Int) < ln ∧ (j : Int) = 8) := by omega
        clear HWt HNb HIn
        rcases hend with hje | ⟨hje, hj8⟩
        · have hnl : ¬ (j : Int) < (ln : Int) := by omega
          clear hje hj hK hcap hmax
          go_upto_region 12 with fail
          go_cut [17] (fun p wc => ∃ gp, p = .pointer (some ⟨gp, 0, none⟩) ∧ wr.heap.size ≤ gp ∧ QyB wc gp q ∧ Jk wr wc)
          case first =>
            refine wp_region_lit ?_
            refine list_loadQ rfl _ rfl (HQ6.out.jk HS.out) rfl ?_
            go_wp2
            go_meet
            case rel => exact ⟨_, rfl, Nat.le_refl _, QyB.laid wr q, (Jk.refl wr).alloc _⟩
          case rest =>
          obtain ⟨gp, rfl, hgp, hQp, hjp⟩ := hcut
          obtain ⟨w7, rfl⟩ : ∃ z, z = wc := ⟨_, rfl⟩
          have HQp := hid hQp
          have HJ7 := hid (HS.out.trans hjp)
          have HQ7 := hid (HQ6.out.jk HJ7.out)
          have HM7 := hid (HM6.out.jk HJ7.out)
          have hneq : g ≠ gp := by have := (HQ6.out.jk HS.out).lt; omega
          have hneh : h ≠ gp := by have := (HM6.out.jk HS.out).lt; omega
          have hgp1 : w1.heap.size ≤ gp := Nat.le_trans (HJ6.out.trans HS.out).below.size hgp
          have HJ7a := hid (HJ6.out.trans HJ7.out)
          clear hQp hjp HQ6 HM6 HB6 HS
          obtain ⟨q0, q1, q2, q3, q4, q5, q6, q7, q8, q9, q10, q11, q12, q13, q14, q15, q16⟩ := HQ7.out.in
          have ql := HQ7.out.lt
          go_upto_region 13 with fail
          go_cut [18] (fun p wc => ∃ gs, p = .pointer (some ⟨gs, 0, none⟩) ∧ SpB wc gs q.rg.a ∧ Jk w7 wc)
          case first =>
            go_wp2
            go_meet
            case rel => exact ⟨_, rfl, SpB.laid w7 q.rg.a, (Jk.refl w7).alloc _⟩
          case rest =>
          obtain ⟨gs, rfl, hS8, hj8⟩ := hcut
          obtain ⟨w8, rfl⟩ : ∃ z, z = wc := ⟨_, rfl⟩
          clear q0 q1 q2 q3 q4 q5 q6 q7 q8 q9 q10 q11 q12 q13 q14 q15 q16 ql
          obtain ⟨s0, s1, s2⟩ := hS8.in
          have HQ8 := hid (HQp.out.jk hj8)
          have HM8 := hid (HM7.out.jk hj8)
          have HJ8 := hid (HJ7a.out.trans hj8)
          obtain ⟨y, hy⟩ : ∃ y, withinI cut q.rg.a.lo q.rg.a.hi = y := ⟨_, rfl⟩
          have hyb := within_bd cut q.rg.a.lo q.rg.a.hi hsf
          rw [hy] at hyb
          unfold SmS at hsp
          have HWy := hid (within_is hy hb1.1 hb1.2 hsf (by omega) (by omega))
          obtain ⟨Hp, hHp⟩ := cells_bool m (partQ q y)
          have hrp := part_right HRq.out hyb.1 hyb.2
          have hcn : cntX (cutsI m (partQ q y) (startI (partQ q y))) ≤ N := hN ▸ part_cnt m hyb.2
          have HH2 := hid (HHo.out (partQ q y) hrp Hp Hp true hHp (by simp; omega) (by simp; omega))
          have himp : Hb = true → Hp = true := fun h => hHp.2 (part_holds HRq.out hyb.1 hyb.2 (hHb.1 h))
          clear hS8 hj8 HQ7 HM7 HQp HJ7a HJ7
          go_upto_region 14 with fail
          have p3 : w8.cell? ⟨gp, 3, none⟩ = some (.int .i64 q.rg.a.hi) := by rw [cell_of_row _ _ _ _ _ _ HQ8.out]; rfl
          have pf := HQ8.out.frozen 3
          have pl := HQ8.out.lt
          go_upto_region 15 with (first | (go_at_call 17; refine (HWy.out.on _).mono ?_; rintro e z1 ⟨rfl, X7, rfl⟩))
          have HG9 := hid (grown_set w8 gp 3 (.int .i64 y))
          have HQ9 : Hid (QyB (junk (w8.setCell ⟨gp, 3, none⟩ (.int .i64 y)) X7) gp (partQ q y)) := hid ((QyB.setRbq HQ8.out y).jk ⟨X7, rfl⟩)
          have HM9 : Hid (MdB (junk (w8.setCell ⟨gp, 3, none⟩ (.int .i64 y)) X7) h m) := hid (MdB.jk ((HG9.out.block h HM8.out.lt (by simpa using hneh)).trans HM8.out) ⟨X7, rfl⟩)
          have HJ9 := hid ((HJ8.out.grown HG9.out (fun k hk => by cases hk; exact hgp1)).junk X7)
          generalize junk (w8.setCell ⟨gp, 3, none⟩ (.int .i64 y)) X7 = w9 at HQ9 HM9 HJ9 ⊢
          clear HG9 HM8 HQ8 HJ8 p3 pf pl s0 s1 s2 HWy
          refine wp_region_lit ?_
          refine list_loadM rfl _ rfl HM9.out rfl ?_
          refine list_loadQ rfl _ rfl HQ9.out rfl ?_
          go_upto_region 16 with (go_at_call 10; refine (HH2.out.on _ HJ9.out).mono ?_; rintro e wA ⟨rfl, hjA⟩; have HJA := hid hjA; clear hjA)
          cases Hb
          · go_wp2_with (go_at_call 3; refine (HRn.out.on _).mono ?_; rintro e z1 ⟨rfl, X1, rfl⟩)
            go_ret
            exact ⟨rfl, ((HJ0.out.trans HJ9.out).trans HJA.out).junk X1⟩
          · have hHp := himp (by simp)
            subst hHp
            go_wp2_with (go_at_call 3; refine (HRn.out.on _).mono ?_; rintro e z1 ⟨rfl, X1, rfl⟩)
            go_ret
            exact ⟨rfl, ((HJ0.out.trans HJ9.out).trans HJA.out).junk X1⟩
        · have hnl : ¬ (j : Int) < 8 := by omega
          clear hj8 hj hK hcap hmax
          go_upto_region 12 with fail
          go_cut [17] (fun p wc => ∃ gp, p = .pointer (some ⟨gp, 0, none⟩) ∧ wr.heap.size ≤ gp ∧ QyB wc gp q ∧ Jk wr wc)
          case first =>
            refine wp_region_lit ?_
            refine list_loadQ rfl _ rfl (HQ6.out.jk HS.out) rfl ?_
            go_wp2
            go_meet
            case rel => exact ⟨_, rfl, Nat.le_refl _, QyB.laid wr q, (Jk.refl wr).alloc _⟩
          case rest =>
          obtain ⟨gp, rfl, hgp, hQp, hjp⟩ := hcut
          obtain ⟨w7, rfl⟩ : ∃ z, z = wc := ⟨_, rfl⟩
          have HQp := hid hQp
          have HJ7 := hid (HS.out.trans hjp)
          have HQ7 := hid (HQ6.out.jk HJ7.out)
          have HM7 := hid (HM6.out.jk HJ7.out)
          have hneq : g ≠ gp := by have := (HQ6.out.jk HS.out).lt; omega
          have hneh : h ≠ gp := by have := (HM6.out.jk HS.out).lt; omega
          have hgp1 : w1.heap.size ≤ gp := Nat.le_trans (HJ6.out.trans HS.out).below.size hgp
          have HJ7a := hid (HJ6.out.trans HJ7.out)
          clear hQp hjp HQ6 HM6 HB6 HS
          obtain ⟨q0, q1, q2, q3, q4, q5, q6, q7, q8, q9, q10, q11, q12, q13, q14, q15, q16⟩ := HQ7.out.in
          have ql := HQ7.out.lt
          go_upto_region 13 with fail
          go_cut [18] (fun p wc => ∃ gs, p = .pointer (some ⟨gs, 0, none⟩) ∧ SpB wc gs q.rg.a ∧ Jk w7 wc)
          case first =>
            go_wp2
            go_meet
            case rel => exact ⟨_, rfl, SpB.laid w7 q.rg.a, (Jk.refl w7).alloc _⟩
          case rest =>
          obtain ⟨gs, rfl, hS8, hj8⟩ := hcut
          obtain ⟨w8, rfl⟩ : ∃ z, z = wc := ⟨_, rfl⟩
          clear q0 q1 q2 q3 q4 q5 q6 q7 q8 q9 q10 q11 q12 q13 q14 q15 q16 ql
          obtain ⟨s0, s1, s2⟩ := hS8.in
          have HQ8 := hid (HQp.out.jk hj8)
          have HM8 := hid (HM7.out.jk hj8)
          have HJ8 := hid (HJ7a.out.trans hj8)
          obtain ⟨y, hy⟩ : ∃ y, withinI cut q.rg.a.lo q.rg.a.hi = y := ⟨_, rfl⟩
          have hyb := within_bd cut q.rg.a.lo q.rg.a.hi hsf
          rw [hy] at hyb
          unfold SmS at hsp
          have HWy := hid (within_is hy hb1.1 hb1.2 hsf (by omega) (by omega))
          obtain ⟨Hp, hHp⟩ := cells_bool m (partQ q y)
          have hrp := part_right HRq.out hyb.1 hyb.2
          have hcn : cntX (cutsI m (partQ q y) (startI (partQ q y))) ≤ N := hN ▸ part_cnt m hyb.2
          have HH2 := hid (HHo.out (partQ q y) hrp Hp Hp true hHp (by simp; omega) (by simp; omega))
          have himp : Hb = true → Hp = true := fun h => hHp.2 (part_holds HRq.out hyb.1 hyb.2 (hHb.1 h))
          clear hS8 hj8 HQ7 HM7 HQp HJ7a HJ7
          go_upto_region 14 with fail
          have p3 : w8.cell? ⟨gp, 3, none⟩ = some (.int .i64 q.rg.a.hi) := by rw [cell_of_row _ _ _ _ _ _ HQ8.out]; rfl
          have pf := HQ8.out.frozen 3
          have pl := HQ8.out.lt
          go_upto_region 15 with (first | (go_at_call 17; refine (HWy.out.on _).mono ?_; rintro e z1 ⟨rfl, X7, rfl⟩))
          have HG9 := hid (grown_set w8 gp 3 (.int .i64 y))
          have HQ9 : Hid (QyB (junk (w8.setCell ⟨gp, 3, none⟩ (.int .i64 y)) X7) gp (partQ q y)) := hid ((QyB.setRbq HQ8.out y).jk ⟨X7, rfl⟩)
          have HM9 : Hid (MdB (junk (w8.setCell ⟨gp, 3, none⟩ (.int .i64 y)) X7) h m) := hid (MdB.jk ((HG9.out.block h HM8.out.lt (by simpa using hneh)).trans HM8.out) ⟨X7, rfl⟩)
          have HJ9 := hid ((HJ8.out.grown HG9.out (fun k hk => by cases hk; exact hgp1)).junk X7)
          generalize junk (w8.setCell ⟨gp, 3, none⟩ (.int .i64 y)) X7 = w9 at HQ9 HM9 HJ9 ⊢
          clear HG9 HM8 HQ8 HJ8 p3 pf pl s0 s1 s2 HWy
          refine wp_region_lit ?_
          refine list_loadM rfl _ rfl HM9.out rfl ?_
          refine list_loadQ rfl _ rfl HQ9.out rfl ?_
          go_upto_region 16 with (go_at_call 10; refine (HH2.out.on _ HJ9.out).mono ?_; rintro e wA ⟨rfl, hjA⟩; have HJA := hid hjA; clear hjA)
          cases Hb
          · go_wp2_with (go_at_call 3; refine (HRn.out.on _).mono ?_; rintro e z1 ⟨rfl, X1, rfl⟩)
            go_ret
            exact ⟨rfl, ((HJ0.out.trans HJ9.out).trans HJA.out).junk X1⟩
          · have hHp := himp (by simp)
            subst hHp
            go_wp2_with (go_at_call 3; refine (HRn.out.on _).mono ?_; rintro e z1 ⟨rfl, X1, rfl⟩)
            go_ret
            exact ⟨rfl, ((HJ0.out.trans HJ9.out).trans HJA.out).junk X1⟩
      · obtain ⟨r, rfl⟩ : ∃ r, gk = r + 1 := ⟨gk - 1, by omega⟩
        have hjn : (j : Int) < (ln : Int) := by omega
        have hj8 : (j : Int) < 8 := by omega
        have HBr := hid (HB6.out.jk HS.out)
        have HMr := hid (HM6.out.jk HS.out)
        have HQr := hid (HQ6.out.jk HS.out)
        obtain ⟨x0, x1, x2, x3, x4, x5, x6, x7, x8, x9⟩ := HBr.out.in
        have xl := HBr.out.lt
        cases Hb
        · go_upto_region 10 with fail
          refine region_junk (by kernel_rfl) (by kernel_rfl) ?_
          refine WQ.out ?_
          refine WQ.move (by rfl) _ rfl _ rfl ?_
          simp only [Act.put, List.setIfInBounds_toArray, List.set_cons_succ, List.set_cons_zero]
          refine WQ.move (by rfl) _ rfl _ rfl ?_
          simp only [Act.put, List.setIfInBounds_toArray, List.set_cons_succ, List.set_cons_zero]
          iterate 17 (refine WQ.skip (by rfl) ?_; simp only [Act.put, List.setIfInBounds_toArray, List.set_cons_succ, List.set_cons_zero])
          refine WQ.pickF (by rfl) _ _ _ rfl rfl _ rfl ?_
          simp only [Act.put, List.setIfInBounds_toArray, List.set_cons_succ, List.set_cons_zero]
          refine ⟨?_⟩
          refine wpQuiet_nil ?_
          rintro _ ⟨Y, rfl⟩
          go_wp2
          go_roundg r
          case measure => omega
          case rel => exact ⟨j + 1, by omega, by go_num, hid (HS.out.junk Y)⟩
        · obtain ⟨gl, ol, rfl, hgl, hat⟩ := HL1.out.lies (by omega)
          have hjw : Jk w1 wr := HJ6.out.trans HS.out
          have kc := hat j (by omega)
          have hgl2 : gl < wr.heap.size := Nat.lt_of_lt_of_le hgl hjw.below.size
          rw [← hjw.below.cell (p := ⟨gl, ol + j, none⟩) hgl] at kc
          have HIj := hid ((HIn.out j (by omega)).up hjw)
          obtain ⟨pp, hpp⟩ : ∃ z, insideI b (lf j).z = z := ⟨_, rfl⟩
          have hnb : ¬ BreaksP m q pp t := hpp ▸ HNb.out rfl _ _ (inside_has (lf j).z hful htb.1 htb.2)
          have HBj := hid ((HBk.out pp t false (by simp [hnb])).up hjw)
          rw [hpp] at HIj
          obtain ⟨⟨ia, n', c', z'⟩, hli⟩ : ∃ z, lf j = z := ⟨_, rfl⟩
          rw [hli] at kc HIj
          simp only [boxV, pointV] at HIj HBj
          simp only at kc
          go_upto_region 10 with fail
          refine region_junk (by kernel_rfl) (by kernel_rfl) ?_
          iterate 2 (go_big_quiet_step (exact rfl))
          refine quietw_loadM (by rintro _ ⟨X, rfl⟩; exact HMr.out.jk ⟨X, rfl⟩) (by rfl) _ rfl rfl ?_
          intro K1 hK1
          simp only [Act.put, List.setIfInBounds_toArray, List.set_cons_succ, List.set_cons_zero]
          go_big_quiet_on
          refine quietw_loadQ (by rintro _ ⟨X, rfl⟩; exact HQr.out.jk ⟨X, rfl⟩) (by rfl) _ rfl rfl ?_
          intro K1 hK1
          simp only [Act.put, List.setIfInBounds_toArray, List.set_cons_succ, List.set_cons_zero]
          go_big_quiet_on
          refine quietw_loadX (by rintro _ ⟨X, rfl⟩; exact HBr.out.jk ⟨X, rfl⟩) (by rfl) _ rfl rfl ?_
          intro K1 hK1
          simp only [Act.put, List.setIfInBounds_toArray, List.set_cons_succ, List.set_cons_zero]
          go_big_quiet_on
          repeat (go_big_quiet_step (first | (go_at_call 16; exact AnsW.junk (by with_reducible exact HIj.out) _) | (go_at_call 17; exact on_junk HWt.out _) | (go_at_call 22; exact AnsW.junk (by with_reducible exact HBj.out) _) | exact rfl))
          refine wpQuiet_nil ?_
          rintro _ ⟨Y, rfl⟩
          go_wp2
          go_roundg r
          case measure => omega
          case rel => exact ⟨j + 1, by omega, by go_num, hid (HS.out.junk Y)⟩
  · have HH1 := hid (HHo.out q HRq.out Hb false false hHb (by rw [hN]; simp; omega) (by rw [hN]; simp; omega))
    go_wp2_with (first
      | (go_at_call 10; refine (HH1.out.on _ HJw.out).mono ?_; rintro e w5 ⟨rfl, hj5⟩; have HJ5 := hid hj5; clear hj5)
      | (go_at_call 3; refine (HRn.out.on _).mono ?_; rintro e z1 ⟨rfl, X1, rfl⟩))
    go_ret
    exact ⟨rfl, (HJ0.out.trans (HJw.out.trans HJ5.out)).junk X1⟩

end Go.Proofs.Ytkkbeobocbgmeaa
