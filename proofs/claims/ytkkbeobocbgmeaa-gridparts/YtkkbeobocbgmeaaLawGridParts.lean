/- The law GridParts of chapter 12 answers true: its walk through the Go text, by the contracts of package grid. -/
import Derived.Test.YtkkbeobocbgmeaaGridN
import Derived.Test.YtkkbeobocbgmeaaGridD
import Derived.Test.YtkkbeobocbgmeaaLawGridRuns
namespace Go.Proofs.Ytkkbeobocbgmeaa
open Go.RowKit M

theorem inn_of {x y : Bx} (h : InB x y) : x.inn y = true := by
  obtain ⟨h0, h1, h2, h3, h4⟩ := h
  simp [Bx.inn, Sp.inn, inB, h0, h1, h2, h3, h4]
theorem has_of {x : Bx} {p : Int → Int} {t : Int} {b : Bool} (h : b = true ↔ HasX x p t) : x.has ⟨p 0, p 1, p 2, p 3⟩ t = b := by
  have e : x.has ⟨p 0, p 1, p 2, p 3⟩ t = true ↔ HasX x p t := by simp [Bx.has, Sp.has, hasB, HasX, and_assoc]
  cases b
  · cases hb : x.has ⟨p 0, p 1, p 2, p 3⟩ t
    · rfl
    · exact absurd (h.2 (e.1 hb)) (by simp)
  · exact e.2 (h.1 rfl)
theorem small_in {x y : Bx} (h : InB x y) (hf : Full x) (hy : SmB y) : SmB x := by
  obtain ⟨h0, h1, h2, h3, h4⟩ := h
  obtain ⟨f0, f1, f2, f3, f4⟩ := hf
  obtain ⟨y0, y1, y2, y3, y4⟩ := hy
  unfold SmS at *
  unfold SmB SmS
  omega
theorem has_ansP {x : Bx} {p : Int → Int} {t : Int} {b : Bool} (h : b = true ↔ HasX x p t) : Ans 20 #[boxV x, pointV p, .int .i64 t] (.bool b) := a_has (p := ⟨p 0, p 1, p 2, p 3⟩) (has_of h)
def one0 (n0 n : Nat) : Int := if n0 < n then 1 else 0
theorem one0_zero (n0 : Nat) : one0 n0 0 = 0 := by simp [one0]
theorem one0_yes (n0 : Nat) : one0 n0 (n0 + 1) = one0 n0 n0 + 1 := by simp [one0]
theorem one0_no {n0 n : Nat} (h : n ≠ n0) : one0 n0 (n + 1) = one0 n0 n := by
  unfold one0
  split <;> split <;> omega
theorem one0_all {n0 N : Nat} (h : n0 < N) : one0 n0 N = 1 := by simp [one0, h]
theorem one0_bd (n0 n : Nat) : 0 ≤ one0 n0 n ∧ one0 n0 n ≤ 1 := by
  unfold one0
  split <;> omega
theorem quiet_loadP {ops : Array Oper} {rest : List Oper} {C : World → Prop} {Q : Act → Prop} {a : Act} {o : Oper} {h : Nat} {p : Int → Int} (hC : ∀ z, C z → PtF z h p) (hgd : o.guard = none) (y : Operand) (ho : o.op = .load 52 y) (hx : a.eval y = .pointer (some ⟨h, 0, none⟩))
    (hh : ∀ K : Act → Prop, (∀ a, wpQuiet Try.prog ops C Q rest a → K a) → K (a.put o.dst (pointV p))) : wpQuiet Try.prog ops C Q (o :: rest) a := by
  refine wpQuiet_step fun K hK' => ?_
  rw [if_pos (by simp [Region.wanted, hgd])]
  refine ⟨pointV p, fun w hw => ?_, hh K hK'⟩
  unfold Oper.quietAt execOp
  simp only [ho, hx, Instr.loadAt, Instr.sureAddr, Sem.run_bind, Sem.run_pure, Result.andThen_ok, load_Pt (hC w hw)]
  exact ⟨rfl, rfl⟩
theorem list_loadPt {ops : Array Oper} {rest : List Oper} {o : Oper} {act : Act} {Q : Exit → Act → World → Prop} {w : World} (hgd : o.guard = none) (x : Operand) (ho : o.op = .load 52 x) {h : Nat} {p : Int → Int} (H : PtF w h p) (hx : act.eval x = .pointer (some ⟨h, 0, none⟩))
    (hK : wpList Try.prog ops Q rest (act.put o.dst (pointV p)) w) : wpList Try.prog ops Q (o :: rest) act w :=
  wpList_plain hgd fun _ hK' => wp_load_row 52 x ho h hx _ _ _ _ H Try.underlying52 rfl (by kernel_rfl) (hK' _ _ hK)

set_option maxRecDepth 100000 in
set_option maxHeartbeats 12800000 in
theorem gridParts_walk (f : Fo) (a : Ak) (la : Option Addr) (ln lc : Nat) (zs : List Int) (ra : Option Addr) (rn rc : Nat) (ys : List Int) (w : World) (hf : f.ok w) (ha : a.ok w) (hl : IsI w la ln lc zs) (hr : IsI w ra rn rc ys) : Calls Try.prog 4 #[forestV f, askV a, .slice la ln lc, .slice ra rn rc] w fun e w' => e = .returned (.bool true) ∧ Jk w w' := by
  have J := rules8
  obtain ⟨wv0, hwv0⟩ : ∃ z, w.alloc (.cells #[.int .i64 f.d, .int .i64 f.k, .slice f.ba f.bn f.bc, .slice f.sa f.sn f.sc] 44) = z := ⟨_, rfl⟩
  have hswv0 : wv0.heap.size = w.heap.size + 1 := by rw [← hwv0]; simp
  have HJwv0 : Hid (Jk w wv0) := hwv0 ▸ (Jk.refl w).alloc _
  have HB0wv0 : Hid (FoIn wv0 w.heap.size f) := hwv0 ▸ FoIn.laid w f _
  obtain ⟨w0, hw0⟩ : ∃ z, wv0.alloc (.cells #[.int .i64 a.kd, .int .i64 a.cl, .int .i64 a.lo, .int .i64 a.sz, .int .i64 a.f, .int .i64 a.bu, .bool a.fa, .slice a.sa a.sn a.sc] 46) = z := ⟨_, rfl⟩
  have hsw0 : w0.heap.size = w.heap.size + 1 + 1 := by rw [← hw0]; simp [hswv0]
  have HJw0 : Hid (Jk w w0) := HJwv0.out.trans (hw0 ▸ (Jk.refl wv0).alloc _)
  have HB1w0 : Hid (AkIn w0 (w.heap.size + 1) a) := hswv0 ▸ hw0 ▸ AkIn.laid wv0 a _
  have HB0w0 : Hid (FoIn w0 w.heap.size f) := HB0wv0.out.jk (hw0 ▸ (Jk.refl wv0).alloc _)
  clear HB0wv0
  have HM : Hid (Calls Try.prog 13 #[forestV f] w0 fun e w' => GotM w0 e w') := model_any f w0 (hf.jk HJw0.out)
  have ha0 := hid (ha.jk HJw0.out)
  have HAk : Hid (∀ m : Md, RightM m → AnsW w0 14 #[askV a, modelV m] (queryV (queryI a m.d m.k))) := fun m hr => ask_ans ha0.out hr.d1 hr.d4 hr.k1 hr.k3
  have HRn : Hid (Ans 3 #[] (.bool true)) := fun w' => gridRuns_walk w'
  have HLs := hid hl
  have HRs := hid hr
  obtain ⟨fi0, fi1, fi2, fi3, fi4⟩ := HB0w0.out
  clear hf ha ha0 hl hr
  obtain ⟨d, k, ba, bn, bc, bz, sa, sn, sc, ss⟩ := f
  simp only [forestV] at *
  go_enter Try.func4, Try.ntmps4
  go_upto_region 1 with fail
  go_cut [9] (fun v wc => ∃ w1 h m, v = .pointer (some ⟨h, 0, none⟩) ∧ Made w0 w1 wc h m)
  case first =>
    go_wp2_with (first | (go_at_call 13; refine HM.out.mono ?_; rintro e w1 ⟨m, rfl, hr, h3, h4, hfr, hj⟩; have HMd := hid (GotM.made hr h3 h4 hfr hj); clear hr h3 h4 hfr hj))
    go_meet
    case rel => exact ⟨w1, _, m, rfl, HMd.out⟩
  case rest =>
  obtain ⟨w1, h, m, rfl, hMd⟩ := hcut
  obtain ⟨w2, rfl⟩ : ∃ z, z = wc := ⟨_, rfl⟩
  have HMd := hid hMd
  have HJ2 : Hid (Jk w0 w2) := hMd.2.2.2.2.2.2.1.trans hMd.2.2.2.2.2.2.2
  clear hMd fi0 fi1 fi2 fi3 fi4
  go_upto_region 2 with fail
  go_cut [10] (fun v wc => ∃ g q, v = .pointer (some ⟨g, 0, none⟩) ∧ q = queryI a m.d m.k ∧ MadeQ w0 w1 wc h g m q)
  case first =>
    refine wp_region_lit ?_
    obtain ⟨al, a0, a1, a2, a3, a4, a5, a6, a7⟩ := HB1w0.out.jk HJ2.out
    refine wpList_one rfl fun K hK => ?_
    go_simp
    refine hK _ _ ?_
    clear hK K
    refine listw_loadM rfl _ rfl HMd.out.1 rfl ?_
    simp only [Act.put, List.setIfInBounds_toArray, List.set_cons_succ, List.set_cons_zero]
    refine wpList_one rfl fun K hK => ?_
    go_simp
    go_at_call 14
    refine ((HAk.out m HMd.out.2.2.1).on _ HJ2.out).mono ?_
    rintro e w3 ⟨rfl, hj3⟩
    have HJ3 := hid hj3
    clear hj3
    go_simp
    refine hK _ _ ?_
    clear hK K
    go_wp2
    go_meet
    case rel => exact ⟨_, queryI a m.d m.k, rfl, rfl, HMd.out.q (HJ3.out.trans ((Jk.refl _).alloc _)) (QyB.laid w3 (queryI a m.d m.k)) HJ3.out.below.size⟩
  case rest =>
  obtain ⟨g, q, rfl, hq, hMq⟩ := hcut
  obtain ⟨w4, rfl⟩ : ∃ z, z = wc := ⟨_, rfl⟩
  have hrq : RightQ m q := hq ▸ query_right a hMq.mr
  have hsm := start_small hrq
  have hful := start_full hrq
  have HSt : Hid (Ans 8 #[queryV q] (boxW (startI q))) := hid (start_ans q)
  have HCs : Hid (∀ (N : Nat) (X : Nat → Bx) (ok : Bool), cntX (cutsI m q (startI q)) = N → cellX (startI q) (cutsI m q (startI q)) = X → decide ((N : Int) ≤ 600) = ok → ∀ w', Jk w1 w' → Calls Try.prog 15 #[modelV m, queryV q, boxV (startI q), .int .i64 600] w' fun e w'' => GotXs w' N ok X e w'') := hid fun N X ok hN hX hok w' hj => cells_any q (startI q) 600 hMq.ok hMq.mr (start_small hrq).ok (by omega) hN hX hok w' hj
  have HCu : Hid (∀ (c : Bx) (k : Int), cutsI m q c k = [] → AnsZ w1 12 #[modelV m, queryV q, boxV c, .int .i64 k] []) := hid fun c k h => cuts_ans q c k hMq.ok hMq.mr h
  have HEv : Hid (∀ (p : Int → Int) (c E : Int), EvalP m p c E → AnsW w1 21 #[modelV m, .int .i64 c, pointV p] (.int .i64 E)) := hid fun p c E hE => eval_ans p hMq.ok hE
  have HMr : Hid (RightM m) := hid hMq.mr
  have hmd := hMq.mr.d1
  have hmd3 := hMq.d3
  have HMq := hid hMq
  have HJ0 := hid (HJw0.out.trans hMq.j0)
  have HJw := hid hMq.j1
  have HIn : Hid (AnsW w1 16 #[boxV (startI q), .slice la ln lc] (pointV (insideI (startI q) zs))) := hid ((inside_ans HLs.out hsm).up HJ0.out)
  have HIr : Hid (∀ x, SmB x → AnsW w1 16 #[boxV x, .slice ra rn rc] (pointV (insideI x ys))) := hid fun x hx => (inside_ans HRs.out hx).up HJ0.out
  have hcap := HLs.out.cap
  have hmax := HLs.out.max
  unfold maxLen at hmax
  clear hq hMq hrq HMd HAk HB1w0 HJ2 HLs HRs
  obtain ⟨b, hb⟩ : ∃ b, startI q = b := ⟨_, rfl⟩
  rw [hb] at HSt HIn HCs hsm hful
  clear hb
  go_upto_region 3 with fail
  go_cut [11] (fun p wc => ∃ gb, p = .pointer (some ⟨gb, 0, none⟩) ∧ BxB wc gb b ∧ Jk w4 wc)
  case first =>
    refine wp_region_lit ?_
    refine list_loadQ rfl _ rfl HMq.out.qb rfl ?_
    go_wp2_with (first | (go_at_call 8; refine (HSt.out.on _).mono ?_; rintro e z1 ⟨rfl, X1, rfl⟩))
    go_meet
    case rel => exact ⟨_, rfl, by have := BxB.laid (junk w4 X1) b; rwa [junk_size] at this, ((Jk.refl w4).junk X1).alloc _⟩
  case rest =>
  obtain ⟨gb, rfl, hB, hj⟩ := hcut
  obtain ⟨w5, rfl⟩ : ∃ z, z = wc := ⟨_, rfl⟩
  have HB5 := hid hB
  have HM5 := hid (HMq.out.mb.jk hj)
  have HQ5 := hid (HMq.out.qb.jk hj)
  have HJ5 := hid (HJw.out.trans hj)
  clear hB hj HMq HJw HSt
  obtain ⟨N, hN⟩ : ∃ N, cntX (cutsI m q b) = N := ⟨_, rfl⟩
  obtain ⟨X, hX⟩ : ∃ X, cellX b (cutsI m q b) = X := ⟨_, rfl⟩
  have HFu : Hid (∀ n, Full (X n)) := hid fun n => hX ▸ cellX_full (cutsI_parts m q b) hful n
  have HIb : Hid (∀ n, InB (X n) b) := hid fun n => hX ▸ cellX_in (cutsI_parts m q b) n
  have HZr : Hid (∀ n (k : Nat), k < 5 → cutsI m q (X n) (k : Int) = []) := hid fun n k hk => hX ▸ cuts_cell m q b n (by omega) (by omega)
  have HSm : Hid (∀ n p t c, HasX (X n) p t → m.sum p c = m.sum (lowF (X n)) c) := hid fun n p t c h => by
    subst hX
    exact sum_cell HMr.out h c
  have HOn : Hid (∀ p t, HasX b p t → ∃ n0, n0 < N ∧ ∀ n, n < N → (HasX (X n) p t ↔ n = n0)) := hid fun p t h => by
    subst hX hN
    exact cellX_one (cutsI_parts m q b) h
  go_upto_region 4 with fail
  refine wp_region_lit ?_
  refine list_loadM rfl _ rfl HM5.out rfl ?_
  refine list_loadQ rfl _ rfl HQ5.out rfl ?_
  refine list_loadX rfl _ rfl HB5.out rfl ?_
  by_cases hle : (N : Int) ≤ 600
  · have HC1 := hid (HCs.out N X true hN hX (by simp; omega))
    simp only [boxV] at HC1
    go_upto_region 7 with (first | (go_at_call 15; refine (HC1.out _ HJ5.out).mono ?_; rintro e w6 ⟨h6, h6', hj6⟩; obtain ⟨g6, rfl, h6g, h6l, h6x⟩ := h6 rfl; have HJ6 := hid hj6; have HX6 := hid h6x; clear hj6 h6x h6 h6'))
    have HB6 := hid (HB5.out.jk HJ6.out)
    have HM6 := hid (HM5.out.jk HJ6.out)
    have HQ6 := hid (HQ5.out.jk HJ6.out)
    have HJ6a := hid (HJ5.out.trans HJ6.out)
    clear HB5 HM5 HQ5 HJ5 HJ6 HC1 HCs hN hX h6g
    obtain ⟨P, hP⟩ : ∃ P, insideI b zs = P := ⟨_, rfl⟩
    have hPh := fun t h1 h2 => inside_has zs hful (t := t) h1 h2
    rw [hP] at HIn hPh
    simp only [boxV] at HIn
    go_cut [14] (fun p wc => ∃ gp, p = .pointer (some ⟨gp, 0, none⟩) ∧ PtF wc gp P ∧ Jk w6 wc)
    case first =>
      refine wp_region_lit ?_
      refine list_loadX rfl _ rfl HB6.out rfl ?_
      go_wp2_with (first | (go_at_call 16; refine (HIn.out.on _ HJ6a.out).mono ?_; rintro e z1 ⟨rfl, hj1⟩; have HJ1 := hid hj1; clear hj1))
      go_meet
      case rel => exact ⟨_, rfl, PtB.laid z1 (P 0) (P 1) (P 2) (P 3), HJ1.out.alloc _⟩
    case rest =>
    obtain ⟨gp, rfl, hP7, hj⟩ := hcut
    obtain ⟨w7, rfl⟩ : ∃ z, z = wc := ⟨_, rfl⟩
    have HP7 := hid hP7
    have HB7 := hid (HB6.out.jk hj)
    have HM7 := hid (HM6.out.jk hj)
    have HQ7 := hid (HQ6.out.jk hj)
    have HX7 := hid (HX6.out.jk h6l hj)
    have hg7 : g6 < w7.heap.size := Nat.lt_of_lt_of_le h6l hj.below.size
    have HJ7 := hid (HJ6a.out.trans hj)
    clear hP7 hj HB6 HM6 HQ6 HX6 HJ6a HIn hP h6l
    obtain ⟨t, ht⟩ : ∃ t, withinI (ln : Int) b.e.lo b.e.hi = t := ⟨_, rfl⟩
    have htb := within_bd (ln : Int) b.e.lo b.e.hi hful.2.2.2.2
    rw [ht] at htb
    have hse := hsm.2.2.2.2
    unfold SmS at hse
    have HWt := hid (within_is ht (by omega) (by omega) hful.2.2.2.2 (by omega) (by omega))
    obtain ⟨n0, hn0, hone⟩ := HOn.out P t (hPh t htb.1 htb.2)
    have HOne := hid hone
    have HHas : Hid (∀ n, n < N → ∀ bb : Bool, (bb = true ↔ n = n0) → Ans 20 #[boxV (X n), pointV P, .int .i64 t] (.bool bb)) := hid fun n hn bb hb => has_ansP (hb.trans (HOne.out n hn).symm)
    obtain ⟨x0, x1, x2, x3, x4, x5, x6, x7, x8, x9⟩ := HB7.out.in
    have xl := HB7.out.lt
    go_upto_region 9 with (first | (go_at_call 17; refine (HWt.out.on _).mono ?_; rintro e z1 ⟨rfl, X1, rfl⟩))
    have HJx : Hid (Jk w7 (junk w7 X1)) := ⟨X1, rfl⟩
    generalize junk w7 X1 = w8 at HJx ⊢
    have HB8 := hid (HB7.out.jk HJx.out)
    have HM8 := hid (HM7.out.jk HJx.out)
    have HQ8 := hid (HQ7.out.jk HJx.out)
    have HP8 := hid (HP7.out.jk HJx.out)
    have HX8 := hid (HX7.out.jk hg7 HJx.out)
    have hg8 : g6 < w8.heap.size := Nat.lt_of_lt_of_le hg7 HJx.out.below.size
    have HJ8 := hid (HJ7.out.trans HJx.out)
    clear HB7 HM7 HQ7 HP7 HX7 HJ7 HJx HWt x0 x1 x2 x3 x4 x5 x6 x7 x8 x9 xl hg7 hone hPh
    go_upto_region 11 with fail
    go_loopg [16, 53] N (fun r cnt i wr => ∃ n : Nat, n + r = N ∧ i = .int .i64 (n : Int) ∧ cnt = .int .i64 (one0 n0 n) ∧ Hid (Jk w8 wr))
    case atStart => exact ⟨0, by omega, rfl, by rw [one0_zero], hid (Jk.refl w8)⟩
    case round =>
      obtain ⟨n, hn, rfl, rfl, HS⟩ := hrel
      by_cases hfuel : gk = 0
      · subst hfuel
        obtain rfl : n = N := by omega
        rw [one0_all hn0]
        go_wp2_with (first | (go_at_call 3; refine (HRn.out.on _).mono ?_; rintro e z1 ⟨rfl, X1, rfl⟩))
        go_ret
        exact ⟨rfl, ((HJ0.out.trans HJ8.out).trans HS.out).junk X1⟩
      · obtain ⟨r, rfl⟩ : ∃ r, gk = r + 1 := ⟨gk - 1, by omega⟩
        have hnN : (n : Int) < (N : Int) := by omega
        obtain ⟨c, hc⟩ : ∃ c, X n = c := ⟨_, rfl⟩
        go_upto_region 12 with fail
        go_cut [18] (fun p wc => ∃ gc, p = .pointer (some ⟨gc, 0, none⟩) ∧ BxB wc gc c ∧ Jk wr wc)
        case first =>
          refine wp_region_lit ?_
          refine wpList_one rfl fun K1 hK1 => ?_
          go_simp
          refine hK1 _ _ ?_
          clear hK1 K1
          refine list_loadXrow rfl _ rfl (HX8.out.jk hg8 HS.out) (i := n) (by omega) hc rfl ?_
          go_wp2
          go_meet
          case rel => exact ⟨_, rfl, BxB.laid wr c, (Jk.refl wr).alloc _⟩
        case rest =>
        obtain ⟨gc, rfl, hBc, hj9⟩ := hcut
        obtain ⟨w9, rfl⟩ : ∃ z, z = wc := ⟨_, rfl⟩
        have HBc := hid hBc
        have HJ9 := hid (HS.out.trans hj9)
        clear hBc hj9 HS
        have hfc : Full c := hc ▸ HFu.out n
        have hic : InB c b := hc ▸ HIb.out n
        have HWi : Hid (Ans 18 #[boxV c, boxV b] (.bool true)) := hid (a_inn (inn_of hic))
        have HEm : Hid (Ans 19 #[boxV c] (.bool false)) := hid (a_em (full_em hfc))
        simp only [boxV] at HWi HEm
        go_upto_region 13 with fail
        refine wp_region_lit ?_
        refine list_loadX rfl _ rfl HBc.out rfl ?_
        refine list_loadX rfl _ rfl (HB8.out.jk HJ9.out) rfl ?_
        iterate 3
          refine wpList_one rfl fun K1 hK1 => ?_
          go_simp
          first
            | (go_at_call 18; refine (HWi.out.on _).mono ?_; rintro e z1 ⟨rfl, X1, rfl⟩; go_simp)
            | skip
          refine hK1 _ _ ?_
          clear hK1 K1
        have HJx : Hid (Jk w9 (junk w9 X1)) := ⟨X1, rfl⟩
        generalize junk w9 X1 = w10 at HJx ⊢
        have HBd := hid (HBc.out.jk HJx.out)
        have HJ10 := hid (HJ9.out.trans HJx.out)
        clear HBc HJ9 HJx HWi
        refine listw_loadX rfl _ rfl HBd.out rfl ?_
        go_upto_region 15 with (go_at_call 19; refine (HEm.out.on _).mono ?_; rintro e z1 ⟨rfl, X2, rfl⟩)
        have HJy : Hid (Jk w10 (junk w10 X2)) := ⟨X2, rfl⟩
        generalize junk w10 X2 = w11 at HJy ⊢
        have HBe := hid (HBd.out.jk HJy.out)
        have HJ11 := hid (HJ10.out.trans HJy.out)
        clear HBd HJ10 HJy HEm
        have HCz : Hid (∀ k : Nat, k < 5 → AnsZ w1 12 #[modelV m, queryV q, boxV c, .int .i64 (k : Int)] []) := hid fun k hk => HCu.out c k (hc ▸ HZr.out n k hk)
        simp only [boxV] at HCz
        go_upto_region 16 with fail
        go_loopg [65] 5 (fun r i wr => ∃ k : Nat, k + r = 5 ∧ i = .int .i64 (k : Int) ∧ Hid (Jk w11 wr))
        case atStart => exact ⟨0, by omega, rfl, hid (Jk.refl w11)⟩
        case round =>
          obtain ⟨k, hk, rfl, HT⟩ := hrel
          by_cases hfu : gk = 0
          · subst hfu
            obtain rfl : k = 5 := by omega
            obtain ⟨w12, rfl⟩ : ∃ z, z = wr := ⟨_, rfl⟩
            have HJ12 := hid (HJ11.out.trans HT.out)
            have HBf := hid (HBe.out.jk HT.out)
            have HPf := hid (HP8.out.jk HJ12.out)
            clear HCz HT HBe HJ11 hk
            obtain ⟨y, hy⟩ : ∃ y, one0 n0 n = y := ⟨_, rfl⟩
            have hyb := one0_bd n0 n
            rw [hy] at hyb ⊢
            by_cases hnn : n = n0
            · have HH := hid (HHas.out n (by omega) true (by simp [hnn]))
              rw [hc] at HH
              simp only [boxV, pointV] at HH
              have hyy : one0 n0 (n + 1) = y + 1 := by subst hnn; rw [one0_yes, hy]
              have hcP : HasX c P t := hc ▸ (HOne.out n (by omega)).2 hnn
              go_upto_region 21 with fail
              refine wp_region_lit ?_
              refine list_loadX rfl _ rfl HBf.out rfl ?_
              refine list_loadPt rfl _ rfl HPf.out rfl ?_
              go_upto_region 23 with (go_at_call 20; refine (HH.out.on _).mono ?_; rintro e z1 ⟨rfl, X3, rfl⟩)
              have HJz : Hid (Jk w12 (junk w12 X3)) := ⟨X3, rfl⟩
              generalize junk w12 X3 = w13 at HJz ⊢
              have HBg := hid (HBf.out.jk HJz.out)
              have HJ13 := hid (HJ12.out.trans HJz.out)
              clear HBf HPf HJ12 HJz HH
              obtain ⟨O, hO⟩ : ∃ O, insideI c ys = O := ⟨_, rfl⟩
              have hcO : HasX c O c.e.lo := hO ▸ inside_has ys hfc (Int.le_refl _) hfc.2.2.2.2
              have HIo := hid (HIr.out c (small_in hic hfc hsm))
              rw [hO] at HIo
              simp only [boxV] at HIo
              go_cut [20] (fun p wc => ∃ gq, p = .pointer (some ⟨gq, 0, none⟩) ∧ PtF wc gq O ∧ Jk w13 wc)
              case first =>
                refine wp_region_lit ?_
                refine list_loadX rfl _ rfl HBg.out rfl ?_
                go_wp2_with (first | (go_at_call 16; refine (HIo.out.on _ (HJ8.out.trans HJ13.out)).mono ?_; rintro e z1 ⟨rfl, hj1⟩; have HJ1 := hid hj1; clear hj1))
                go_meet
                case rel => exact ⟨_, rfl, PtB.laid z1 (O 0) (O 1) (O 2) (O 3), HJ1.out.alloc _⟩
              case rest =>
              obtain ⟨gq, rfl, hO14, hj14⟩ := hcut
              obtain ⟨w14, rfl⟩ : ∃ z, z = wc := ⟨_, rfl⟩
              have HO14 := hid hO14
              have HJ14 := hid (HJ13.out.trans hj14)
              clear hO14 hj14 HBg HJ13 HIo hO
              have HSs : Hid (∀ C : Int, m.sum O C = m.sum P C) := hid fun C => by
                subst hc
                exact (HSm.out n O _ C hcO).trans (HSm.out n P t C hcP).symm
              clear hcO hcP
              obtain ⟨KK, hKa, hKb⟩ : ∃ KK : Nat, m.k ≤ (KK : Int) ∧ (KK : Int) ≤ m.k := ⟨m.k.toNat, by have := HMr.out.k1; omega, by have := HMr.out.k1; omega⟩
              have hK3 := HMr.out.k3
              go_upto_region 25 with fail
              go_loopg [21] KK (fun r i wr => ∃ j : Nat, j + r = KK ∧ i = .int .i64 (j : Int) ∧ Hid (Jk w14 wr))
              case atStart => exact ⟨0, by omega, rfl, hid (Jk.refl w14)⟩
              case round =>
                obtain ⟨j, hj, rfl, HU⟩ := hrel
                have HMj := hid (HM8.out.jk (HJ14.out.trans HU.out))
                obtain ⟨m0, m1, m2, m3, m4, m5, m6⟩ := HMj.out.in
                have L1 := lt_more3 m0
                by_cases hfj : gk = 0
                · subst hfj
                  obtain rfl : j = KK := by omega
                  go_wp2
                  go_roundg r
                  case measure => omega
                  case rel => exact ⟨n + 1, by omega, by go_num, by rw [hyy], hid (HJ14.out.trans HU.out)⟩
                · obtain ⟨r3, rfl⟩ : ∃ r, gk = r + 1 := ⟨gk - 1, by omega⟩
                  have hjk : (j : Int) < m.k := by omega
                  have hjw : Jk w1 wr := HJ8.out.trans (HJ14.out.trans HU.out)
                  have HEo := hid ((HEv.out O (j : Int) _ (HMr.out.evalP O (by omega) hjk)).up hjw)
                  have HEp := hid ((HEv.out P (j : Int) _ (HMr.out.evalP P (by omega) hjk)).up hjw)
                  rw [HSs.out] at HEo
                  have HOj := hid (HO14.out.jk HU.out)
                  have HPj := hid (HP8.out.jk (HJ14.out.trans HU.out))
                  obtain ⟨S, hS⟩ : ∃ S, m.sum P (j : Int) = S := ⟨_, rfl⟩
                  rw [hS] at HEo HEp
                  simp only [pointV] at HEo HEp
                  clear hS
                  go_upto_region 27 with fail
                  refine region_junk (by kernel_rfl) (by kernel_rfl) ?_
                  refine quiet_loadM (by rintro _ ⟨X, rfl⟩; exact HMj.out.jk ⟨X, rfl⟩) rfl _ rfl rfl ?_
                  intro K1 hK1
                  simp only [Act.put, List.setIfInBounds_toArray, List.set_cons_succ, List.set_cons_zero]
                  go_big_quiet_on
                  go_big_quiet_step (exact rfl)
                  refine quiet_loadP (by rintro _ ⟨X, rfl⟩; exact HOj.out.jk ⟨X, rfl⟩) rfl _ rfl rfl ?_
                  intro K1 hK1
                  simp only [Act.put, List.setIfInBounds_toArray, List.set_cons_succ, List.set_cons_zero]
                  go_big_quiet_on
                  go_big_quiet_step (first | (go_at_call 21; exact AnsW.junk (by with_reducible exact HEo.out) _) | exact rfl)
                  refine quiet_loadM (by rintro _ ⟨X, rfl⟩; exact HMj.out.jk ⟨X, rfl⟩) rfl _ rfl rfl ?_
                  intro K1 hK1
                  simp only [Act.put, List.setIfInBounds_toArray, List.set_cons_succ, List.set_cons_zero]
                  go_big_quiet_on
                  go_big_quiet_step (exact rfl)
                  refine quiet_loadP (by rintro _ ⟨X, rfl⟩; exact HPj.out.jk ⟨X, rfl⟩) rfl _ rfl rfl ?_
                  intro K1 hK1
                  simp only [Act.put, List.setIfInBounds_toArray, List.set_cons_succ, List.set_cons_zero]
                  go_big_quiet_on
                  repeat (go_big_quiet_step (first | (go_at_call 21; exact AnsW.junk (by with_reducible exact HEp.out) _) | exact rfl))
                  refine wpQuiet_nil ?_
                  rintro _ ⟨Y, rfl⟩
                  go_wp2
                  go_roundg r3
                  case measure => omega
                  case rel => exact ⟨j + 1, by omega, by go_num, hid (HU.out.junk Y)⟩
            · have HH := hid (HHas.out n (by omega) false (by simp [hnn]))
              rw [hc] at HH
              simp only [boxV, pointV] at HH
              have hyy : one0 n0 (n + 1) = y := by rw [one0_no hnn, hy]
              go_upto_region 21 with fail
              refine wp_region_lit ?_
              refine list_loadX rfl _ rfl HBf.out rfl ?_
              refine list_loadPt rfl _ rfl HPf.out rfl ?_
              go_wp2_with (go_at_call 20; refine (HH.out.on _).mono ?_; rintro e z1 ⟨rfl, X3, rfl⟩)
              go_roundg r
              case measure => omega
              case rel => exact ⟨n + 1, by omega, by go_num, by rw [hyy], hid (HJ12.out.junk X3)⟩
          · obtain ⟨r2, rfl⟩ : ∃ r, gk = r + 1 := ⟨gk - 1, by omega⟩
            have hk5 : (k : Int) < 5 := by omega
            have HCk := hid (HCz.out k (by omega))
            go_upto_region 18 with fail
            refine wp_region_lit ?_
            refine list_loadM rfl _ rfl (HM8.out.jk (HJ11.out.trans HT.out)) rfl ?_
            refine list_loadQ rfl _ rfl (HQ8.out.jk (HJ11.out.trans HT.out)) rfl ?_
            refine list_loadX rfl _ rfl (HBe.out.jk HT.out) rfl ?_
            go_wp2_with (go_at_call 12; refine (HCk.out.on _ ((HJ8.out.trans HJ11.out).trans HT.out)).mono ?_; rintro e wZ ⟨za, zn, zc, rfl, hz, hzf, hjZ⟩; obtain rfl : 0 = zn := hz.len; have HJZ := hid hjZ; clear hz hzf hjZ)
            go_roundg r2
            case measure => omega
            case rel => exact ⟨k + 1, by omega, by go_num, hid (HT.out.trans HJZ.out)⟩
  · have HC1 := hid (HCs.out N X false hN hX (by simp; omega))
    simp only [boxV] at HC1
    go_wp2_with (first
      | (go_at_call 15; refine (HC1.out _ HJ5.out).mono ?_; rintro e w6 ⟨h6, h6', hj6⟩; obtain rfl := h6' rfl; have HJ6 := hid hj6; clear hj6 h6 h6')
      | (go_at_call 3; refine (HRn.out.on _).mono ?_; rintro e z1 ⟨rfl, X1, rfl⟩))
    go_ret
    exact ⟨rfl, ((HJ0.out.trans HJ5.out).trans HJ6.out).junk X1⟩

end Go.Proofs.Ytkkbeobocbgmeaa
