/- The law GridTells of chapter 12 answers true: its walk through the Go text, by the contracts of package grid and of the document's own answers. -/
import Derived.Test.YtkkbeobocbgmeaaGreatRefTruth
import Derived.Test.YtkkbeobocbgmeaaGreatHeldQ
import Derived.Test.YtkkbeobocbgmeaaGreatBookW
import Derived.Test.YtkkbeobocbgmeaaGreatLawGridRuns
namespace Go.Proofs.YtkkbeobocbgmeaaGreat
open Go.RowKit M

theorem BxB.putLo {w : World} {h : Nat} {x : Bx} (H : BxB w h x) {j : Nat} (hj : j < 5) (y : Int) : BxB (w.setCell ⟨h, j * 2, none⟩ (.int .i64 y)) h (x.put (j : Int) ⟨y, (x.at (j : Int)).hi⟩) := by
  match j, hj with
  | 0, _ => exact heap_setCell_same _ _ _ _ _ _ H
  | 1, _ => exact heap_setCell_same _ _ _ _ _ _ H
  | 2, _ => exact heap_setCell_same _ _ _ _ _ _ H
  | 3, _ => exact heap_setCell_same _ _ _ _ _ _ H
  | 4, _ => exact heap_setCell_same _ _ _ _ _ _ H
  | j + 5, hj => omega
theorem SmB.put {b : Bx} (h : SmB b) {j : Nat} (hj : j < 5) {s : Sp} (hs : SmS s) : SmB (b.put (j : Int) s) := by
  obtain ⟨h0, h1, h2, h3, h4⟩ := h
  match j, hj with
  | 0, _ => exact ⟨hs, h1, h2, h3, h4⟩
  | 1, _ => exact ⟨h0, hs, h2, h3, h4⟩
  | 2, _ => exact ⟨h0, h1, hs, h3, h4⟩
  | 3, _ => exact ⟨h0, h1, h2, hs, h4⟩
  | 4, _ => exact ⟨h0, h1, h2, h3, hs⟩
  | j + 5, hj => omega
/-- a slice of numbers that a call made -/
def CuV (Z : List Int) (v : Value) (w : World) : Prop := ∃ a n c, v = .slice a n c ∧ IsI w a n c Z
theorem CuV.jk {Z : List Int} {v : Value} {w w' : World} (h : CuV Z v w) (hj : Jk w w') : CuV Z v w' := by
  obtain ⟨a, n, c, h1, h2⟩ := h
  exact ⟨a, n, c, h1, h2.jk hj⟩
theorem GotXs.tup {w w' : World} {N : Nat} {ok : Bool} {X : Nat → Bx} {e : Ending} (h : GotXs w N ok X e w') (hN : ok = true → N ≤ 400) : ∃ u, e = .returned (.tuple #[u, .bool ok]) ∧ SliX N ok X u w' := by
  cases ok
  · exact ⟨_, h.2.1 rfl, fun e => (by cases e), fun _ => rfl⟩
  · obtain ⟨g, h1, _, h5, h6⟩ := h.1 rfl
    have h4 := hN rfl
    exact ⟨_, h1, fun _ => ⟨g, N, rfl, Nat.le_refl _, by unfold maxLen; omega, h5, h6⟩, fun e => (by cases e)⟩
theorem GotXc.tup2 {w w' : World} {N : Nat} {ok : Bool} {X : Nat → Bx} {e : Ending} (h : GotXc w N ok X e w') : ∃ u, e = .returned (.tuple #[u, .bool ok]) ∧ SliX N ok X u w' := by
  obtain ⟨v, h1, u, h2, h3⟩ := h.tup
  exact ⟨u, h2 ▸ h1, h3⟩
/-- what the operations ahead of the last region's guards yield -/
def TelG (m : Md) (q : Qy) (b : Bx) (place : Int) (Z : List Int) : Nat → Value → World → Prop
  | 0, v, _ => v = modelV m
  | 1, v, _ => v = queryV q
  | 2, v, _ => v = boxW b
  | 3, v, _ => v = .int .i64 place
  | 4, v, w => CuV Z v w
  | 5, v, _ => v = modelV m
  | 6, v, _ => v = queryV q
  | 7, v, _ => v = boxW b
  | 8, v, _ => v = .int .i64 place
  | 9, v, w => CuV Z v w
  | 10, v, _ => v = .bool true
  | _, _, _ => True
theorem TelG.mono {m : Md} {q : Qy} {b : Bx} {place : Int} {Z : List Int} : ∀ k v w w', Jk w w' → TelG m q b place Z k v w → TelG m q b place Z k v w' := fun k v w w' hj h => by
  match k, h with
  | 0, h => exact h
  | 1, h => exact h
  | 2, h => exact h
  | 3, h => exact h
  | 4, h => exact CuV.jk h hj
  | 5, h => exact h
  | 6, h => exact h
  | 7, h => exact h
  | 8, h => exact h
  | 9, h => exact CuV.jk h hj
  | 10, h => exact h
  | k + 11, h => trivial
theorem quiet_loadXrow {ops : Array Oper} {rest : List Oper} {C : World → Prop} {Q : Act → Prop} {a : Act} {o : Oper} {g n i : Nat} {X : Nat → Bx} (hC : ∀ z, C z → BxA z g X n) (hgd : o.guard = none) (y : Operand) (ho : o.op = .load 36 y) (hi : i < n) {c : Bx} (hc : X i = c) (hx : a.eval y = .pointer (some ⟨g, i * 10, none⟩))
    (hh : ∀ K : Act → Prop, (∀ a, wpQuiet Tryz.prog ops C Q rest a → K a) → K (a.put o.dst (boxW c))) : wpQuiet Tryz.prog ops C Q (o :: rest) a := by
  refine wpQuiet_step fun K hK' => ?_
  rw [if_pos (by simp [Region.wanted, hgd])]
  refine ⟨boxW c, fun w hw => ?_, hh K hK'⟩
  unfold Oper.quietAt execOp
  simp only [ho, hx, Instr.loadAt, Instr.sureAddr, Sem.run_bind, Sem.run_pure, Result.andThen_ok, loadX_row (hC w hw) hi, hc]
  exact ⟨rfl, rfl⟩
def AtBx (w : World) (a : Option Addr) (X : Nat → Bx) (n : Nat) : Prop := 0 < n → ∃ g, a = some ⟨g, 0, none⟩ ∧ g < w.heap.size ∧ BxA w g X n
theorem AtBx.jk {w w' : World} {a : Option Addr} {X : Nat → Bx} {n : Nat} (h : AtBx w a X n) (hj : Jk w w') : AtBx w' a X n := fun h0 => by
  obtain ⟨g, h1, h2, h3⟩ := h h0
  exact ⟨g, h1, Nat.lt_of_lt_of_le h2 hj.below.size, h3.jk h2 hj⟩
set_option maxRecDepth 100000 in
set_option maxHeartbeats 1600000 in
theorem same_boxes {a1 a2 : Option Addr} {n c1 c2 : Nat} {X : Nat → Bx} {w : World} (hl : n ≤ 1000) (h1 : AtBx w a1 X n) (h2 : AtBx w a2 X n) :
    AnsW w 16 #[.slice a1 n c1, .slice a2 n c2] (.bool true) := fun w0 hj => by
  have J := rules8
  have H1 := hid (h1.jk hj)
  have H2 := hid (h2.jk hj)
  clear h1 h2 hj
  go_enter Tryz.func16, Tryz.ntmps16
  go_wp2
  go_loopg [5] n (fun k i wr => ∃ j : Nat, j + k = n ∧ i = .int .i64 (j : Int) ∧ Hid (Jk w0 wr))
  case atStart => exact ⟨0, by omega, rfl, hid (Jk.refl _)⟩
  case round =>
    obtain ⟨j, hj, rfl, HW⟩ := hrel
    by_cases hlt : j < n
    · obtain ⟨g1, rfl, hg1, q1⟩ := H1.out (by omega)
      obtain ⟨g2, rfl, hg2, q2⟩ := H2.out (by omega)
      have i0 : (0 : Int) ≤ (j : Int) := by omega
      have i1 : (j : Int) < (n : Int) := by omega
      have Q1 := hid (q1.jk hg1 HW.out)
      have Q2 := hid (q2.jk hg2 HW.out)
      have hgr1 : g1 < wr.heap.size := Nat.lt_of_lt_of_le hg1 HW.out.below.size
      have hgr2 : g2 < wr.heap.size := Nat.lt_of_lt_of_le hg2 HW.out.below.size
      obtain ⟨c, hc⟩ : ∃ c, X j = c := ⟨_, rfl⟩
      have E1 : ∀ w : World, (Op.equalIn 10000 36 (boxV c) (boxV c)).run Tryz.prog w = .ok true w := fun w => by rw [eq_box, Bx.eqB_self]
      simp only [boxV] at E1
      clear q1 q2
      go_upto_region 6 with fail
      refine region_junk (by kernel_rfl) (by kernel_rfl) ?_
      iterate 3 (go_big_quiet_step (exact rfl))
      refine quiet_loadXrow (by rintro _ ⟨Y, rfl⟩; exact Q1.out.jk hgr1 ⟨Y, rfl⟩) rfl _ rfl (i := j) (by omega) hc rfl ?_
      intro K hK
      simp only [Act.put, List.setIfInBounds_toArray, List.set_cons_succ, List.set_cons_zero]
      go_big_quiet_on
      iterate 3 (go_big_quiet_step (exact rfl))
      refine quiet_loadXrow (by rintro _ ⟨Y, rfl⟩; exact Q2.out.jk hgr2 ⟨Y, rfl⟩) rfl _ rfl (i := j) (by omega) hc rfl ?_
      intro K hK
      simp only [Act.put, List.setIfInBounds_toArray, List.set_cons_succ, List.set_cons_zero]
      go_big_quiet_on
      repeat (go_big_quiet_step (exact rfl))
      refine wpQuiet_nil ?_
      rintro _ ⟨Y, rfl⟩
      go_wp2
      go_roundg (gk - 1)
      case measure => omega
      case rel => exact ⟨j + 1, by omega, by go_num, hid (HW.out.junk Y)⟩
    · go_wp2
      go_ret
      exact ⟨rfl, HW.out⟩

set_option maxRecDepth 100000 in
set_option maxHeartbeats 12800000 in
theorem gridTells_walk (f : Fo) (a : Ak) (la : Option Addr) (ln lc : Nat) (zs : List Int) (most place : Int) (w : World) (hf : f.ok w) (ha : a.ok w) (hl : IsI w la ln lc zs) (hmost : (Lit.int .i64 most).wf = true) (hplace : (Lit.int .i64 place).wf = true) : Calls Tryz.prog 3 #[forestV f, askV a, .slice la ln lc, .int .i64 most, .int .i64 place] w fun e w' => e = .returned (.bool true) ∧ Jk w w' := by
  have J := rules8
  have hw1 := bdi hmost
  have hb1 := bdi hplace
  obtain ⟨wv0, hwv0⟩ : ∃ z, w.alloc (.cells #[.int .i64 f.d, .int .i64 f.k, .slice f.ba f.bn f.bc, .slice f.sa f.sn f.sc] 25) = z := ⟨_, rfl⟩
  have hswv0 : wv0.heap.size = w.heap.size + 1 := by rw [← hwv0]; simp
  have HJwv0 : Hid (Jk w wv0) := hwv0 ▸ (Jk.refl w).alloc _
  have HB0wv0 : Hid (FoIn wv0 w.heap.size f) := hwv0 ▸ FoIn.laid w f _
  obtain ⟨w0, hw0⟩ : ∃ z, wv0.alloc (.cells #[.int .i64 a.kd, .int .i64 a.cl, .int .i64 a.lo, .int .i64 a.sz, .int .i64 a.f, .int .i64 a.bu, .bool a.fa, .slice a.sa a.sn a.sc] 27) = z := ⟨_, rfl⟩
  have hsw0 : w0.heap.size = w.heap.size + 1 + 1 := by rw [← hw0]; simp [hswv0]
  have HJw0 : Hid (Jk w w0) := HJwv0.out.trans (hw0 ▸ (Jk.refl wv0).alloc _)
  have HB1w0 : Hid (AkIn w0 (w.heap.size + 1) a) := hswv0 ▸ hw0 ▸ AkIn.laid wv0 a _
  have HB0w0 : Hid (FoIn w0 w.heap.size f) := HB0wv0.out.jk (hw0 ▸ (Jk.refl wv0).alloc _)
  clear HB0wv0
  have HM : Hid (Calls Tryz.prog 4 #[forestV f] w0 fun e w' => GotM w0 e w') := model_any f w0 (hf.jk HJw0.out)
  have ha0 := hid (ha.jk HJw0.out)
  have HAk : Hid (∀ m : Md, RightM m → AnsW w0 5 #[askV a, modelV m] (queryV (queryI a m.d m.k))) := fun m hr => ask_ans ha0.out hr.d1 hr.d4 hr.k1 hr.k3
  have HRn : Hid (Ans 17 #[] (.bool true)) := fun w' => gridRuns_walk w'
  have HLs := hid hl
  obtain ⟨fi0, fi1, fi2, fi3, fi4⟩ := HB0w0.out
  clear hf ha ha0 hl
  obtain ⟨d, k, ba, bn, bc, bz, sa, sn, sc, ss⟩ := f
  simp only [forestV] at *
  go_enter Tryz.func3, Tryz.ntmps3
  go_upto_region 1 with fail
  go_cut [11] (fun v wc => ∃ w1 h m, v = .pointer (some ⟨h, 0, none⟩) ∧ Made w0 w1 wc h m)
  case first =>
    go_wp2_with (first | (go_at_call 4; refine HM.out.mono ?_; rintro e w1 ⟨m, rfl, hr, h3, h4, hfr, hj⟩; have HMd := hid (GotM.made hr h3 h4 hfr hj); clear hr h3 h4 hfr hj))
    go_meet
    case rel => exact ⟨w1, _, m, rfl, HMd.out⟩
  case rest =>
  obtain ⟨w1, h, m, rfl, hMd⟩ := hcut
  obtain ⟨w2, rfl⟩ : ∃ z, z = wc := ⟨_, rfl⟩
  have HMd := hid hMd
  have HJ2 : Hid (Jk w0 w2) := hMd.2.2.2.2.2.2.1.trans hMd.2.2.2.2.2.2.2
  clear hMd fi0 fi1 fi2 fi3 fi4
  go_upto_region 2 with fail
  go_cut [12] (fun v wc => ∃ g q, v = .pointer (some ⟨g, 0, none⟩) ∧ q = queryI a m.d m.k ∧ MadeQ w0 w1 wc h g m q)
  case first =>
    refine wp_region_lit ?_
    obtain ⟨al, a0, a1, a2, a3, a4, a5, a6, a7⟩ := HB1w0.out.jk HJ2.out
    refine wpList_one rfl fun K hK => ?_
    go_simp
    refine hK _ _ ?_
    clear hK K
    refine listw_loadM rfl _ rfl HMd.out.1 rfl ?_
    simp only [Act.put, List.setIfInBounds_toArray, List.set_cons_succ, List.set_cons_zero]
    refine wpList_one rfl fun K hK => ?_
    go_simp
    go_at_call 5
    refine ((HAk.out m HMd.out.2.2.1).on _ HJ2.out).mono ?_
    rintro e w3 ⟨rfl, hj3⟩
    have HJ3 := hid hj3
    clear hj3
    go_simp
    refine hK _ _ ?_
    clear hK K
    go_wp2
    go_meet
    case rel => exact ⟨_, queryI a m.d m.k, rfl, rfl, HMd.out.q (HJ3.out.trans ((Jk.refl _).alloc _)) (QyB.laid w3 (queryI a m.d m.k)) HJ3.out.below.size⟩
  case rest =>
  obtain ⟨g, q, rfl, hq, hMq⟩ := hcut
  obtain ⟨w4, rfl⟩ : ∃ z, z = wc := ⟨_, rfl⟩
  have hrq : RightQ m q := hq ▸ query_right a hMq.mr
  have hsm := start_small hrq
  have hful := start_full hrq
  have HSt : Hid (Ans 6 #[queryV q] (boxW (startI q))) := hid (start_ans q)
  obtain ⟨k, hk⟩ : ∃ k, withinI most 0 400 = k := ⟨_, rfl⟩
  have hkb := within_bd most 0 400 (by omega)
  rw [hk] at hkb
  have HWk := hid (within_is hk hw1.1 hw1.2 (by omega) (by omega) (by omega))
  have HCs : Hid (∀ (b : Bx), b.ok → ∀ (N : Nat) (X : Nat → Bx) (ok : Bool), cntX (cutsI m q b) = N → cellX b (cutsI m q b) = X → decide ((N : Int) ≤ k) = ok → ∀ w', Jk w1 w' → Calls Tryz.prog 8 #[modelV m, queryV q, boxV b, .int .i64 k] w' fun e w'' => GotXs w' N ok X e w'') := hid fun b hb N X ok hN hX hok w' hj => cells_any q b k hMq.ok hMq.mr hb (by omega) hN hX hok w' hj
  have HRc : Hid (∀ (b : Bx) (N : Nat) (X : Nat → Bx) (ok : Bool), cntX (cutsI m q b) = N → cellX b (cutsI m q b) = X → decide ((N : Int) ≤ k) = ok → ∀ w', Jk w1 w' → Calls Tryz.prog 9 #[modelV m, queryV q, boxV b, .int .i64 k] w' fun e w'' => GotXc w' N ok X e w'') := hid fun b N X ok hN hX hok w' hj => rcells_any q b k hMq.ok hMq.mr (by omega) hN hX hok w' hj
  have HCn : Hid (∀ (b : Bx) (N : Nat) (c : Int) (ok : Bool), cntX (cutsI m q b) = N → (if (N : Int) ≤ k then (N : Int) else 0) = c → decide ((N : Int) ≤ k) = ok → AnsW w1 10 #[modelV m, queryV q, boxV b, .int .i64 k] (.tuple #[.int .i64 c, .bool ok])) := hid fun b N c ok hN hc hok => count_yes q b k hMq.ok hMq.mr hN hc hok
  have HCu : Hid (∀ (b : Bx) (Z : List Int), cutsI m q b place = Z → AnsZ w1 14 #[modelV m, queryV q, boxV b, .int .i64 place] Z) := hid fun b Z h => cuts_ans q b place hMq.ok hMq.mr h
  have HRu : Hid (∀ (b : Bx) (Z : List Int), cutsI m q b place = Z → AnsZ w1 15 #[modelV m, queryV q, boxV b, .int .i64 place] Z) := hid fun b Z h => rcuts_ans q b place hMq.ok hMq.mr h
  have HZl : Hid (∀ b : Bx, (cutsI m q b place).length ≤ 248) := hid fun b => cutsI_len hMq.mr q b place
  obtain ⟨Hb, hHb⟩ := cells_bool m q
  obtain ⟨y1, hy1⟩ : ∃ y, decide ((cntX (cutsI m q (startI q)) : Int) ≤ k) = y := ⟨_, rfl⟩
  obtain ⟨x1, hx1⟩ : ∃ x, (y1 && Hb) = x := ⟨_, rfl⟩
  have HHo : Hid (AnsW w1 11 #[modelV m, queryV q, .int .i64 k] (.tuple #[.bool x1, .bool y1])) := hid (holds_ans q k hMq.ok hMq.mr hsm.ok hHb rfl (by rw [hy1, hx1]) hy1)
  have HTr : Hid (AnsW w1 12 #[modelV m, queryV q, .int .i64 k] (.tuple #[.bool x1, .bool y1])) := hid (rtruth_ans q k hMq.ok hMq.mr (by omega) hHb rfl (by rw [hy1, hx1]) hy1)
  have HMq := hid hMq
  have HJ0 := hid (HJw0.out.trans hMq.j0)
  have HJw := hid hMq.j1
  have hcap := HLs.out.cap
  have hmax := HLs.out.max
  unfold maxLen at hmax
  have HL1 := hid (HLs.out.jk HJ0.out)
  clear hq hMq hrq HMd HAk HB1w0 HJ2 HLs hHb hx1 hy1 hk
  obtain ⟨b0, hb⟩ : ∃ b, startI q = b := ⟨_, rfl⟩
  rw [hb] at HSt hsm
  clear hb hful
  go_upto_region 3 with fail
  go_cut [13] (fun p wc => ∃ gb, p = .pointer (some ⟨gb, 0, none⟩) ∧ w4.heap.size ≤ gb ∧ BxB wc gb b0 ∧ Jk w4 wc)
  case first =>
    refine wp_region_lit ?_
    refine list_loadQ rfl _ rfl HMq.out.qb rfl ?_
    go_wp2_with (first | (go_at_call 6; refine (HSt.out.on _).mono ?_; rintro e z1 ⟨rfl, X1, rfl⟩))
    go_meet
    case rel => exact ⟨_, rfl, Nat.le_add_right _ _, by have := BxB.laid (junk w4 X1) b0; rwa [junk_size] at this, ((Jk.refl w4).junk X1).alloc _⟩
  case rest =>
  obtain ⟨gb, rfl, hgb, hB, hj⟩ := hcut
  obtain ⟨w5, rfl⟩ : ∃ z, z = wc := ⟨_, rfl⟩
  have HB5 := hid hB
  have HJ5 := hid hj
  have HSm := hid hsm
  have HGb := hid hgb
  clear hB hj HSt hsm hgb
  obtain ⟨KK, hKK⟩ : ∃ K, min ln 5 = K := ⟨_, rfl⟩
  go_upto_region 5 with fail
  go_loopg [14] KK (fun r i wr => ∃ (j : Nat) (b : Bx), j + r = KK ∧ i = .int .i64 (j : Int) ∧ Hid (BxB wr gb b) ∧ Hid (SmB b) ∧ Hid (Jk w4 wr))
  case atStart => exact ⟨0, b0, by omega, rfl, HB5, HSm, HJ5⟩
  case round =>
    obtain ⟨j, b, hj, rfl, HB, HSb, HJ⟩ := hrel
    clear HB5 HJ5 HSm
    by_cases hfuel : gk = 0
    · subst hfuel
      obtain rfl : j = KK := by omega
      have hend : (j : Int) = (ln : Int) ∨ ((j : Int) < (ln : Int) ∧ (j : Int) = 5) := by omega
      obtain ⟨N, hN⟩ : ∃ N, cntX (cutsI m q b) = N := ⟨_, rfl⟩
      obtain ⟨X, hX⟩ : ∃ X, cellX b (cutsI m q b) = X := ⟨_, rfl⟩
      obtain ⟨ok, hok⟩ : ∃ ok, decide ((N : Int) ≤ k) = ok := ⟨_, rfl⟩
      obtain ⟨cc, hcc⟩ : ∃ c, (if (N : Int) ≤ k then (N : Int) else 0) = c := ⟨_, rfl⟩
      obtain ⟨Z, hZ⟩ : ∃ Z, cutsI m q b place = Z := ⟨_, rfl⟩
      have hZ8 := HZl.out b
      have HC1 := hid (HCs.out b HSb.out.ok N X ok hN hX hok)
      have HR1 := hid (HRc.out b N X ok hN hX hok)
      have HN1 := hid (HCn.out b N cc ok hN hcc hok)
      have HU1 := hid (HCu.out b Z hZ)
      have HV1 := hid (HRu.out b Z hZ)
      have HOt : Hid (ok = true → cc = (N : Int) ∧ N ≤ 400) := hid fun e => by
        rw [e] at hok
        have h1 : (N : Int) ≤ k := by simpa using hok
        exact ⟨by rw [← hcc, if_pos h1], by omega⟩
      have HOf : Hid (ok = false → cc = 0) := hid fun e => by
        rw [e] at hok
        have h1 : ¬ (N : Int) ≤ k := by simpa using hok
        rw [← hcc, if_neg h1]
      rw [hZ] at hZ8
      simp only [boxV] at HC1 HR1 HN1 HU1 HV1
      have HB7 := HB
      have HM7 := hid (HMq.out.mb.jk HJ.out)
      have HQ7 := hid (HMq.out.qb.jk HJ.out)
      have HJ7 := hid (HJw.out.trans HJ.out)
      clear HCs HRc HCn HCu HRu HZl hN hX hok hcc hZ HSb HMq HJw HL1 hj hKK hcap hmax HB HJ HGb
      obtain ⟨wr, rfl⟩ : ∃ z, z = wr := ⟨_, rfl⟩
      go_upto_region 5 with fail
      go_cut [40] (fun v wc => v = .bool false ∧ wr = wc)
      case first =>
        rcases hend with h | ⟨h, h'⟩
        · have hn : ¬ (j : Int) < (ln : Int) := by omega
          clear h
          go_wp2
          go_meet
          case rel => exact ⟨rfl, rfl⟩
        · have hn : ¬ (j : Int) < 5 := by omega
          clear h'
          go_wp2
          go_meet
          case rel => exact ⟨rfl, rfl⟩
      case rest =>
      obtain ⟨rfl, rfl⟩ := hcut
      clear hend
      go_upto_region 10 with (go_at_call 7; refine (HWk.out.on _).mono ?_; rintro e z1 ⟨rfl, X1, rfl⟩)
      have HJa : Hid (Jk wr (junk wr X1)) := ⟨X1, rfl⟩
      generalize junk wr X1 = wa at HJa ⊢
      clear HWk
      refine wp_region_lit ?_
      refine list_loadM rfl _ rfl (HM7.out.jk HJa.out) rfl ?_
      refine list_loadQ rfl _ rfl (HQ7.out.jk HJa.out) rfl ?_
      refine list_loadX rfl _ rfl (HB7.out.jk HJa.out) rfl ?_
      go_upto_region 11 with (go_at_call 8; refine (HC1.out _ (HJ7.out.trans HJa.out)).mono ?_; rintro e w8 h8; obtain ⟨u1, rfl, hs1⟩ := h8.tup (fun e => (HOt.out e).2); have HS1 := hid hs1; have HJb := hid (HJa.out.trans h8.2.2); clear h8 hs1)
      refine wp_region_lit ?_
      refine list_loadM rfl _ rfl (HM7.out.jk HJb.out) rfl ?_
      refine list_loadQ rfl _ rfl (HQ7.out.jk HJb.out) rfl ?_
      refine list_loadX rfl _ rfl (HB7.out.jk HJb.out) rfl ?_
      go_upto_region 12 with (go_at_call 9; refine (HR1.out _ (HJ7.out.trans HJb.out)).mono ?_; rintro e w9 h9; obtain ⟨u2, rfl, hs2⟩ := h9.tup2; have HS2 := hid hs2; have HS1b := hid (HS1.out.jk h9.2.2); have HJc := hid (HJb.out.trans h9.2.2); clear h9 hs2)
      refine wp_region_lit ?_
      refine list_loadM rfl _ rfl (HM7.out.jk HJc.out) rfl ?_
      refine list_loadQ rfl _ rfl (HQ7.out.jk HJc.out) rfl ?_
      refine list_loadX rfl _ rfl (HB7.out.jk HJc.out) rfl ?_
      go_upto_region 13 with (go_at_call 10; refine (HN1.out.on _ (HJ7.out.trans HJc.out)).mono ?_; rintro e w10 ⟨rfl, hj10⟩; have HJ10 := hid hj10; clear hj10)
      have HJd := hid (HJc.out.trans HJ10.out)
      refine wp_region_lit ?_
      refine list_loadM rfl _ rfl (HM7.out.jk HJd.out) rfl ?_
      refine list_loadQ rfl _ rfl (HQ7.out.jk HJd.out) rfl ?_
      go_upto_region 14 with (go_at_call 11; refine (HHo.out.on _ (HJ7.out.trans HJd.out)).mono ?_; rintro e w11 ⟨rfl, hj11⟩; have HJ11 := hid hj11; clear hj11)
      have HJe := hid (HJd.out.trans HJ11.out)
      refine wp_region_lit ?_
      refine list_loadM rfl _ rfl (HM7.out.jk HJe.out) rfl ?_
      refine list_loadQ rfl _ rfl (HQ7.out.jk HJe.out) rfl ?_
      go_upto_region 15 with (go_at_call 12; refine (HTr.out.on _ (HJ7.out.trans HJe.out)).mono ?_; rintro e w12 ⟨rfl, hj12⟩; have HJ12b := hid hj12; clear hj12)
      have HJf := hid (HJe.out.trans HJ12b.out)
      have HM12 := hid (HM7.out.jk HJf.out)
      have HQ12 := hid (HQ7.out.jk HJf.out)
      have HB12 := hid (HB7.out.jk HJf.out)
      have HJ12 := hid (HJ7.out.trans HJf.out)
      have HS1c := hid (HS1b.out.jk ((HJ10.out.trans HJ11.out).trans HJ12b.out))
      have HS2c := hid (HS2.out.jk ((HJ10.out.trans HJ11.out).trans HJ12b.out))
      have hx11 : (x1 == x1) = true := by simp
      have hy11 : (y1 == y1) = true := by simp
      clear HC1 HR1 HN1 HHo HTr HM7 HQ7 HB7 HJ7 HJa HJb HJc HJd HJe HJf HJ10 HJ11 HJ12b HS1 HS1b HS2
      cases ok
      · obtain rfl := HS1c.out.2 rfl
        obtain rfl := HS2c.out.2 rfl
        obtain rfl : cc = 0 := HOf.out rfl
        have HSx := hid (same_boxes (w := w12) (X := X) (c1 := 0) (c2 := 0) (n := 0) (a1 := none) (a2 := none) (by omega) (fun h => absurd h (Nat.lt_irrefl 0)) (fun h => absurd h (Nat.lt_irrefl 0)))
        refine region_goodQ 11 (fun k => [_, _, _, _, _, _, _, _, _, _, _].getD k undef) (fun x => ⟨#[_, _, _, _, _, _, _, _, _, _, _, _, _, _, _, _, _, _, _, _, _, _, _, _, _, _, _, _, _, _, _, _, _, _, _, _, _, _, _, _, _, _, _, _, _, _, _, _, _, _, _, _, _, _, _, _, _, _, _, _, _, _, _, _, _, _, _, _, _, _, _, _, _, _, _, _, _, _, _, _, _, _, _, _, _, _, _, _, _, _, _, _, _, _, _, _, _, _, _, _, _, _, _, _, _, _, _, _, x 0, x 1, x 2, x 3, x 4, x 5, x 6, x 7, x 8, x 9, x 10, _, _, _, _, _, _, _, _, _, _, _, _, _, _, _, _, _, _, _, _, _, _, _, _, _, _, _, _, _, _, _, _, _, _, _, _, _, _, _, _, _, _, _, _, _], []⟩) (Jk w12) Jk (TelG m q b place Z) (by kernel_rfl) (by kernel_rfl) (Jk.refl w12).drew TelG.mono ?_ ?_
        · intro i o' ho hi x w' hC hd L hK
          match i, ho with
          | 0, _ =>
            simp at hi
            subst hi
            refine wp_load_row 31 _ rfl h rfl _ _ _ _ (HM12.out.jk hC) Tryz.underlying31 rfl (by kernel_rfl) ?_
            simp only [Act.put, List.setIfInBounds_toArray, List.set_cons_succ, List.set_cons_zero]
            exact hK _ _ hC (Jk.refl _) rfl
          | 1, _ =>
            simp at hi
            subst hi
            refine wp_load_row 38 _ rfl g rfl _ _ _ _ (HQ12.out.jk hC) Tryz.underlying38 rfl (by kernel_rfl) ?_
            simp only [Act.put, List.setIfInBounds_toArray, List.set_cons_succ, List.set_cons_zero]
            exact hK _ _ hC (Jk.refl _) rfl
          | 2, _ =>
            simp at hi
            subst hi
            refine wp_load_row 36 _ rfl gb rfl _ _ _ _ (HB12.out.jk hC) Tryz.underlying36 rfl (by kernel_rfl) ?_
            simp only [Act.put, List.setIfInBounds_toArray, List.set_cons_succ, List.set_cons_zero]
            exact hK _ _ hC (Jk.refl _) rfl
          | 3, _ =>
            simp at hi
            subst hi
            go_simp
            exact hK _ _ hC (Jk.refl _) rfl
          | 4, _ =>
            simp at hi
            subst hi
            have e0 : x 0 = modelV m := hd 0 (by kernel_rfl)
            have e1 : x 1 = queryV q := hd 1 (by kernel_rfl)
            have e2 : x 2 = boxW b := hd 2 (by kernel_rfl)
            have e3 : x 3 = .int .i64 place := hd 3 (by kernel_rfl)
            obtain ⟨x, rfl⟩ := upd_know e0
            obtain ⟨x, rfl⟩ := upd_know (show x 1 = queryV q from by simpa [upd] using e1)
            obtain ⟨x, rfl⟩ := upd_know (show x 2 = boxW b from by simpa [upd] using e2)
            obtain ⟨x, rfl⟩ := upd_know (show x 3 = .int .i64 place from by simpa [upd] using e3)
            simp only [upd, reduceIte, Nat.reduceEqDiff]
            go_simp
            go_at_call 14
            refine (HU1.out.on _ (HJ12.out.trans hC)).mono ?_
            rintro e z ⟨za, zn, zc, rfl, hz, hzf, hjz⟩
            go_simp
            exact hK _ _ (hC.trans hjz) hjz ⟨za, zn, zc, rfl, hz⟩
          | 5, _ =>
            simp at hi
            subst hi
            refine wp_load_row 31 _ rfl h rfl _ _ _ _ (HM12.out.jk hC) Tryz.underlying31 rfl (by kernel_rfl) ?_
            simp only [Act.put, List.setIfInBounds_toArray, List.set_cons_succ, List.set_cons_zero]
            exact hK _ _ hC (Jk.refl _) rfl
          | 6, _ =>
            simp at hi
            subst hi
            refine wp_load_row 38 _ rfl g rfl _ _ _ _ (HQ12.out.jk hC) Tryz.underlying38 rfl (by kernel_rfl) ?_
            simp only [Act.put, List.setIfInBounds_toArray, List.set_cons_succ, List.set_cons_zero]
            exact hK _ _ hC (Jk.refl _) rfl
          | 7, _ =>
            simp at hi
            subst hi
            refine wp_load_row 36 _ rfl gb rfl _ _ _ _ (HB12.out.jk hC) Tryz.underlying36 rfl (by kernel_rfl) ?_
            simp only [Act.put, List.setIfInBounds_toArray, List.set_cons_succ, List.set_cons_zero]
            exact hK _ _ hC (Jk.refl _) rfl
          | 8, _ =>
            simp at hi
            subst hi
            go_simp
            exact hK _ _ hC (Jk.refl _) rfl
          | 9, _ =>
            simp at hi
            subst hi
            have e0 : x 5 = modelV m := hd 5 (by kernel_rfl)
            have e1 : x 6 = queryV q := hd 6 (by kernel_rfl)
            have e2 : x 7 = boxW b := hd 7 (by kernel_rfl)
            have e3 : x 8 = .int .i64 place := hd 8 (by kernel_rfl)
            obtain ⟨x, rfl⟩ := upd_know e0
            obtain ⟨x, rfl⟩ := upd_know (show x 6 = queryV q from by simpa [upd] using e1)
            obtain ⟨x, rfl⟩ := upd_know (show x 7 = boxW b from by simpa [upd] using e2)
            obtain ⟨x, rfl⟩ := upd_know (show x 8 = .int .i64 place from by simpa [upd] using e3)
            simp only [upd, reduceIte, Nat.reduceEqDiff]
            go_simp
            go_at_call 15
            refine (HV1.out.on _ (HJ12.out.trans hC)).mono ?_
            rintro e z ⟨za, zn, zc, rfl, hz, hzf, hjz⟩
            go_simp
            exact hK _ _ (hC.trans hjz) hjz ⟨za, zn, zc, rfl, hz⟩
          | 10, _ =>
            simp at hi
            subst hi
            obtain ⟨a4, n4, c4, e4, h4⟩ : CuV Z (x 4) w' := hd 4 (by kernel_rfl)
            obtain ⟨a9, n9, c9, e9, h9⟩ : CuV Z (x 9) w' := hd 9 (by kernel_rfl)
            obtain rfl : n4 = n9 := h4.len.symm.trans h9.len
            have HSi := hid (same_ints (w := w') (c1 := c4) (c2 := c9) h4.len (by have := h4.len; omega) (fun h0 => h4.lies (by rw [← h4.len]; exact h0)) (fun h0 => h9.lies (by rw [← h9.len]; exact h0)))
            obtain ⟨x, rfl⟩ := upd_know e4
            obtain ⟨x, rfl⟩ := upd_know (show x 9 = .slice a9 n4 c9 from by simpa [upd] using e9)
            simp only [upd, reduceIte, Nat.reduceEqDiff]
            clear h4 h9
            go_simp
            go_at_call 13
            refine (HSi.out.on _ (Jk.refl _)).mono ?_
            rintro e z ⟨rfl, hjz⟩
            go_simp
            exact hK _ _ (hC.trans hjz) hjz rfl
          | i + 11, ho => omega
        · intro x w' hC hG
          have h10 : x 10 = .bool true := hG 10 (by decide)
          obtain ⟨x, rfl⟩ := upd_know h10
          simp only [upd, reduceIte, Nat.reduceEqDiff]
          dsimp only [List.drop]
          have HSX := hid (HSx.out.up hC)
          have HRn2 := HRn
          iterate 19 (go_big_quiet_step (first | (go_at_call 16; exact AnsW.junk (by with_reducible exact HSX.out) _) | exact rfl))
          refine WQ.out ?_
          iterate 4 (refine WQ.skip (by kernel_rfl) ?_; simp only [Act.put, List.setIfInBounds_toArray, List.set_cons_succ, List.set_cons_zero])
          refine ⟨?_⟩
          repeat (go_big_quiet_step (first | (go_at_call 17; exact on_junk HRn2.out _) | exact rfl))
          refine wpQuiet_nil ?_
          rintro _ ⟨Y, rfl⟩
          go_wp2
          go_ret
          exact ⟨rfl, (HJ0.out.trans (HJ12.out.trans hC)).junk Y⟩
      · obtain ⟨g1, c1, rfl, hca1, hcb1, hg1, hx1⟩ := HS1c.out.1 rfl
        obtain ⟨g2, c2, rfl, hca2, hcb2, hg2, hx2⟩ := HS2c.out.1 rfl
        obtain ⟨rfl, hN4⟩ := HOt.out rfl
        have HSx := hid (same_boxes (w := w12) (X := X) (c1 := c1) (c2 := c2) (n := N) (by omega) (fun _ => ⟨g1, rfl, hg1, hx1⟩) (fun _ => ⟨g2, rfl, hg2, hx2⟩))
        have hNN : ((N : Int) == (N : Int)) = true := by simp
        clear hx1 hx2
        refine region_goodQ 11 (fun k => [_, _, _, _, _, _, _, _, _, _, _].getD k undef) (fun x => ⟨#[_, _, _, _, _, _, _, _, _, _, _, _, _, _, _, _, _, _, _, _, _, _, _, _, _, _, _, _, _, _, _, _, _, _, _, _, _, _, _, _, _, _, _, _, _, _, _, _, _, _, _, _, _, _, _, _, _, _, _, _, _, _, _, _, _, _, _, _, _, _, _, _, _, _, _, _, _, _, _, _, _, _, _, _, _, _, _, _, _, _, _, _, _, _, _, _, _, _, _, _, _, _, _, _, _, _, _, _, x 0, x 1, x 2, x 3, x 4, x 5, x 6, x 7, x 8, x 9, x 10, _, _, _, _, _, _, _, _, _, _, _, _, _, _, _, _, _, _, _, _, _, _, _, _, _, _, _, _, _, _, _, _, _, _, _, _, _, _, _, _, _, _, _, _, _], []⟩) (Jk w12) Jk (TelG m q b place Z) (by kernel_rfl) (by kernel_rfl) (Jk.refl w12).drew TelG.mono ?_ ?_
        · intro i o' ho hi x w' hC hd L hK
          match i, ho with
          | 0, _ =>
            simp at hi
            subst hi
            refine wp_load_row 31 _ rfl h rfl _ _ _ _ (HM12.out.jk hC) Tryz.underlying31 rfl (by kernel_rfl) ?_
            simp only [Act.put, List.setIfInBounds_toArray, List.set_cons_succ, List.set_cons_zero]
            exact hK _ _ hC (Jk.refl _) rfl
          | 1, _ =>
            simp at hi
            subst hi
            refine wp_load_row 38 _ rfl g rfl _ _ _ _ (HQ12.out.jk hC) Tryz.underlying38 rfl (by kernel_rfl) ?_
            simp only [Act.put, List.setIfInBounds_toArray, List.set_cons_succ, List.set_cons_zero]
            exact hK _ _ hC (Jk.refl _) rfl
          | 2, _ =>
            simp at hi
            subst hi
            refine wp_load_row 36 _ rfl gb rfl _ _ _ _ (HB12.out.jk hC) Tryz.underlying36 rfl (by kernel_rfl) ?_
            simp only [Act.put, List.setIfInBounds_toArray, List.set_cons_succ, List.set_cons_zero]
            exact hK _ _ hC (Jk.refl _) rfl
          | 3, _ =>
            simp at hi
            subst hi
            go_simp
            exact hK _ _ hC (Jk.refl _) rfl
          | 4, _ =>
            simp at hi
            subst hi
            have e0 : x 0 = modelV m := hd 0 (by kernel_rfl)
            have e1 : x 1 = queryV q := hd 1 (by kernel_rfl)
            have e2 : x 2 = boxW b := hd 2 (by kernel_rfl)
            have e3 : x 3 = .int .i64 place := hd 3 (by kernel_rfl)
            obtain ⟨x, rfl⟩ := upd_know e0
            obtain ⟨x, rfl⟩ := upd_know (show x 1 = queryV q from by simpa [upd] using e1)
            obtain ⟨x, rfl⟩ := upd_know (show x 2 = boxW b from by simpa [upd] using e2)
            obtain ⟨x, rfl⟩ := upd_know (show x 3 = .int .i64 place from by simpa [upd] using e3)
            simp only [upd, reduceIte, Nat.reduceEqDiff]
            go_simp
            go_at_call 14
            refine (HU1.out.on _ (HJ12.out.trans hC)).mono ?_
            rintro e z ⟨za, zn, zc, rfl, hz, hzf, hjz⟩
            go_simp
            exact hK _ _ (hC.trans hjz) hjz ⟨za, zn, zc, rfl, hz⟩
          | 5, _ =>
            simp at hi
            subst hi
            refine wp_load_row 31 _ rfl h rfl _ _ _ _ (HM12.out.jk hC) Tryz.underlying31 rfl (by kernel_rfl) ?_
            simp only [Act.put, List.setIfInBounds_toArray, List.set_cons_succ, List.set_cons_zero]
            exact hK _ _ hC (Jk.refl _) rfl
          | 6, _ =>
            simp at hi
            subst hi
            refine wp_load_row 38 _ rfl g rfl _ _ _ _ (HQ12.out.jk hC) Tryz.underlying38 rfl (by kernel_rfl) ?_
            simp only [Act.put, List.setIfInBounds_toArray, List.set_cons_succ, List.set_cons_zero]
            exact hK _ _ hC (Jk.refl _) rfl
          | 7, _ =>
            simp at hi
            subst hi
            refine wp_load_row 36 _ rfl gb rfl _ _ _ _ (HB12.out.jk hC) Tryz.underlying36 rfl (by kernel_rfl) ?_
            simp only [Act.put, List.setIfInBounds_toArray, List.set_cons_succ, List.set_cons_zero]
            exact hK _ _ hC (Jk.refl _) rfl
          | 8, _ =>
            simp at hi
            subst hi
            go_simp
            exact hK _ _ hC (Jk.refl _) rfl
          | 9, _ =>
            simp at hi
            subst hi
            have e0 : x 5 = modelV m := hd 5 (by kernel_rfl)
            have e1 : x 6 = queryV q := hd 6 (by kernel_rfl)
            have e2 : x 7 = boxW b := hd 7 (by kernel_rfl)
            have e3 : x 8 = .int .i64 place := hd 8 (by kernel_rfl)
            obtain ⟨x, rfl⟩ := upd_know e0
            obtain ⟨x, rfl⟩ := upd_know (show x 6 = queryV q from by simpa [upd] using e1)
            obtain ⟨x, rfl⟩ := upd_know (show x 7 = boxW b from by simpa [upd] using e2)
            obtain ⟨x, rfl⟩ := upd_know (show x 8 = .int .i64 place from by simpa [upd] using e3)
            simp only [upd, reduceIte, Nat.reduceEqDiff]
            go_simp
            go_at_call 15
            refine (HV1.out.on _ (HJ12.out.trans hC)).mono ?_
            rintro e z ⟨za, zn, zc, rfl, hz, hzf, hjz⟩
            go_simp
            exact hK _ _ (hC.trans hjz) hjz ⟨za, zn, zc, rfl, hz⟩
          | 10, _ =>
            simp at hi
            subst hi
            obtain ⟨a4, n4, c4, e4, h4⟩ : CuV Z (x 4) w' := hd 4 (by kernel_rfl)
            obtain ⟨a9, n9, c9, e9, h9⟩ : CuV Z (x 9) w' := hd 9 (by kernel_rfl)
            obtain rfl : n4 = n9 := h4.len.symm.trans h9.len
            have HSi := hid (same_ints (w := w') (c1 := c4) (c2 := c9) h4.len (by have := h4.len; omega) (fun h0 => h4.lies (by rw [← h4.len]; exact h0)) (fun h0 => h9.lies (by rw [← h9.len]; exact h0)))
            obtain ⟨x, rfl⟩ := upd_know e4
            obtain ⟨x, rfl⟩ := upd_know (show x 9 = .slice a9 n4 c9 from by simpa [upd] using e9)
            simp only [upd, reduceIte, Nat.reduceEqDiff]
            clear h4 h9
            go_simp
            go_at_call 13
            refine (HSi.out.on _ (Jk.refl _)).mono ?_
            rintro e z ⟨rfl, hjz⟩
            go_simp
            exact hK _ _ (hC.trans hjz) hjz rfl
          | i + 11, ho => omega
        · intro x w' hC hG
          have h10 : x 10 = .bool true := hG 10 (by decide)
          obtain ⟨x, rfl⟩ := upd_know h10
          simp only [upd, reduceIte, Nat.reduceEqDiff]
          dsimp only [List.drop]
          have HSX := hid (HSx.out.up hC)
          have HRn2 := HRn
          iterate 28 (go_big_quiet_step (first | (go_at_call 16; exact AnsW.junk (by with_reducible exact HSX.out) _) | exact rfl))
          refine WQ.out ?_
          iterate 2 (refine WQ.skip (by kernel_rfl) ?_; simp only [Act.put, List.setIfInBounds_toArray, List.set_cons_succ, List.set_cons_zero])
          refine ⟨?_⟩
          repeat (go_big_quiet_step (first | (go_at_call 17; exact on_junk HRn2.out _) | exact rfl))
          refine wpQuiet_nil ?_
          rintro _ ⟨Y, rfl⟩
          go_wp2
          go_ret
          exact ⟨rfl, (HJ0.out.trans (HJ12.out.trans hC)).junk Y⟩
    · obtain ⟨r, rfl⟩ : ∃ r, gk = r + 1 := ⟨gk - 1, by omega⟩
      have hjn : (j : Int) < (ln : Int) := by omega
      have hj5 : (j : Int) < 5 := by omega
      have hj0 : (0 : Int) ≤ (j : Int) := by omega
      obtain ⟨k1, k2⟩ := HB.out.cellAt (j := j) (by omega)
      have kl := HB.out.lt
      obtain ⟨gl, ol, rfl, hgl, hat⟩ := HL1.out.lies (by omega)
      have hjw : Jk w1 wr := HJw.out.trans HJ.out
      have kc := hat j (by rw [HL1.out.len]; omega)
      have hgl2 : gl < wr.heap.size := Nat.lt_of_lt_of_le hgl hjw.below.size
      rw [← hjw.below.cell (p := ⟨gl, ol + j, none⟩) hgl] at kc
      obtain ⟨z1, z2⟩ := HL1.out.bd j (by omega)
      have hss := HSb.out.at (j : Int)
      obtain ⟨lo, hlo⟩ : ∃ z, (b.at (j : Int)).lo = z := ⟨_, rfl⟩
      obtain ⟨hi, hhi⟩ : ∃ z, (b.at (j : Int)).hi = z := ⟨_, rfl⟩
      obtain ⟨zj, hzj⟩ : ∃ z, wd zs j = z := ⟨_, rfl⟩
      unfold SmS at hss
      rw [hlo, hhi] at hss
      rw [hlo] at k1
      rw [hhi] at k2
      rw [hzj] at kc z1 z2
      go_upto_region 7 with fail
      go_cut [51] (fun v wc => v = .bool (decide (lo < hi)) ∧ ∃ Y, wc = junk wr Y)
      case first =>
        refine region_junk (by kernel_rfl) (by kernel_rfl) ?_
        repeat (go_big_quiet_step (exact rfl))
        refine wpQuiet_nil ?_
        rintro _ ⟨Y, rfl⟩
        go_wp2
        go_meet
        case rel => exact ⟨by simp, Y, rfl⟩
      case rest =>
      obtain ⟨rfl, Y, rfl⟩ := hcut
      have HJx : Hid (Jk wr (junk wr Y)) := ⟨Y, rfl⟩
      have HBx := hid (HB.out.jk HJx.out)
      have HJ6 := hid (HJ.out.trans HJx.out)
      have kc6 : (junk wr Y).cell? ⟨gl, ol + j, none⟩ = some (.int .i64 zj) := by
        rw [HJx.out.below.cell (p := ⟨gl, ol + j, none⟩) hgl2]; exact kc
      have hgl6 : gl < (junk wr Y).heap.size := Nat.lt_of_lt_of_le hgl2 HJx.out.below.size
      generalize junk wr Y = w6 at HJx HBx HJ6 kc6 hgl6 ⊢
      clear k1 k2 kl kc hjw hgl2 HJx
      by_cases hlh : lo < hi
      · obtain ⟨t, ht⟩ : ∃ t, withinI zj lo hi = t := ⟨_, rfl⟩
        have HWt := hid (within_is ht z1 z2 (by omega) (by omega) (by omega))
        have htb := within_bd zj lo hi (by omega)
        rw [ht] at htb
        have hhiE := hid hhi
        obtain ⟨k1, k2⟩ := HBx.out.cellAt (j := j) (by omega)
        have kl := HBx.out.lt
        rw [hlo] at k1
        rw [hhi] at k2
        clear ht hlo hhi hzj
        go_upto_region 8 with fail
        refine region_tail2 (.int .i64 (j : Int)) 13 #[true, true, true, true, true, true, true, true, true, true, true, true, true, true, false, false, false] (by kernel_rfl) (by decide) (by kernel_rfl) (by kernel_rfl) (by kernel_rfl) (fun _ _ _ h => h) (by kernel_rfl) (fun _ => rfl) (by kernel_rfl) ?_
        dsimp only [List.take, List.drop]
        repeat (go_big_quiet_step (first | (go_at_call 7; exact on_junk HWt.out _) | exact rfl))
        refine wpQuiet_nil ?_
        rintro _ ⟨Y, rfl⟩
        have HJy : Hid (Jk w6 (junk w6 Y)) := ⟨Y, rfl⟩
        generalize junk w6 Y = wx at HJy ⊢
        have HBx2 := hid (HBx.out.jk HJy.out)
        have kq := (HBx2.out.cellAt (j := j) (by omega)).1
        have kf := HBx2.out.frozen (j * 2)
        have kl2 := HBx2.out.lt
        have HBy : Hid (BxB (wx.setCell ⟨gb, j * 2, none⟩ (.int .i64 t)) gb (b.put (j : Int) ⟨t, (b.at (j : Int)).hi⟩)) := hid (HBx2.out.putLo (by omega) t)
        have HJz := hid ((HJ6.out.trans HJy.out).grown (grown_set wx gb (j * 2) (.int .i64 t)) (fun k hk => by cases hk; exact HGb.out))
        clear k1 k2 kl kc6 hgl6
        go_wp2
        go_roundg r
        case measure => omega
        case rel => exact ⟨j + 1, _, by omega, by go_num, HBy, hid (HSb.out.put (j := j) (by omega) ⟨by show (-1000000000000 : Int) ≤ t; omega, by show t ≤ 1000000000000; omega, by have := hhiE.out; show _ ≤ (b.at (j : Int)).hi; omega, by have := hhiE.out; show (b.at (j : Int)).hi ≤ _; omega⟩), HJz⟩
      · go_wp2
        go_roundg r
        case measure => omega
        case rel => exact ⟨j + 1, b, by omega, by go_num, HBx, HSb, HJ6⟩

end Go.Proofs.YtkkbeobocbgmeaaGreat
