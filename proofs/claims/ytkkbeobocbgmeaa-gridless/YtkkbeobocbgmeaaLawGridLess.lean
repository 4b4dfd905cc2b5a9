/- The law GridLess of chapter 12 answers true: its walk through the Go text, by the contracts of package grid. -/
import Derived.Test.YtkkbeobocbgmeaaGridN
import Derived.Test.YtkkbeobocbgmeaaGoodTwo
import Derived.Test.YtkkbeobocbgmeaaLawGridRuns
namespace Go.Proofs.Ytkkbeobocbgmeaa
open Go.RowKit M

/-- what the operations of the law's cut give -/
def LesV (gb : Nat) (b : Bx) (k : Nat) (at_ slo shi t : Int) (x1 y1 : Bx) : Nat → Value
  | 0 => boxW b
  | 1 => .int .i64 (k : Int)
  | 2 => .int .i64 at_
  | 3 => .int .i64 (k : Int)
  | 4 => .pointer (some ⟨gb, k * 2, none⟩)
  | 5 => .pointer (some ⟨gb, k * 2, none⟩)
  | 6 => .int .i64 slo
  | 7 => .int .i64 (k : Int)
  | 8 => .pointer (some ⟨gb, k * 2, none⟩)
  | 9 => .pointer (some ⟨gb, k * 2 + 1, none⟩)
  | 10 => .int .i64 shi
  | 11 => .int .i64 t
  | 12 => .tuple #[boxW x1, boxW y1]
  | 13 => .tuple #[boxW x1, boxW y1]
  | 14 => boxW x1
  | 15 => boxW y1
  | _ => undef

/-- a box of one point -/
theorem one_at (p0 p1 p2 p3 t : Int) : ∀ k, 0 ≤ k → k ≤ 4 → (Bx.at ⟨⟨p0, p0⟩, ⟨p1, p1⟩, ⟨p2, p2⟩, ⟨p3, p3⟩, ⟨t, t⟩⟩ k).lo = (Bx.at ⟨⟨p0, p0⟩, ⟨p1, p1⟩, ⟨p2, p2⟩, ⟨p3, p3⟩, ⟨t, t⟩⟩ k).hi := fun k h0 h4 => by
  have hc : k = 0 ∨ k = 1 ∨ k = 2 ∨ k = 3 ∨ k = 4 := by omega
  rcases hc with rfl | rfl | rfl | rfl | rfl <;> rfl
theorem ptx0 (p : Int → Int) (w : World) : (Instr.index 52 (.agg #[.int .i64 (p 0), .int .i64 (p 1), .int .i64 (p 2), .int .i64 (p 3)]) (.int .i64 0)).run Try.prog w = .ok (.int .i64 (p 0)) w := by kernel_rfl
theorem ptx1 (p : Int → Int) (w : World) : (Instr.index 52 (.agg #[.int .i64 (p 0), .int .i64 (p 1), .int .i64 (p 2), .int .i64 (p 3)]) (.int .i64 1)).run Try.prog w = .ok (.int .i64 (p 1)) w := by kernel_rfl
theorem ptx2 (p : Int → Int) (w : World) : (Instr.index 52 (.agg #[.int .i64 (p 0), .int .i64 (p 1), .int .i64 (p 2), .int .i64 (p 3)]) (.int .i64 2)).run Try.prog w = .ok (.int .i64 (p 2)) w := by kernel_rfl
theorem ptx3 (p : Int → Int) (w : World) : (Instr.index 52 (.agg #[.int .i64 (p 0), .int .i64 (p 1), .int .i64 (p 2), .int .i64 (p 3)]) (.int .i64 3)).run Try.prog w = .ok (.int .i64 (p 3)) w := by kernel_rfl

set_option maxRecDepth 100000 in
set_option maxHeartbeats 12800000 in
theorem gridLess_walk (f : Fo) (a : Ak) (place at_ : Int) (la : Option Addr) (ln lc : Nat) (zs : List Int) (w : World) (hf : f.ok w) (ha : a.ok w) (hplace : (Lit.int .i64 place).wf = true) (hat : (Lit.int .i64 at_).wf = true) (hl : IsI w la ln lc zs) : Calls Try.prog 6 #[forestV f, askV a, .int .i64 place, .int .i64 at_, .slice la ln lc] w fun e w' => e = .returned (.bool true) ∧ Jk w w' := by
  have J := rules8
  have hw1 := bdi hplace
  have hb1 := bdi hat
  obtain ⟨wv0, hwv0⟩ : ∃ z, w.alloc (.cells #[.int .i64 f.d, .int .i64 f.k, .slice f.ba f.bn f.bc, .slice f.sa f.sn f.sc] 44) = z := ⟨_, rfl⟩
  have hswv0 : wv0.heap.size = w.heap.size + 1 := by rw [← hwv0]; simp
  have HJwv0 : Hid (Jk w wv0) := hwv0 ▸ (Jk.refl w).alloc _
  have HB0wv0 : Hid (FoIn wv0 w.heap.size f) := hwv0 ▸ FoIn.laid w f _
  obtain ⟨w0, hw0⟩ : ∃ z, wv0.alloc (.cells #[.int .i64 a.kd, .int .i64 a.cl, .int .i64 a.lo, .int .i64 a.sz, .int .i64 a.f, .int .i64 a.bu, .bool a.fa, .slice a.sa a.sn a.sc] 46) = z := ⟨_, rfl⟩
  have hsw0 : w0.heap.size = w.heap.size + 1 + 1 := by rw [← hw0]; simp [hswv0]
  have HJw0 : Hid (Jk w w0) := HJwv0.out.trans (hw0 ▸ (Jk.refl wv0).alloc _)
  have HB1w0 : Hid (AkIn w0 (w.heap.size + 1) a) := hswv0 ▸ hw0 ▸ AkIn.laid wv0 a _
  have HB0w0 : Hid (FoIn w0 w.heap.size f) := HB0wv0.out.jk (hw0 ▸ (Jk.refl wv0).alloc _)
  clear HB0wv0
  have HM : Hid (Calls Try.prog 13 #[forestV f] w0 fun e w' => GotM w0 e w') := model_any f w0 (hf.jk HJw0.out)
  have ha0 := hid (ha.jk HJw0.out)
  have HAk : Hid (∀ m : Md, RightM m → AnsW w0 14 #[askV a, modelV m] (queryV (queryI a m.d m.k))) := fun m hr => ask_ans ha0.out hr.d1 hr.d4 hr.k1 hr.k3
  have HRn : Hid (Ans 3 #[] (.bool true)) := fun w' => gridRuns_walk w'
  have HLs := hid hl
  obtain ⟨fi0, fi1, fi2, fi3, fi4⟩ := HB0w0.out
  clear hf ha ha0 hl
  obtain ⟨d, k, ba, bn, bc, bz, sa, sn, sc, ss⟩ := f
  simp only [forestV] at *
  go_enter Try.func6, Try.ntmps6
  go_upto_region 1 with fail
  go_cut [11] (fun v wc => ∃ w1 h m, v = .pointer (some ⟨h, 0, none⟩) ∧ Made w0 w1 wc h m)
  case first =>
    go_wp2_with (first | (go_at_call 13; refine HM.out.mono ?_; rintro e w1 ⟨m, rfl, hr, h3, h4, hfr, hj⟩; have HMd := hid (GotM.made hr h3 h4 hfr hj); clear hr h3 h4 hfr hj))
    go_meet
    case rel => exact ⟨w1, _, m, rfl, HMd.out⟩
  case rest =>
  obtain ⟨w1, h, m, rfl, hMd⟩ := hcut
  obtain ⟨w2, rfl⟩ : ∃ z, z = wc := ⟨_, rfl⟩
  have HMd := hid hMd
  have HJ2 : Hid (Jk w0 w2) := hMd.2.2.2.2.2.2.1.trans hMd.2.2.2.2.2.2.2
  clear hMd fi0 fi1 fi2 fi3 fi4
  go_upto_region 2 with fail
  go_cut [12] (fun v wc => ∃ g q, v = .pointer (some ⟨g, 0, none⟩) ∧ q = queryI a m.d m.k ∧ MadeQ w0 w1 wc h g m q)
  case first =>
    refine wp_region_lit ?_
    obtain ⟨al, a0, a1, a2, a3, a4, a5, a6, a7⟩ := HB1w0.out.jk HJ2.out
    refine wpList_one rfl fun K hK => ?_
    go_simp
    refine hK _ _ ?_
    clear hK K
    refine listw_loadM rfl _ rfl HMd.out.1 rfl ?_
    simp only [Act.put, List.setIfInBounds_toArray, List.set_cons_succ, List.set_cons_zero]
    refine wpList_one rfl fun K hK => ?_
    go_simp
    go_at_call 14
    refine ((HAk.out m HMd.out.2.2.1).on _ HJ2.out).mono ?_
    rintro e w3 ⟨rfl, hj3⟩
    have HJ3 := hid hj3
    clear hj3
    go_simp
    refine hK _ _ ?_
    clear hK K
    go_wp2
    go_meet
    case rel => exact ⟨_, queryI a m.d m.k, rfl, rfl, HMd.out.q (HJ3.out.trans ((Jk.refl _).alloc _)) (QyB.laid w3 (queryI a m.d m.k)) HJ3.out.below.size⟩
  case rest =>
  obtain ⟨g, q, rfl, hq, hMq⟩ := hcut
  obtain ⟨w4, rfl⟩ : ∃ z, z = wc := ⟨_, rfl⟩
  have hrq : RightQ m q := hq ▸ query_right a hMq.mr
  have hsm := start_small hrq
  have hful := start_full hrq
  have HSt : Hid (Ans 8 #[queryV q] (boxW (startI q))) := hid (start_ans q)
  have HCn : Hid (∀ (x : Bx) (most c : Int) (ok : Bool), (if (cntX (cutsI m q x) : Int) ≤ most then (cntX (cutsI m q x) : Int) else 0) = c → decide ((cntX (cutsI m q x) : Int) ≤ most) = ok → AnsW w1 9 #[modelV m, queryV q, boxV x, .int .i64 most] (.tuple #[.int .i64 c, .bool ok])) := hid fun x most c ok hc ho => count_yes q x most hMq.ok hMq.mr rfl hc ho
  have hmd := hMq.mr.d1
  have hmd3 := hMq.d3
  have HMq := hid hMq
  have HJ0 := hid (HJw0.out.trans hMq.j0)
  have HJw := hid hMq.j1
  have HIn : Hid (AnsW w1 16 #[boxV (startI q), .slice la ln lc] (pointV (insideI (startI q) zs))) := hid ((inside_ans HLs.out hsm).up HJ0.out)
  clear hq hMq hrq HMd HAk HB1w0 HJ2 HLs
  obtain ⟨b, hb⟩ : ∃ b, startI q = b := ⟨_, rfl⟩
  rw [hb] at HSt HIn hsm hful
  clear hb
  -- the box
  go_upto_region 3 with fail
  go_cut [13] (fun p wc => ∃ gb, p = .pointer (some ⟨gb, 0, none⟩) ∧ BxB wc gb b ∧ Jk w4 wc)
  case first =>
    refine wp_region_lit ?_
    refine list_loadQ rfl _ rfl HMq.out.qb rfl ?_
    go_wp2_with (first | (go_at_call 8; refine (HSt.out.on _).mono ?_; rintro e z1 ⟨rfl, X1, rfl⟩))
    go_meet
    case rel => exact ⟨_, rfl, by have := BxB.laid (junk w4 X1) b; rwa [junk_size] at this, ((Jk.refl w4).junk X1).alloc _⟩
  case rest =>
  obtain ⟨gb, rfl, hB, hj⟩ := hcut
  obtain ⟨w5, rfl⟩ : ∃ z, z = wc := ⟨_, rfl⟩
  have HB5 := hid hB
  have HM5 := hid (HMq.out.mb.jk hj)
  have HQ5 := hid (HMq.out.qb.jk hj)
  have HJ5 := hid (HJw.out.trans hj)
  clear hB hj HMq HJw HSt
  obtain ⟨N, hN⟩ : ∃ N, cntX (cutsI m q b) = N := ⟨_, rfl⟩
  have hN0 : 0 < N := hN ▸ cntX_pos _
  go_upto_region 4 with fail
  refine wp_region_lit ?_
  refine list_loadM rfl _ rfl HM5.out rfl ?_
  refine list_loadQ rfl _ rfl HQ5.out rfl ?_
  refine list_loadX rfl _ rfl HB5.out rfl ?_
  by_cases hle : (N : Int) ≤ 600
  · have HC1 := hid (HCn.out b 600 N true (by rw [hN, if_pos hle]) (by rw [hN]; simp; omega))
    simp only [boxV] at HC1
    go_upto_region 7 with (first | (go_at_call 9; refine (HC1.out.on _ HJ5.out).mono ?_; rintro e w6 ⟨rfl, hj6⟩; have HJ6 := hid hj6; clear hj6))
    have HB6 := hid (HB5.out.jk HJ6.out)
    have HM6 := hid (HM5.out.jk HJ6.out)
    have HQ6 := hid (HQ5.out.jk HJ6.out)
    have HJ6a := hid (HJ5.out.trans HJ6.out)
    clear HB5 HM5 HQ5 HJ5 HJ6 HC1
    obtain ⟨kk, hkk⟩ : ∃ kk : Nat, withinI place 0 (m.d - 1) = (kk : Int) ∧ (kk : Int) < 3 := by
      have := within_bd place 0 (m.d - 1) (by omega)
      exact ⟨(withinI place 0 (m.d - 1)).toNat, by omega, by omega⟩
    have HWk : Hid (Ans 17 #[.int .i64 place, .int .i64 0, .int .i64 (m.d - 1)] (.int .i64 (kk : Int))) := hid (within_is hkk.1 hw1.1 hw1.2 (by omega) (by omega) (by omega))
    have hk3 := hkk.2
    obtain ⟨i0, i1, i2, i3, i4, i5, i6⟩ := HM6.out.in
    go_upto_region 8 with (first | (go_at_call 17; refine (HWk.out.on _).mono ?_; rintro e z1 ⟨rfl, X1, rfl⟩))
    have HJx : Hid (Jk w6 (junk w6 X1)) := ⟨X1, rfl⟩
    generalize junk w6 X1 = w7 at HJx ⊢
    have HB7 := hid (HB6.out.jk HJx.out)
    have HM7 := hid (HM6.out.jk HJx.out)
    have HQ7 := hid (HQ6.out.jk HJx.out)
    have HJ7 := hid (HJ6a.out.trans HJx.out)
    clear HB6 HM6 HQ6 HJ6a HJx HWk i0 i1 i2 i3 i4 i5 i6 hkk
    obtain ⟨slo, hslo⟩ : ∃ z, (b.at (kk : Int)).lo = z := ⟨_, rfl⟩
    obtain ⟨shi, hshi⟩ : ∃ z, (b.at (kk : Int)).hi = z := ⟨_, rfl⟩
    have hss := Full.at hful (kk : Int)
    have hsb := hsm.at (kk : Int)
    unfold SmS at hsb
    rw [hslo, hshi] at hss hsb
    obtain ⟨t, ht⟩ : ∃ z, withinI at_ slo shi = z := ⟨_, rfl⟩
    have htb := within_bd at_ slo shi hss
    rw [ht] at htb
    have HWt := hid (within_is ht hb1.1 hb1.2 hss (by omega) (by omega))
    have HLc := hid (less_cells m q hful (k := (kk : Int)) (t := t) (by omega) (by omega) (by rw [hslo]; exact htb.1) (by rw [hshi]; exact htb.2))
    have HCt : Hid (Ans 23 #[boxV b, .int .i64 (kk : Int), .int .i64 t] (.tuple #[boxV (b.low (kk : Int) t), boxV (b.upp (kk : Int) t)])) := hid fun w => bcut_any b (kk : Int) t w hsm.ok (by omega) (by omega)
    obtain ⟨x1, hx1⟩ : ∃ z, b.low (kk : Int) t = z := ⟨_, rfl⟩
    obtain ⟨y1, hy1⟩ : ∃ z, b.upp (kk : Int) t = z := ⟨_, rfl⟩
    rw [hx1, hy1] at HCt HLc
    rw [hN] at HLc
    simp only [boxV] at HCt
    have hkk5 : (kk : Int) < 5 := by omega
    clear hx1 hy1
    go_cut [17, 18] (fun v17 v18 wc => ∃ hx hy, v17 = .pointer (some ⟨hx, 0, none⟩) ∧ v18 = .pointer (some ⟨hy, 0, none⟩) ∧ BxB wc hx x1 ∧ BxB wc hy y1 ∧ Jk w7 wc)
    case first =>
      refine region_goodE 19 (TwoE w7 (LesV gb b kk at_ slo shi t x1 y1) x1) (fun k => [_, _, _, _, _, _, _, _, _, _, _, _, _, _, _, _, _, _].getD k undef) (fun x => ⟨#[_, _, _, _, _, _, _, _, _, _, _, _, _, _, _, _, _, x 16, x 17, _, _, _, _, _, _, _, _, _, _, _, _, _, _, _, _, _, _, _, _, _, _, _, _, _, _, _, _, _, _, _, _, x 13, x 0, x 1, x 2, x 3, x 4, x 5, x 6, x 7, x 8, x 9, x 10, x 11, x 12, x 14, x 15, _, _, _, _, _, _, _, _, _, _, _, _, _, _, _, _, _, _, _, _, _, _, _, _, _, _, _, _, _, _, _, _, _, _, _, _, _, _, _, _, _, _, _, _, _, _, _, _, _, _, _, _, _, _, _, _, _, _, _, _, _, _, _, _, _, _, _, _, _, _, _, _, _, _, _, _, _, _, _, _, _, _, _], []⟩) (by kernel_rfl) (by kernel_rfl) (TwoE.start (Jk.refl w7).drew) ?_ ?_
      · intro i o' ho hi L x w' hE hd hLi K hK
        have hBw := HB7.out.jk hE.j
        obtain ⟨c1, c2⟩ := hBw.cellAt (j := kk) (by omega)
        rw [hslo] at c1
        rw [hshi] at c2
        have cl := hBw.lt
        match i, ho with
    | 0, _ => -- Op.load 30 t13
          simp at hi
          subst hi
          refine wp_load_row 30 _ rfl gb rfl _ _ _ _ (HB7.out.jk hE.j) Try.underlying30 rfl (by kernel_rfl) ?_
          simp only [Act.put, List.setIfInBounds_toArray, List.set_cons_succ, List.set_cons_zero]
          exact hK _ _ (hE.keep (i := 0) (by decide) (Jk.refl _))
    | 1, _ => -- Op.move t16
          simp at hi
          subst hi
          go_simp
          exact hK _ _ (hE.keep (i := 1) (by decide) (Jk.refl _))
    | 2, _ => -- Op.move t3
          simp at hi
          subst hi
          go_simp
          exact hK _ _ (hE.keep (i := 2) (by decide) (Jk.refl _))
    | 3, _ => -- Op.move t16
          simp at hi
          subst hi
          go_simp
          exact hK _ _ (hE.keep (i := 3) (by decide) (Jk.refl _))
    | 4, _ => -- Op.indexAddr 30 t13 t55
          simp at hi
          subst hi
          obtain ⟨x, rfl⟩ := upd_know (show x 3 = .int .i64 (kk : Int) from hE.val 3 (by decide) (hd 3 (by kernel_rfl)))
          simp only [upd, reduceIte, Nat.reduceEqDiff]
          go_simp
          exact hK _ _ (hE.keep (i := 4) (by decide) (Jk.refl _))
    | 5, _ => -- Op.fieldAddr 28 t56 0
          simp at hi
          subst hi
          obtain ⟨x, rfl⟩ := upd_know (show x 4 = .pointer (some ⟨gb, kk * 2, none⟩) from hE.val 4 (by decide) (hd 4 (by kernel_rfl)))
          simp only [upd, reduceIte, Nat.reduceEqDiff]
          go_simp
          exact hK _ _ (hE.keep (i := 5) (by decide) (Jk.refl _))
    | 6, _ => -- Op.load 3 t57
          simp at hi
          subst hi
          obtain ⟨x, rfl⟩ := upd_know (show x 5 = .pointer (some ⟨gb, kk * 2, none⟩) from hE.val 5 (by decide) (hd 5 (by kernel_rfl)))
          simp only [upd, reduceIte, Nat.reduceEqDiff]
          go_simp
          exact hK _ _ (hE.keep (i := 6) (by decide) (Jk.refl _))
    | 7, _ => -- Op.move t16
          simp at hi
          subst hi
          go_simp
          exact hK _ _ (hE.keep (i := 7) (by decide) (Jk.refl _))
    | 8, _ => -- Op.indexAddr 30 t13 t59
          simp at hi
          subst hi
          obtain ⟨x, rfl⟩ := upd_know (show x 7 = .int .i64 (kk : Int) from hE.val 7 (by decide) (hd 7 (by kernel_rfl)))
          simp only [upd, reduceIte, Nat.reduceEqDiff]
          go_simp
          exact hK _ _ (hE.keep (i := 8) (by decide) (Jk.refl _))
    | 9, _ => -- Op.fieldAddr 28 t60 1
          simp at hi
          subst hi
          obtain ⟨x, rfl⟩ := upd_know (show x 8 = .pointer (some ⟨gb, kk * 2, none⟩) from hE.val 8 (by decide) (hd 8 (by kernel_rfl)))
          simp only [upd, reduceIte, Nat.reduceEqDiff]
          go_simp
          exact hK _ _ (hE.keep (i := 9) (by decide) (Jk.refl _))
    | 10, _ => -- Op.load 3 t61
          simp at hi
          subst hi
          obtain ⟨x, rfl⟩ := upd_know (show x 9 = .pointer (some ⟨gb, kk * 2 + 1, none⟩) from hE.val 9 (by decide) (hd 9 (by kernel_rfl)))
          simp only [upd, reduceIte, Nat.reduceEqDiff]
          go_simp
          exact hK _ _ (hE.keep (i := 10) (by decide) (Jk.refl _))
    | 11, _ => -- Op.call { value (Operand.func 17), args := #[t54, t58, t62], argTypes := #[3, 3, 3] }
          simp at hi
          subst hi
          obtain ⟨x, rfl⟩ := upd_know3 (show x 2 = .int .i64 at_ from hE.val 2 (by decide) (hd 2 (by kernel_rfl))) (show x 6 = .int .i64 slo from hE.val 6 (by decide) (hd 6 (by kernel_rfl))) (show x 10 = .int .i64 shi from hE.val 10 (by decide) (hd 10 (by kernel_rfl)))
          simp only [upd, reduceIte, Nat.reduceEqDiff]
          go_simp
          go_at_call 17
          refine (HWt.out.on _).mono ?_
          rintro e z1 ⟨rfl, hj⟩
          go_simp
          exact hK _ _ (hE.keep (i := 11) (by decide) hj)
    | 12, _ => -- Op.call { value (Operand.func 23), args := #[t52, t53, t63], argTypes := #[30, 3, 3] }
          simp at hi
          subst hi
          obtain ⟨x, rfl⟩ := upd_know3 (show x 0 = boxW b from hE.val 0 (by decide) (hd 0 (by kernel_rfl))) (show x 1 = .int .i64 (kk : Int) from hE.val 1 (by decide) (hd 1 (by kernel_rfl))) (show x 11 = .int .i64 t from hE.val 11 (by decide) (hd 11 (by kernel_rfl)))
          simp only [upd, reduceIte, Nat.reduceEqDiff]
          go_simp
          go_at_call 23
          refine (HCt.out.on _).mono ?_
          rintro e z1 ⟨rfl, hj⟩
          go_simp
          exact hK _ _ (hE.keep (i := 12) (by decide) hj)
    | 13, _ => -- Op.move t64
          simp at hi
          subst hi
          obtain ⟨x, rfl⟩ := upd_know (show x 12 = .tuple #[boxW x1, boxW y1] from hE.val 12 (by decide) (hd 12 (by kernel_rfl)))
          simp only [upd, reduceIte, Nat.reduceEqDiff]
          go_simp
          exact hK _ _ (hE.keep (i := 13) (by decide) (Jk.refl _))
    | 14, _ => -- Op.extract t51 0
          simp at hi
          subst hi
          obtain ⟨x, rfl⟩ := upd_know (show x 13 = .tuple #[boxW x1, boxW y1] from hE.val 13 (by decide) (hd 13 (by kernel_rfl)))
          simp only [upd, reduceIte, Nat.reduceEqDiff]
          go_simp
          exact hK _ _ (hE.keep (i := 14) (by decide) (Jk.refl _))
    | 15, _ => -- Op.extract t51 1
          simp at hi
          subst hi
          obtain ⟨x, rfl⟩ := upd_know (show x 13 = .tuple #[boxW x1, boxW y1] from hE.val 13 (by decide) (hd 13 (by kernel_rfl)))
          simp only [upd, reduceIte, Nat.reduceEqDiff]
          go_simp
          exact hK _ _ (hE.keep (i := 15) (by decide) (Jk.refl _))
    | 16, _ => -- Op.alloc 30
          simp at hi
          subst hi
          go_simp
          exact hK _ _ (hE.new16 hLi)
    | 17, _ => -- Op.alloc 30
          simp at hi
          subst hi
          go_simp
          exact hK _ _ hE.new17
    | 18, _ =>
          simp at hi
          subst hi
          have h16 : L 16 = true := hd 16 (by kernel_rfl)
          obtain ⟨hx, e16, hx1, hx2⟩ := hE.a16 h16
          rw [hLi] at hx2
          obtain ⟨x, rfl⟩ := upd_know2 e16 (show x 14 = boxW x1 from hE.val 14 (by decide) (hd 14 (by kernel_rfl)))
          simp only [upd, reduceIte, Nat.reduceEqDiff]
          refine wp_storeX _ _ rfl hx2 rfl x1 rfl fun w'' hX hg => ?_
          simp only [Act.put]
          exact hK undef _ (hE.st18 h16 e16 hg hX undef)
        | n + 19, h => exact absurd h (by omega)
      · intro x w' hE
        obtain ⟨hx, e16, hx1, hx2⟩ := hE.a16 (by decide)
        obtain ⟨hy, e17, hy1, hy2⟩ := hE.a17 (by decide)
        have hx2 : BxB w' hx x1 := hx2
        have hne := hE.ne (by decide) (by decide) hx hy e16 e17
        have hC := hE.j
        obtain ⟨x, rfl⟩ := upd_know3 e16 e17 (show x 15 = boxW y1 from hE.val 15 (by decide) (by decide))
        simp only [upd, reduceIte, Nat.reduceEqDiff]
        refine list_storeX rfl _ _ rfl hy2 rfl y1 rfl fun z6 hY6 hg6 => ?_
        have HFin : Hid (BxB z6 hx x1 ∧ BxB z6 hy y1 ∧ Jk w7 z6) := ⟨hx2.by hg6 hne, hY6, hC.grown hg6 (fun k hk => by cases hk; exact hy1)⟩
        go_wp2
        go_meet
        case rel => exact ⟨hx, hy, rfl, rfl, HFin.out.1, HFin.out.2.1, HFin.out.2.2⟩
    case rest =>
    obtain ⟨hx, hy, rfl, rfl, hX, hY, hj8⟩ := hcut
    obtain ⟨w8, rfl⟩ : ∃ z, z = wc := ⟨_, rfl⟩
    have HX8 := hid hX
    have HY8 := hid hY
    have HB8 := hid (HB7.out.jk hj8)
    have HM8 := hid (HM7.out.jk hj8)
    have HQ8 := hid (HQ7.out.jk hj8)
    have HJ8 := hid (HJ7.out.trans hj8)
    obtain ⟨U, hU⟩ : ∃ U, cntX (cutsI m q x1) = U := ⟨_, rfl⟩
    obtain ⟨Y, hY'⟩ : ∃ U, cntX (cutsI m q y1) = U := ⟨_, rfl⟩
    have HL2 := HLc.out
    rw [hU, hY'] at HL2
    obtain ⟨hUN, hYN⟩ := HL2
    have HCx := hid (HCn.out x1 600 U true (by rw [hU, if_pos (by omega)]) (by rw [hU]; simp; omega))
    have HC0 := hid (HCn.out b 0 0 false (by rw [hN, if_neg (by omega)]) (by rw [hN]; simp; omega))
    simp only [boxV] at HCx HC0
    clear hX hY hj8 HB7 HM7 HQ7 HJ7 HLc HWt HCt
    go_upto_region 9 with fail
    refine wp_region_lit ?_
    refine list_loadM rfl _ rfl HM8.out rfl ?_
    refine list_loadQ rfl _ rfl HQ8.out rfl ?_
    refine list_loadX rfl _ rfl HX8.out rfl ?_
    go_upto_region 11 with (first | (go_at_call 9; refine (HCx.out.on _ HJ8.out).mono ?_; rintro e w9 ⟨rfl, hj9⟩; have HJ9 := hid hj9; clear hj9))
    have HY9 := hid (HY8.out.jk HJ9.out)
    have HB9 := hid (HB8.out.jk HJ9.out)
    have HM9 := hid (HM8.out.jk HJ9.out)
    have HQ9 := hid (HQ8.out.jk HJ9.out)
    have HJ9a := hid (HJ8.out.trans HJ9.out)
    have HEm : Hid (Ans 19 #[boxV y1] (.bool y1.em)) := hid (a_em rfl)
    simp only [boxV] at HEm
    clear HX8 HY8 HB8 HM8 HQ8 HJ8 HJ9 HCx
    refine wp_region_lit ?_
    refine list_loadX rfl _ rfl HY9.out rfl ?_
    have hUI : (U : Int) ≤ (N : Int) := by omega
    have hN1 : (0 : Int) < (N : Int) := by omega
    rcases hYN with ⟨hem, hNU⟩ | ⟨hem, hYN, hNU⟩
    · rw [hem] at HEm
      have hNI : (N : Int) ≤ (U : Int) := by omega
      go_upto_region 13 with (first | (go_at_call 19; refine (HEm.out.on _).mono ?_; rintro e z1 ⟨rfl, X2, rfl⟩))
      have HJx : Hid (Jk w9 (junk w9 X2)) := ⟨X2, rfl⟩
      generalize junk w9 X2 = wA at HJx ⊢
      have HBA := hid (HB9.out.jk HJx.out)
      have HMA := hid (HM9.out.jk HJx.out)
      have HQA := hid (HQ9.out.jk HJx.out)
      have HJA := hid (HJ9a.out.trans HJx.out)
      clear HB9 HM9 HQ9 HJ9a HJx HY9 HEm
      go_upto_region 15 with fail
      go_cut [22] (fun p wc => ∃ go, p = .pointer (some ⟨go, 0, none⟩) ∧ wA.heap.size ≤ go ∧ BxB wc go Bx.nil ∧ Jk wA wc)
      case first =>
        go_wp2
        go_meet
        case rel => exact ⟨_, rfl, Nat.le_refl _, BxB.laid _ Bx.nil, (Jk.refl _).alloc _⟩
      case rest =>
      obtain ⟨go, rfl, hgo, hO, hjo⟩ := hcut
      obtain ⟨wo, rfl⟩ : ∃ z, z = wc := ⟨_, rfl⟩
      have HOo := hid hO
      have HJo := hid hjo
      have HBo := hid (HBA.out.jk hjo)
      clear hO hjo
      go_upto_region 16 with fail
      refine wp_region_lit ?_
      refine list_loadX rfl _ rfl HBo.out rfl ?_
      obtain ⟨p, hp⟩ : ∃ p, insideI b zs = p := ⟨_, rfl⟩
      rw [hp] at HIn
      simp only [boxV, pointV] at HIn
      go_upto_region 17 with (first | (go_at_call 16; refine (HIn.out.on _ (HJA.out.trans HJo.out)).mono ?_; rintro e wI ⟨rfl, hji⟩; have HJi := hid hji; clear hji))
      have HOi := hid (HOo.out.jk HJi.out)
      have HBi := hid (HBo.out.jk HJi.out)
      have HMi := hid (HMA.out.jk (HJo.out.trans HJi.out))
      have HQi := hid (HQA.out.jk (HJo.out.trans HJi.out))
      have HJI := hid ((HJA.out.trans HJo.out).trans HJi.out)
      have hgg : gb ≠ go := by have := HBA.out.lt; omega
      have hgh : h ≠ go := by have := HMA.out.lt; omega
      have hgq : g ≠ go := by have := HQA.out.lt; omega
      have hgo1 : w1.heap.size ≤ go := Nat.le_trans HJA.out.below.size hgo
      obtain ⟨x0, x1', x2', x3, x4, x5, x6, x7, x8, x9⟩ := HOi.out.in
      have xf := HOi.out.frozen
      have xl := HOi.out.lt
      have ip0 := ptx0 p
      have ip1 := ptx1 p
      have ip2 := ptx2 p
      have ip3 := ptx3 p
      refine wp_loop_rounds 5 ?_
      iterate 4 (rw [rounds_succ]; go_wp2_with fail)
      rw [rounds_succ]
      go_upto_region 21 with fail
      have HO4 := hid ((((HOi.out.putA ⟨p 0, p 0⟩).putB ⟨p 1, p 1⟩).putC ⟨p 2, p 2⟩).putD ⟨p 3, p 3⟩)
      have HG4 := hid ((((((((grown_set wI go 0 (.int .i64 (p 0))).trans (grown_set _ go 1 (.int .i64 (p 0)))).trans (grown_set _ go 2 (.int .i64 (p 1)))).trans (grown_set _ go 3 (.int .i64 (p 1)))).trans (grown_set _ go 4 (.int .i64 (p 2)))).trans (grown_set _ go 5 (.int .i64 (p 2)))).trans (grown_set _ go 6 (.int .i64 (p 3)))).trans (grown_set _ go 7 (.int .i64 (p 3))))
      simp only at HO4
      generalize (((((((wI.setCell ⟨go, 0, none⟩ (.int .i64 (p 0))).setCell ⟨go, 1, none⟩ (.int .i64 (p 0))).setCell ⟨go, 2, none⟩ (.int .i64 (p 1))).setCell ⟨go, 3, none⟩ (.int .i64 (p 1))).setCell ⟨go, 4, none⟩ (.int .i64 (p 2))).setCell ⟨go, 5, none⟩ (.int .i64 (p 2))).setCell ⟨go, 6, none⟩ (.int .i64 (p 3))).setCell ⟨go, 7, none⟩ (.int .i64 (p 3)) = wS at HO4 HG4 ⊢
      clear x0 x1' x2' x3 x4 x5 x6 x7 x8 x9 xf xl ip0 ip1 ip2 ip3 HOi HOo HIn
      have HBS := hid (HBi.out.by HG4.out hgg)
      obtain ⟨y0, y1', y2', y3, y4, y5, y6, y7, y8, y9⟩ := HBS.out.in
      have yl := HBS.out.lt
      obtain ⟨x0, x1', x2', x3, x4, x5, x6, x7, x8, x9⟩ := HO4.out.in
      have xf := HO4.out.frozen
      have xl := HO4.out.lt
      simp only at x0 x1' x2' x3 x4 x5 x6 x7 x8 x9
      have HO5 := hid (HO4.out.putE ⟨b.e.lo, b.e.lo⟩)
      have HG5 := hid (HG4.out.trans ((grown_set wS go 8 (.int .i64 b.e.lo)).trans (grown_set _ go 9 (.int .i64 b.e.lo))))
      simp only at HO5
      go_upto_region 22 with fail
      generalize (wS.setCell ⟨go, 8, none⟩ (.int .i64 b.e.lo)).setCell ⟨go, 9, none⟩ (.int .i64 b.e.lo) = wT at HO5 HG5 ⊢
      clear x0 x1' x2' x3 x4 x5 x6 x7 x8 x9 xf xl y0 y1' y2' y3 y4 y5 y6 y7 y8 y9 yl HO4 HG4 HBS
      have HMT : Hid (MdB wT h m) := hid ((HG5.out.block h HMi.out.lt (by simpa using hgh)).trans HMi.out)
      have HQT : Hid (QyB wT g q) := hid ((HG5.out.block g HQi.out.lt (by simpa using hgq)).trans HQi.out)
      have HBT := hid (HBi.out.by HG5.out hgg)
      have HJT := hid (HJI.out.grown HG5.out (fun k hk => by cases hk; exact hgo1))
      have HC1o := hid (HCn.out ⟨⟨p 0, p 0⟩, ⟨p 1, p 1⟩, ⟨p 2, p 2⟩, ⟨p 3, p 3⟩, ⟨b.e.lo, b.e.lo⟩⟩ 1 1 true (by rw [one_cell m q (one_at _ _ _ _ _)]; rfl) (by rw [one_cell m q (one_at _ _ _ _ _)]; rfl))
      simp only [boxV] at HC1o
      clear HBi HMi HQi HJI HG5
      refine wp_region_lit ?_
      refine list_loadM rfl _ rfl HMT.out rfl ?_
      refine list_loadQ rfl _ rfl HQT.out rfl ?_
      refine list_loadX rfl _ rfl HO5.out rfl ?_
      go_upto_region 23 with (first | (go_at_call 9; refine (HC1o.out.on _ HJT.out).mono ?_; rintro e wU ⟨rfl, hju⟩; have HJu := hid hju; clear hju))
      refine wp_region_lit ?_
      refine list_loadM rfl _ rfl (HMT.out.jk HJu.out) rfl ?_
      refine list_loadQ rfl _ rfl (HQT.out.jk HJu.out) rfl ?_
      refine list_loadX rfl _ rfl (HBT.out.jk HJu.out) rfl ?_
      go_wp2_with (first
        | (go_at_call 9; refine (HC0.out.on _ (HJT.out.trans HJu.out)).mono ?_; rintro e wV ⟨rfl, hjv⟩; have HJv := hid hjv; clear hjv)
        | (go_at_call 3; refine (HRn.out.on _).mono ?_; rintro e z1 ⟨rfl, X9, rfl⟩))
      go_ret
      exact ⟨rfl, (((HJ0.out.trans HJT.out).trans HJu.out).trans HJv.out).junk X9⟩
    · rw [hem] at HEm
      have hYI : (Y : Int) ≤ (N : Int) := by omega
      have hNI : (N : Int) ≤ (U : Int) + (Y : Int) := by omega
      have HCy := hid (HCn.out y1 600 Y true (by rw [hY', if_pos (by omega)]) (by rw [hY']; simp; omega))
      simp only [boxV] at HCy
      go_upto_region 12 with (first | (go_at_call 19; refine (HEm.out.on _).mono ?_; rintro e z1 ⟨rfl, X2, rfl⟩))
      have HJx : Hid (Jk w9 (junk w9 X2)) := ⟨X2, rfl⟩
      generalize junk w9 X2 = wz at HJx ⊢
      refine wp_region_lit ?_
      refine list_loadM rfl _ rfl (HM9.out.jk HJx.out) rfl ?_
      refine list_loadQ rfl _ rfl (HQ9.out.jk HJx.out) rfl ?_
      refine list_loadX rfl _ rfl (HY9.out.jk HJx.out) rfl ?_
      go_upto_region 13 with (first | (go_at_call 9; refine (HCy.out.on _ (HJ9a.out.trans HJx.out)).mono ?_; rintro e wA ⟨rfl, hjA⟩; have HJy := hid (HJx.out.trans hjA); clear hjA))
      have HBA := hid (HB9.out.jk HJy.out)
      have HMA := hid (HM9.out.jk HJy.out)
      have HQA := hid (HQ9.out.jk HJy.out)
      have HJA := hid (HJ9a.out.trans HJy.out)
      clear HB9 HM9 HQ9 HJ9a HJx HJy HY9 HEm
      go_upto_region 15 with fail
      go_cut [22] (fun p wc => ∃ go, p = .pointer (some ⟨go, 0, none⟩) ∧ wA.heap.size ≤ go ∧ BxB wc go Bx.nil ∧ Jk wA wc)
      case first =>
        go_wp2
        go_meet
        case rel => exact ⟨_, rfl, Nat.le_refl _, BxB.laid _ Bx.nil, (Jk.refl _).alloc _⟩
      case rest =>
      obtain ⟨go, rfl, hgo, hO, hjo⟩ := hcut
      obtain ⟨wo, rfl⟩ : ∃ z, z = wc := ⟨_, rfl⟩
      have HOo := hid hO
      have HJo := hid hjo
      have HBo := hid (HBA.out.jk hjo)
      clear hO hjo
      go_upto_region 16 with fail
      refine wp_region_lit ?_
      refine list_loadX rfl _ rfl HBo.out rfl ?_
      obtain ⟨p, hp⟩ : ∃ p, insideI b zs = p := ⟨_, rfl⟩
      rw [hp] at HIn
      simp only [boxV, pointV] at HIn
      go_upto_region 17 with (first | (go_at_call 16; refine (HIn.out.on _ (HJA.out.trans HJo.out)).mono ?_; rintro e wI ⟨rfl, hji⟩; have HJi := hid hji; clear hji))
      have HOi := hid (HOo.out.jk HJi.out)
      have HBi := hid (HBo.out.jk HJi.out)
      have HMi := hid (HMA.out.jk (HJo.out.trans HJi.out))
      have HQi := hid (HQA.out.jk (HJo.out.trans HJi.out))
      have HJI := hid ((HJA.out.trans HJo.out).trans HJi.out)
      have hgg : gb ≠ go := by have := HBA.out.lt; omega
      have hgh : h ≠ go := by have := HMA.out.lt; omega
      have hgq : g ≠ go := by have := HQA.out.lt; omega
      have hgo1 : w1.heap.size ≤ go := Nat.le_trans HJA.out.below.size hgo
      obtain ⟨x0, x1', x2', x3, x4, x5, x6, x7, x8, x9⟩ := HOi.out.in
      have xf := HOi.out.frozen
      have xl := HOi.out.lt
      have ip0 := ptx0 p
      have ip1 := ptx1 p
      have ip2 := ptx2 p
      have ip3 := ptx3 p
      refine wp_loop_rounds 5 ?_
      iterate 4 (rw [rounds_succ]; go_wp2_with fail)
      rw [rounds_succ]
      go_upto_region 21 with fail
      have HO4 := hid ((((HOi.out.putA ⟨p 0, p 0⟩).putB ⟨p 1, p 1⟩).putC ⟨p 2, p 2⟩).putD ⟨p 3, p 3⟩)
      have HG4 := hid ((((((((grown_set wI go 0 (.int .i64 (p 0))).trans (grown_set _ go 1 (.int .i64 (p 0)))).trans (grown_set _ go 2 (.int .i64 (p 1)))).trans (grown_set _ go 3 (.int .i64 (p 1)))).trans (grown_set _ go 4 (.int .i64 (p 2)))).trans (grown_set _ go 5 (.int .i64 (p 2)))).trans (grown_set _ go 6 (.int .i64 (p 3)))).trans (grown_set _ go 7 (.int .i64 (p 3))))
      simp only at HO4
      generalize (((((((wI.setCell ⟨go, 0, none⟩ (.int .i64 (p 0))).setCell ⟨go, 1, none⟩ (.int .i64 (p 0))).setCell ⟨go, 2, none⟩ (.int .i64 (p 1))).setCell ⟨go, 3, none⟩ (.int .i64 (p 1))).setCell ⟨go, 4, none⟩ (.int .i64 (p 2))).setCell ⟨go, 5, none⟩ (.int .i64 (p 2))).setCell ⟨go, 6, none⟩ (.int .i64 (p 3))).setCell ⟨go, 7, none⟩ (.int .i64 (p 3)) = wS at HO4 HG4 ⊢
      clear x0 x1' x2' x3 x4 x5 x6 x7 x8 x9 xf xl ip0 ip1 ip2 ip3 HOi HOo HIn
      have HBS := hid (HBi.out.by HG4.out hgg)
      obtain ⟨y0, y1', y2', y3, y4, y5, y6, y7, y8, y9⟩ := HBS.out.in
      have yl := HBS.out.lt
      obtain ⟨x0, x1', x2', x3, x4, x5, x6, x7, x8, x9⟩ := HO4.out.in
      have xf := HO4.out.frozen
      have xl := HO4.out.lt
      simp only at x0 x1' x2' x3 x4 x5 x6 x7 x8 x9
      have HO5 := hid (HO4.out.putE ⟨b.e.lo, b.e.lo⟩)
      have HG5 := hid (HG4.out.trans ((grown_set wS go 8 (.int .i64 b.e.lo)).trans (grown_set _ go 9 (.int .i64 b.e.lo))))
      simp only at HO5
      go_upto_region 22 with fail
      generalize (wS.setCell ⟨go, 8, none⟩ (.int .i64 b.e.lo)).setCell ⟨go, 9, none⟩ (.int .i64 b.e.lo) = wT at HO5 HG5 ⊢
      clear x0 x1' x2' x3 x4 x5 x6 x7 x8 x9 xf xl y0 y1' y2' y3 y4 y5 y6 y7 y8 y9 yl HO4 HG4 HBS
      have HMT : Hid (MdB wT h m) := hid ((HG5.out.block h HMi.out.lt (by simpa using hgh)).trans HMi.out)
      have HQT : Hid (QyB wT g q) := hid ((HG5.out.block g HQi.out.lt (by simpa using hgq)).trans HQi.out)
      have HBT := hid (HBi.out.by HG5.out hgg)
      have HJT := hid (HJI.out.grown HG5.out (fun k hk => by cases hk; exact hgo1))
      have HC1o := hid (HCn.out ⟨⟨p 0, p 0⟩, ⟨p 1, p 1⟩, ⟨p 2, p 2⟩, ⟨p 3, p 3⟩, ⟨b.e.lo, b.e.lo⟩⟩ 1 1 true (by rw [one_cell m q (one_at _ _ _ _ _)]; rfl) (by rw [one_cell m q (one_at _ _ _ _ _)]; rfl))
      simp only [boxV] at HC1o
      clear HBi HMi HQi HJI HG5
      refine wp_region_lit ?_
      refine list_loadM rfl _ rfl HMT.out rfl ?_
      refine list_loadQ rfl _ rfl HQT.out rfl ?_
      refine list_loadX rfl _ rfl HO5.out rfl ?_
      go_upto_region 23 with (first | (go_at_call 9; refine (HC1o.out.on _ HJT.out).mono ?_; rintro e wU ⟨rfl, hju⟩; have HJu := hid hju; clear hju))
      refine wp_region_lit ?_
      refine list_loadM rfl _ rfl (HMT.out.jk HJu.out) rfl ?_
      refine list_loadQ rfl _ rfl (HQT.out.jk HJu.out) rfl ?_
      refine list_loadX rfl _ rfl (HBT.out.jk HJu.out) rfl ?_
      go_wp2_with (first
        | (go_at_call 9; refine (HC0.out.on _ (HJT.out.trans HJu.out)).mono ?_; rintro e wV ⟨rfl, hjv⟩; have HJv := hid hjv; clear hjv)
        | (go_at_call 3; refine (HRn.out.on _).mono ?_; rintro e z1 ⟨rfl, X9, rfl⟩))
      go_ret
      exact ⟨rfl, (((HJ0.out.trans HJT.out).trans HJu.out).trans HJv.out).junk X9⟩
  · have HC1 := hid (HCn.out b 600 0 false (by rw [hN, if_neg hle]) (by rw [hN]; simp; omega))
    simp only [boxV] at HC1
    go_wp2_with (first
      | (go_at_call 9; refine (HC1.out.on _ HJ5.out).mono ?_; rintro e w6 ⟨rfl, hj6⟩; have HJ6 := hid hj6; clear hj6)
      | (go_at_call 3; refine (HRn.out.on _).mono ?_; rintro e z1 ⟨rfl, X1, rfl⟩))
    go_ret
    exact ⟨rfl, (HJ0.out.trans (HJ5.out.trans HJ6.out)).junk X1⟩

end Go.Proofs.Ytkkbeobocbgmeaa
