/- What told and numbersFit of package ask answer. No conditions beyond those written.
   What told of package ask answers. No conditions beyond those written.
   What numbersFit, way and kindWords of package ask answer. Conditions: what package ask asks of the functions beyond it ('LibA'). -/
import Derived.Test.YtjpffempmlfoeaaDoorAskLib
import Derived.Test.YtjpffempmlfoeaaDoorBoxQ
import Derived.Laws.CopyRow
import Derived.Laws.CopyOwn
import Derived.Test.YtjpffempmlfoeaaDoorHeld
namespace Go.Proofs.YtjpffempmlfoeaaDoor
open Go.RowKit M

/-- the first spans of a region -/
def cutBx (d : Nat) (b : Bx) : Bx := ⟨b.a, if 2 ≤ d then b.b else Sp.nil, if 3 ≤ d then b.c else Sp.nil, if 4 ≤ d then b.d else Sp.nil, Sp.nil⟩
def toldI (q : Qy) (d : Nat) : Qy := ⟨q.kd, q.cl, cutBx d q.rg, if q.kd = 1 then q.lo else 0, if q.kd = 1 then q.hi else 0, if q.kd = 3 then q.f else 0, if q.kd = 3 then q.fa else false, q.bu⟩
def spansV (b : Bx) : List Value := [.int .i64 b.a.lo, .int .i64 b.a.hi, .int .i64 b.b.lo, .int .i64 b.b.hi, .int .i64 b.c.lo, .int .i64 b.c.hi, .int .i64 b.d.lo, .int .i64 b.d.hi, .int .i64 b.e.lo, .int .i64 b.e.hi]
theorem run_cutR (w : World) (h d : Nat) (h4 : d ≤ 4) : (Instr.sliceAt 25 (.pointer (some ⟨h, 2, none⟩)) none (some (.int .i64 (d : Int))) none).run Tryd.prog w = .ok (.slice (some ⟨h, 2, none⟩) d 5) w := by
  have hal : Tryd.prog.arrayLen 25 = 5 := by kernel_rfl
  have hsz : (sizeOf (Tryd.prog.elem 25)).run Tryd.prog w = .ok 2 w := by kernel_rfl
  rw [run_sliceAt_array_h (P := Tryd.prog) w 25 ⟨h, 2, none⟩ (by kernel_rfl) .i64 (d : Int) (by omega) (by rw [hal]; omega), hsz]
  simp [slicedAt, hal, add_at]
theorem grown_setRow (w : World) (h : Nat) (cs : Array Value) : w.grownBy (w.setRow h cs) (some h) := ⟨rfl, rfl, rfl, by simp [World.setRow], fun k _ hk => setRow_other w h k cs (by simpa using hk)⟩
theorem infoSp : (Tryd.prog.info? 23).map (·.size) = some 2 := by kernel_rfl
set_option maxRecDepth 100000 in
theorem copy_rg {w : World} {g h : Nat} {q t : Qy} (Hq : QyB w g q) (Ht : QyB w h t) (hn : t.rg = Bx.nil) {d : Nat} (h1 : 1 ≤ d) (h4 : d ≤ 4) (ty : TypeId) :
    ∃ w2, (Builtin.copy_ #[56, 56] ty #[.slice (some ⟨h, 2, none⟩) d 5, .slice (some ⟨g, 2, none⟩) d 5]).run Tryd.prog w = .ok (goInt d) w2 ∧ QyB w2 h { t with rg := cutBx d q.rg } ∧ w.grownBy w2 (some h) := by
  have hsz : ∀ w : World, (sizeOf 23).run Tryd.prog w = .ok 2 w := fun w => by kernel_rfl
  obtain ⟨x0, x1, x2, x3, x4, x5, x6, x7, x8, x9, x10, x11, x12, x13, x14, x15, x16⟩ := Hq.in
  have hcs : ((spansV q.rg).take (d * 2)).length = d * 2 := by
    rw [List.length_take]
    show min (d * 2) 10 = _
    omega
  have hf := run_firstCells_some (P := Tryd.prog) (w := w) 2 d ⟨g, 2, none⟩ d 5 ((spansV q.rg).take (d * 2)) hcs (fun j v hj => by
    have hlt : j < d * 2 := by
      have := (List.getElem?_eq_some_iff.1 hj).1
      omega
    rw [List.getElem?_take_of_lt hlt] at hj
    have h10 : j < 10 := by omega
    rw [add_at]
    match j, h10 with
    | 0, _ => cases hj; exact x2
    | 1, _ => cases hj; exact x3
    | 2, _ => cases hj; exact x4
    | 3, _ => cases hj; exact x5
    | 4, _ => cases hj; exact x6
    | 5, _ => cases hj; exact x7
    | 6, _ => cases hj; exact x8
    | 7, _ => cases hj; exact x9
    | 8, _ => cases hj; exact x10
    | 9, _ => cases hj; exact x11
    | j + 10, hj => omega)
  have hst := run_storeCells_at (P := Tryd.prog) h 2 27 ((spansV q.rg).take (d * 2)) 0 _ w Ht (by rw [hcs]; show 2 + 0 + d * 2 ≤ 17; omega) (fun v hv => by
    have := List.mem_of_mem_take hv
    simp [spansV] at this
    rcases this with rfl | rfl | rfl | rfl | rfl | rfl | rfl | rfl | rfl | rfl <;> rfl)
  have hR : (((#[.int .i64 t.kd, .int .i64 t.cl, .int .i64 t.rg.a.lo, .int .i64 t.rg.a.hi, .int .i64 t.rg.b.lo, .int .i64 t.rg.b.hi, .int .i64 t.rg.c.lo, .int .i64 t.rg.c.hi, .int .i64 t.rg.d.lo, .int .i64 t.rg.d.hi, .int .i64 t.rg.e.lo, .int .i64 t.rg.e.hi, .int .i64 t.lo, .int .i64 t.hi, .int .i64 t.f, .bool t.fa, .int .i64 t.bu] : Array Value).toList.take (2 + 0) ++ (spansV q.rg).take (d * 2) ++ (#[.int .i64 t.kd, .int .i64 t.cl, .int .i64 t.rg.a.lo, .int .i64 t.rg.a.hi, .int .i64 t.rg.b.lo, .int .i64 t.rg.b.hi, .int .i64 t.rg.c.lo, .int .i64 t.rg.c.hi, .int .i64 t.rg.d.lo, .int .i64 t.rg.d.hi, .int .i64 t.rg.e.lo, .int .i64 t.rg.e.hi, .int .i64 t.lo, .int .i64 t.hi, .int .i64 t.f, .bool t.fa, .int .i64 t.bu] : Array Value).toList.drop (2 + 0 + ((spansV q.rg).take (d * 2)).length)).toArray) = (queryV { t with rg := cutBx d q.rg }).cells := by
    have : d = 1 ∨ d = 2 ∨ d = 3 ∨ d = 4 := by omega
    rcases this with rfl | rfl | rfl | rfl <;> rw [hn] <;> rfl
  rw [hR] at hst
  refine ⟨w.setRow h (queryV { t with rg := cutBx d q.rg }).cells, ?_, setRow_heap w h _ _ _ _ Ht, grown_setRow w h _⟩
  simp only [Builtin.copy_, List.getElem?_toArray, List.getElem?_cons_zero, List.getElem?_cons_succ, Sem.run_bind, run_underlying Tryd.underlying56, Result.andThen_ok, hsz, Builtin.lenOf, Sem.run_pure, Nat.min_def, Nat.le_refl, if_true, hf]
  simp only [hst, Result.andThen_ok]
end Go.Proofs.YtjpffempmlfoeaaDoor

namespace Go.Proofs.YtjpffempmlfoeaaDoor
open Go.RowKit M

set_option maxRecDepth 100000 in
set_option maxHeartbeats 3200000 in
theorem told_ans (q : Qy) (d : Nat) (h1 : 1 ≤ d) (h4 : d ≤ 4) : Ans 14 #[queryV q, .int .i64 (d : Int)] (queryV (toldI q d)) := fun w => by
  have J := rules8
  obtain ⟨kd, cl, ⟨⟨ra, rb⟩, ⟨rc, rd⟩, ⟨re, rf⟩, ⟨rg, rh⟩, ⟨ri, rj⟩⟩, lo, hi, f, fa, bu⟩ := q
  obtain ⟨w0, hw0⟩ : ∃ w0, (w.alloc (.cells #[.int .i64 kd, .int .i64 cl, .int .i64 ra, .int .i64 rb, .int .i64 rc, .int .i64 rd, .int .i64 re, .int .i64 rf, .int .i64 rg, .int .i64 rh, .int .i64 ri, .int .i64 rj, .int .i64 lo, .int .i64 hi, .int .i64 f, .bool fa, .int .i64 bu] 27)).alloc (.cells #[.int .i64 0, .int .i64 0, .int .i64 0, .int .i64 0, .int .i64 0, .int .i64 0, .int .i64 0, .int .i64 0, .int .i64 0, .int .i64 0, .int .i64 0, .int .i64 0, .int .i64 0, .int .i64 0, .int .i64 0, .bool false, .int .i64 0] 27) = w0 := ⟨_, rfl⟩
  have hsz : w0.heap.size = w.heap.size + 1 + 1 := by rw [← hw0]; simp
  have HSz := hid hsz
  have HJ0 : Hid (Jk w w0) := hw0 ▸ ((Jk.refl w).alloc _).alloc _
  have HQ0 : QyB w0 w.heap.size ⟨kd, cl, ⟨⟨ra, rb⟩, ⟨rc, rd⟩, ⟨re, rf⟩, ⟨rg, rh⟩, ⟨ri, rj⟩⟩, lo, hi, f, fa, bu⟩ := by
    rw [← hw0]
    exact (QyB.laid w ⟨kd, cl, ⟨⟨ra, rb⟩, ⟨rc, rd⟩, ⟨re, rf⟩, ⟨rg, rh⟩, ⟨ri, rj⟩⟩, lo, hi, f, fa, bu⟩).jk ((Jk.refl _).alloc _)
  have hz0 : QyB w0 (w.heap.size + 1) Qy.nil := by
    rw [← hw0]
    have := QyB.laid (w.alloc (.cells #[.int .i64 kd, .int .i64 cl, .int .i64 ra, .int .i64 rb, .int .i64 rc, .int .i64 rd, .int .i64 re, .int .i64 rf, .int .i64 rg, .int .i64 rh, .int .i64 ri, .int .i64 rj, .int .i64 lo, .int .i64 hi, .int .i64 f, .bool fa, .int .i64 bu] 27)) Qy.nil
    rwa [World.size_alloc] at this
  have HQ := hid HQ0
  have HZ := hid hz0
  have HT : Hid (toldI ⟨kd, cl, ⟨⟨ra, rb⟩, ⟨rc, rd⟩, ⟨re, rf⟩, ⟨rg, rh⟩, ⟨ri, rj⟩⟩, lo, hi, f, fa, bu⟩ d = ⟨kd, cl, cutBx d ⟨⟨ra, rb⟩, ⟨rc, rd⟩, ⟨re, rf⟩, ⟨rg, rh⟩, ⟨ri, rj⟩⟩, if kd = 1 then lo else 0, if kd = 1 then hi else 0, if kd = 3 then f else 0, if kd = 3 then fa else false, bu⟩) := rfl
  obtain ⟨cx, hcx⟩ : ∃ z, cutBx d ⟨⟨ra, rb⟩, ⟨rc, rd⟩, ⟨re, rf⟩, ⟨rg, rh⟩, ⟨ri, rj⟩⟩ = z := ⟨_, rfl⟩
  rw [HT.out, hcx]
  have HCX := hid hcx
  clear hcx HT
  obtain ⟨q0, q1, q2, q3, q4, q5, q6, q7, q8, q9, q10, q11, q12, q13, q14, q15, q16⟩ := HQ0.in
  have ql := HQ0.lt
  simp only at q0 q1 q2 q3 q4 q5 q6 q7 q8 q9 q10 q11 q12 q13 q14 q15 q16
  clear hz0 HQ0 hsz q2 q3 q4 q5 q6 q7 q8 q9 q10 q11
  go_enter Tryd.func14, Tryd.ntmps14
  go_upto_region 1 with fail
  go_cut [5] (fun p wc => ∃ g, p = .pointer (some ⟨g, 0, none⟩) ∧ w0.heap.size ≤ g ∧ QyB wc g ⟨kd, cl, Bx.nil, 0, 0, 0, false, bu⟩ ∧ Jk w0 wc)
  case first =>
    go_wp2
    go_meet
    case rel => exact ⟨_, rfl, Nat.le_refl _, QyB.laid w0 ⟨kd, cl, Bx.nil, 0, 0, 0, false, bu⟩, (Jk.refl w0).alloc _⟩
  case rest =>
    obtain ⟨g, rfl, hg, hB, hj⟩ := hcut
    obtain ⟨w1, rfl⟩ : ∃ z, z = wc := ⟨_, rfl⟩
    have s1 := fun w : World => run_cutR w g d h4
    have s2 := fun z : World => run_cutR z w.heap.size d h4
    have HB := hid hB
    have HJ := hid hj
    have HG := hid hg
    clear hj hB hg q0 q1 q12 q13 q14 q15 q16
    go_upto_region 2 with fail
    refine region_tail 6 #[true, true, true, true, true, true, false] (by kernel_rfl) (by decide) (by kernel_rfl) ?_
    dsimp only [List.take, List.drop]
    repeat (go_big_quiet_step (exact rfl))
    refine wpQuiet_nil ?_
    rintro _ ⟨X, rfl⟩
    have HJX : Hid (Jk w1 (junk w1 X)) := ⟨X, rfl⟩
    generalize junk w1 X = wx at HJX ⊢
    obtain ⟨w2, hcp, hB2, hg2⟩ := copy_rg (HQ.out.jk (HJ.out.trans HJX.out)) (HB.out.jk HJX.out) rfl h1 h4 3
    have HB2 := hid hB2
    have HQ2 := hid ((HQ.out.jk (HJ.out.trans HJX.out)).by hg2 (by have := ql; have := HG.out; omega))
    have HZ2 := hid ((HZ.out.jk (HJ.out.trans HJX.out)).by hg2 (by have := HSz.out; have := HG.out; omega))
    have HJ2 := hid (((HJ0.out.trans HJ.out).trans HJX.out).grown hg2 (fun k hk => by cases hk; have := HSz.out; have := HG.out; omega))
    simp only [HCX.out] at HB2
    clear hg2 hB2 HB HJ HJX s1 s2
    go_upto_region 3 with fail
    clear hcp
    obtain ⟨q0, q1, q2, q3, q4, q5, q6, q7, q8, q9, q10, q11, q12, q13, q14, q15, q16⟩ := HQ2.out.in
    have ql := HQ2.out.lt
    obtain ⟨x0, x1, x2, x3, x4, x5, x6, x7, x8, x9, x10, x11, x12, x13, x14, x15, x16⟩ := HB2.out.in
    have xl := HB2.out.lt
    have xf := HB2.out.frozen
    simp only at q0 q1 q2 q3 q4 q5 q6 q7 q8 q9 q10 q11 q12 q13 q14 q15 q16
    clear q2 q3 q4 q5 q6 q7 q8 q9 q10 q11 x2 x3 x4 x5 x6 x7 x8 x9 x10 x11
    by_cases k1 : kd = 1
    · subst k1
      have HB3 := hid ((HB2.out.setLo lo).setHi hi)
      have HG3 := hid ((grown_set w2 g 12 (.int .i64 lo)).trans (grown_set _ g 13 (.int .i64 hi)))
      go_upto_region 8 with fail
      generalize hw3 : (w2.setCell ⟨g, 12, none⟩ (.int .i64 lo)).setCell ⟨g, 13, none⟩ (.int .i64 hi) = w3 at HB3 HG3 ⊢
      have HZ3 := hid (HZ2.out.by HG3.out (by have := HSz.out; have := HG.out; omega))
      have HJ3 := hid (HJ2.out.grown HG3.out (fun k hk => by cases hk; have := HSz.out; have := HG.out; omega))
      clear hw3
      refine wp_region_lit ?_
      refine list_loadQ rfl _ rfl HB3.out rfl ?_
      refine list_storeQ rfl _ _ rfl HZ3.out rfl ⟨1, cl, cx, lo, hi, 0, false, bu⟩ rfl fun w9 hq9 hg9 => ?_
      have HJ9 := hid (HJ3.out.grown hg9 (fun k hk => by cases hk; exact Nat.le_succ _))
      go_wp2
      exact bodyPost_ret (results_cell Tryd.results14 rfl (load_Q hq9)) rfl ⟨rfl, HJ9.out⟩
    · by_cases k3 : kd = 3
      · subst k3
        have HB3 := hid ((HB2.out.setF f).setFa fa)
        have HG3 := hid ((grown_set w2 g 14 (.int .i64 f)).trans (grown_set _ g 15 (.bool fa)))
        go_upto_region 8 with fail
        generalize hw3 : (w2.setCell ⟨g, 14, none⟩ (.int .i64 f)).setCell ⟨g, 15, none⟩ (.bool fa) = w3 at HB3 HG3 ⊢
        have HZ3 := hid (HZ2.out.by HG3.out (by have := HSz.out; have := HG.out; omega))
        have HJ3 := hid (HJ2.out.grown HG3.out (fun k hk => by cases hk; have := HSz.out; have := HG.out; omega))
        clear hw3
        refine wp_region_lit ?_
        refine list_loadQ rfl _ rfl HB3.out rfl ?_
        refine list_storeQ rfl _ _ rfl HZ3.out rfl ⟨3, cl, cx, 0, 0, f, fa, bu⟩ rfl fun w9 hq9 hg9 => ?_
        have HJ9 := hid (HJ3.out.grown hg9 (fun k hk => by cases hk; exact Nat.le_succ _))
        go_wp2
        exact bodyPost_ret (results_cell Tryd.results14 rfl (load_Q hq9)) rfl ⟨rfl, HJ9.out⟩
      · go_upto_region 8 with fail
        refine wp_region_lit ?_
        refine list_loadQ rfl _ rfl HB2.out rfl ?_
        refine list_storeQ rfl _ _ rfl HZ2.out rfl ⟨kd, cl, cx, 0, 0, 0, false, bu⟩ rfl fun w9 hq9 hg9 => ?_
        have HJ9 := hid (HJ2.out.grown hg9 (fun k hk => by cases hk; exact Nat.le_succ _))
        go_wp2
        exact bodyPost_ret (results_cell Tryd.results14 rfl (load_Q hq9)) rfl ⟨rfl, HJ9.out⟩
end Go.Proofs.YtjpffempmlfoeaaDoor

namespace Go.Proofs.YtjpffempmlfoeaaDoor
open Go.RowKit M

set_option maxRecDepth 100000 in
set_option maxHeartbeats 3200000 in
theorem fits_ans (q : Qy) {b : Bool} (hb : b = true ↔ smallN q.cl ∧ smallN q.f ∧ smallN q.bu) : Ans 15 #[queryV q] (.bool b) := fun w => by
  have J := rules8
  obtain ⟨kd, cl, ⟨⟨ra, rb⟩, ⟨rc, rd⟩, ⟨re, rf⟩, ⟨rg, rh⟩, ⟨ri, rj⟩⟩, lo, hi, f, fa, bu⟩ := q
  obtain ⟨w0, hw0⟩ : ∃ w0, w.alloc (.cells #[.int .i64 kd, .int .i64 cl, .int .i64 ra, .int .i64 rb, .int .i64 rc, .int .i64 rd, .int .i64 re, .int .i64 rf, .int .i64 rg, .int .i64 rh, .int .i64 ri, .int .i64 rj, .int .i64 lo, .int .i64 hi, .int .i64 f, .bool fa, .int .i64 bu] 27) = w0 := ⟨_, rfl⟩
  have HJ0 : Hid (Jk w w0) := hw0 ▸ (Jk.refl w).alloc _
  have HQ : Hid (QyB w0 w.heap.size ⟨kd, cl, ⟨⟨ra, rb⟩, ⟨rc, rd⟩, ⟨re, rf⟩, ⟨rg, rh⟩, ⟨ri, rj⟩⟩, lo, hi, f, fa, bu⟩) := by
    rw [← hw0]
    exact QyB.laid w ⟨kd, cl, ⟨⟨ra, rb⟩, ⟨rc, rd⟩, ⟨re, rf⟩, ⟨rg, rh⟩, ⟨ri, rj⟩⟩, lo, hi, f, fa, bu⟩
  obtain ⟨q0, q1, q2, q3, q4, q5, q6, q7, q8, q9, q10, q11, q12, q13, q14, q15, q16⟩ := HQ.out.in
  have ql := HQ.out.lt
  simp only at q0 q1 q2 q3 q4 q5 q6 q7 q8 q9 q10 q11 q12 q13 q14 q15 q16
  clear q2 q3 q4 q5 q6 q7 q8 q9 q10 q11
  have HB : Hid (b = true ↔ smallN cl ∧ smallN f ∧ smallN bu) := hb
  have i0 := bx0 cl f bu
  have i1 := bx1 cl f bu
  have i2 := bx2 cl f bu
  clear hb
  go_enter Tryd.func15, Tryd.ntmps15
  go_upto_region 2 with fail
  go_loopg [12] 3 (fun r i wr => ∃ j : Nat, j + r = 3 ∧ i = .int .i64 (j : Int) ∧ Hid ((0 < j → smallN cl) ∧ (1 < j → smallN f) ∧ (2 < j → smallN bu)) ∧ Hid (Jk w0 wr))
  case atStart => exact ⟨0, by omega, rfl, hid ⟨fun h => absurd h (by omega), fun h => absurd h (by omega), fun h => absurd h (by omega)⟩, hid (Jk.refl w0)⟩
  case round =>
    obtain ⟨j, hj, rfl, HN, HJ⟩ := hrel
    by_cases hk : gk = 0
    · subst hk
      obtain rfl : j = 3 := by omega
      obtain rfl : true = b := (HB.out.2 ⟨HN.out.1 (by omega), HN.out.2.1 (by omega), HN.out.2.2 (by omega)⟩).symm
      go_wp2
      go_ret
      exact ⟨rfl, HJ0.out.trans HJ.out⟩
    · obtain ⟨r, rfl⟩ : ∃ r, gk = r + 1 := ⟨gk - 1, by omega⟩
      have : j = 0 ∨ j = 1 ∨ j = 2 := by omega
      rcases this with rfl | rfl | rfl
      · by_cases ha : cl < 0
        · have hd := decide_eq_true ha
          obtain rfl : false = b := (Bool.eq_false_iff.2 fun e => by
            have := (HB.out.1 e).1
            unfold smallN at this
            omega).symm
          go_wp2
          go_ret
          exact ⟨rfl, HJ0.out.trans HJ.out⟩
        · have hd := decide_eq_false ha
          by_cases hg : 1073741824 < cl
          · have hd2 := decide_eq_true hg
            obtain rfl : false = b := (Bool.eq_false_iff.2 fun e => by
              have := (HB.out.1 e).1
              unfold smallN at this
              omega).symm
            go_wp2
            go_ret
            exact ⟨rfl, HJ0.out.trans HJ.out⟩
          · have hd2 := decide_eq_false hg
            have hs : smallN cl := ⟨by omega, by omega⟩
            have HS : Hid (smallN cl) := hs
            have HN2 : Hid ((0 < 1 → smallN cl) ∧ (1 < 1 → smallN f) ∧ (2 < 1 → smallN bu)) := ⟨fun _ => hs, fun h => absurd h (by omega), fun h => absurd h (by omega)⟩
            clear hs
            go_wp2
            go_roundg r
            case measure => omega
            case rel => exact ⟨1, by omega, rfl, HN2, HJ⟩
      · by_cases ha : f < 0
        · have hd := decide_eq_true ha
          obtain rfl : false = b := (Bool.eq_false_iff.2 fun e => by
            have := (HB.out.1 e).2.1
            unfold smallN at this
            omega).symm
          go_wp2
          go_ret
          exact ⟨rfl, HJ0.out.trans HJ.out⟩
        · have hd := decide_eq_false ha
          by_cases hg : 1073741824 < f
          · have hd2 := decide_eq_true hg
            obtain rfl : false = b := (Bool.eq_false_iff.2 fun e => by
              have := (HB.out.1 e).2.1
              unfold smallN at this
              omega).symm
            go_wp2
            go_ret
            exact ⟨rfl, HJ0.out.trans HJ.out⟩
          · have hd2 := decide_eq_false hg
            have hs : smallN f := ⟨by omega, by omega⟩
            have HS : Hid (smallN f) := hs
            have HN2 : Hid ((0 < 2 → smallN cl) ∧ (1 < 2 → smallN f) ∧ (2 < 2 → smallN bu)) := ⟨fun _ => HN.out.1 (by omega), fun _ => hs, fun h => absurd h (by omega)⟩
            clear hs
            go_wp2
            go_roundg r
            case measure => omega
            case rel => exact ⟨2, by omega, rfl, HN2, HJ⟩
      · by_cases ha : bu < 0
        · have hd := decide_eq_true ha
          obtain rfl : false = b := (Bool.eq_false_iff.2 fun e => by
            have := (HB.out.1 e).2.2
            unfold smallN at this
            omega).symm
          go_wp2
          go_ret
          exact ⟨rfl, HJ0.out.trans HJ.out⟩
        · have hd := decide_eq_false ha
          by_cases hg : 1073741824 < bu
          · have hd2 := decide_eq_true hg
            obtain rfl : false = b := (Bool.eq_false_iff.2 fun e => by
              have := (HB.out.1 e).2.2
              unfold smallN at this
              omega).symm
            go_wp2
            go_ret
            exact ⟨rfl, HJ0.out.trans HJ.out⟩
          · have hd2 := decide_eq_false hg
            have hs : smallN bu := ⟨by omega, by omega⟩
            have HS : Hid (smallN bu) := hs
            have HN2 : Hid ((0 < 3 → smallN cl) ∧ (1 < 3 → smallN f) ∧ (2 < 3 → smallN bu)) := ⟨fun _ => HN.out.1 (by omega), fun _ => HN.out.2.1 (by omega), fun _ => hs⟩
            clear hs
            go_wp2
            go_roundg r
            case measure => omega
            case rel => exact ⟨3, by omega, rfl, HN2, HJ⟩

theorem way_ans (b : Bool) : AnsP 28 #[.bool b] (tx (wayT b)) := fun w => by
  cases b
  all_goals
    go_enter Tryd.func28, Tryd.ntmps28
    go_wp2
    go_ret
    exact ⟨rfl, rfl⟩

/-- a row of words of one's own -/
def WordsP (w : World) (L : List Txt) (e : Ending) (w' : World) : Prop := ∃ (g : Nat) (c : Nat), e = .returned (.slice (some ⟨g, 0, none⟩) L.length c) ∧ OwnS w.heap.size w' (.slice (some ⟨g, 0, none⟩) L.length c) L.length L ∧ Jk w w'

set_option maxRecDepth 100000 in
set_option maxHeartbeats 3200000 in
theorem kindW_1 {wb : World} (hL : LibA wb) (q : Qy) (hq : q.ok) (hk : q.kd = 1) (hc : smallN q.cl) {w : World} (hw : Jk wb w) : Calls Tryd.prog 16 #[queryV q] w fun e w' => WordsP w (headW q) e w' := by
  have J := rules8
  obtain ⟨kd, cl, ⟨⟨ra, rb⟩, ⟨rc, rd⟩, ⟨re, rf⟩, ⟨rg, rh⟩, ⟨ri, rj⟩⟩, lo, hi, f, fa, bu⟩ := q
  simp only at hk hc
  subst hk
  obtain ⟨w0, hw0⟩ : ∃ w0, w.alloc (.cells #[.int .i64 1, .int .i64 cl, .int .i64 ra, .int .i64 rb, .int .i64 rc, .int .i64 rd, .int .i64 re, .int .i64 rf, .int .i64 rg, .int .i64 rh, .int .i64 ri, .int .i64 rj, .int .i64 lo, .int .i64 hi, .int .i64 f, .bool fa, .int .i64 bu] 27) = w0 := ⟨_, rfl⟩
  have HJ0 : Hid (Jk w w0) := hw0 ▸ (Jk.refl w).alloc _
  have HQ : Hid (QyB w0 w.heap.size ⟨1, cl, ⟨⟨ra, rb⟩, ⟨rc, rd⟩, ⟨re, rf⟩, ⟨rg, rh⟩, ⟨ri, rj⟩⟩, lo, hi, f, fa, bu⟩) := by
    rw [← hw0]
    exact QyB.laid w ⟨1, cl, ⟨⟨ra, rb⟩, ⟨rc, rd⟩, ⟨re, rf⟩, ⟨rg, rh⟩, ⟨ri, rj⟩⟩, lo, hi, f, fa, bu⟩
  obtain ⟨q0, q1, q2, q3, q4, q5, q6, q7, q8, q9, q10, q11, q12, q13, q14, q15, q16⟩ := HQ.out.in
  have ql := HQ.out.lt
  simp only at q0 q1 q2 q3 q4 q5 q6 q7 q8 q9 q10 q11 q12 q13 q14 q15 q16
  clear q2 q3 q4 q5 q6 q7 q8 q9 q10 q11
  have HC := hid ((hL.itoa cl hc).at (hw.trans HJ0.out))
  have HLo := hid ((hL.print lo hq.lo).at (hw.trans HJ0.out))
  have HHi := hid ((hL.print hi hq.hi).at (hw.trans HJ0.out))
  obtain ⟨tc, htc⟩ : ∃ t, dg cl = t := ⟨_, rfl⟩
  obtain ⟨tl, htl⟩ : ∃ t, printL lo = t := ⟨_, rfl⟩
  obtain ⟨th, hth⟩ : ∃ t, printL hi = t := ⟨_, rfl⟩
  have HW : Hid (headW ⟨1, cl, ⟨⟨ra, rb⟩, ⟨rc, rd⟩, ⟨re, rf⟩, ⟨rg, rh⟩, ⟨ri, rj⟩⟩, lo, hi, f, fa, bu⟩ = [[114, 97, 110, 103, 101], tc, [102, 114, 111, 109], tl, [116, 111], th]) := by rw [← htc, ← htl, ← hth]; exact rfl
  rw [htc] at HC
  rw [htl] at HLo
  rw [hth] at HHi
  rw [HW.out]
  clear hL hw hq hc htc htl hth HW
  go_enter Tryd.func16, Tryd.ntmps16
  go_upto_region 4 with (go_at_call 19; refine (HC.out _ (Jk.refl _)).mono ?_; rintro e w1 ⟨rfl, X1, rfl⟩)
  have HJ1 : Hid (Jk w0 (junk w0 X1)) := ⟨X1, rfl⟩
  generalize junk w0 X1 = w1 at HJ1 ⊢
  clear q0 q1 q12 q13 q14 q15 q16 ql hw0
  obtain ⟨q0, q1, q2, q3, q4, q5, q6, q7, q8, q9, q10, q11, q12, q13, q14, q15, q16⟩ := (HQ.out.jk HJ1.out).in
  have ql := (HQ.out.jk HJ1.out).lt
  simp only at q0 q1 q2 q3 q4 q5 q6 q7 q8 q9 q10 q11 q12 q13 q14 q15 q16
  clear q2 q3 q4 q5 q6 q7 q8 q9 q10 q11
  refine region_tail 7 #[true, true, true, true, true, true, true, false, false] (by kernel_rfl) (by decide) (by kernel_rfl) ?_
  dsimp only [List.take, List.drop]
  repeat (go_big_quiet_step (first | (go_at_call 17; exact AnsW.junk (by with_reducible first | exact HLo.out.at HJ1.out | exact HHi.out.at HJ1.out) _) | exact rfl))
  refine wpQuiet_nil ?_
  rintro _ ⟨X, rfl⟩
  have HJX : Hid (Jk w (junk w1 X)) := (HJ0.out.trans HJ1.out).junk X
  generalize junk w1 X = wx at HJX ⊢
  go_wp2
  go_ret
  refine ⟨wx.heap.size, 6, rfl, ⟨rfl, lit_own wx #[tx [114, 97, 110, 103, 101], tx tc, tx [102, 114, 111, 109], tx tl, tx [116, 111], tx th] 9 1 6 rfl HJX.out.below.size (by decide) rfl⟩, HJX.out.alloc _⟩

set_option maxRecDepth 100000 in
set_option maxHeartbeats 3200000 in
theorem kindW_2 {wb : World} (hL : LibA wb) (q : Qy) (hk : q.kd = 2) (hc : smallN q.cl) {w : World} (hw : Jk wb w) : Calls Tryd.prog 16 #[queryV q] w fun e w' => WordsP w (headW q) e w' := by
  have J := rules8
  obtain ⟨kd, cl, ⟨⟨ra, rb⟩, ⟨rc, rd⟩, ⟨re, rf⟩, ⟨rg, rh⟩, ⟨ri, rj⟩⟩, lo, hi, f, fa, bu⟩ := q
  simp only at hk hc
  subst hk
  obtain ⟨w0, hw0⟩ : ∃ w0, w.alloc (.cells #[.int .i64 2, .int .i64 cl, .int .i64 ra, .int .i64 rb, .int .i64 rc, .int .i64 rd, .int .i64 re, .int .i64 rf, .int .i64 rg, .int .i64 rh, .int .i64 ri, .int .i64 rj, .int .i64 lo, .int .i64 hi, .int .i64 f, .bool fa, .int .i64 bu] 27) = w0 := ⟨_, rfl⟩
  have HJ0 : Hid (Jk w w0) := hw0 ▸ (Jk.refl w).alloc _
  have HQ : Hid (QyB w0 w.heap.size ⟨2, cl, ⟨⟨ra, rb⟩, ⟨rc, rd⟩, ⟨re, rf⟩, ⟨rg, rh⟩, ⟨ri, rj⟩⟩, lo, hi, f, fa, bu⟩) := by
    rw [← hw0]
    exact QyB.laid w ⟨2, cl, ⟨⟨ra, rb⟩, ⟨rc, rd⟩, ⟨re, rf⟩, ⟨rg, rh⟩, ⟨ri, rj⟩⟩, lo, hi, f, fa, bu⟩
  obtain ⟨q0, q1, q2, q3, q4, q5, q6, q7, q8, q9, q10, q11, q12, q13, q14, q15, q16⟩ := HQ.out.in
  have ql := HQ.out.lt
  simp only at q0 q1 q2 q3 q4 q5 q6 q7 q8 q9 q10 q11 q12 q13 q14 q15 q16
  clear q2 q3 q4 q5 q6 q7 q8 q9 q10 q11
  have HC := hid ((hL.itoa cl hc).at (hw.trans HJ0.out))
  obtain ⟨tc, htc⟩ : ∃ t, dg cl = t := ⟨_, rfl⟩
  have HW : Hid (headW ⟨2, cl, ⟨⟨ra, rb⟩, ⟨rc, rd⟩, ⟨re, rf⟩, ⟨rg, rh⟩, ⟨ri, rj⟩⟩, lo, hi, f, fa, bu⟩ = [[98, 101, 115, 116], tc]) := by rw [← htc]; exact rfl
  rw [htc] at HC
  rw [HW.out]
  clear hL hw hc htc HW
  go_enter Tryd.func16, Tryd.ntmps16
  go_upto_region 6 with (go_at_call 19; refine (HC.out _ (Jk.refl _)).mono ?_; rintro e w1 ⟨rfl, X1, rfl⟩)
  have HJX : Hid (Jk w (junk w0 X1)) := HJ0.out.junk X1
  generalize junk w0 X1 = wx at HJX ⊢
  go_wp2
  go_ret
  refine ⟨wx.heap.size, 2, rfl, ⟨rfl, lit_own wx #[tx [98, 101, 115, 116], tx tc] 9 1 2 rfl HJX.out.below.size (by decide) rfl⟩, HJX.out.alloc _⟩

set_option maxRecDepth 100000 in
set_option maxHeartbeats 3200000 in
theorem kindW_3 {wb : World} (hL : LibA wb) (q : Qy) (hk : q.kd = 3) (hc : smallN q.cl) (hf : smallN q.f) {w : World} (hw : Jk wb w) : Calls Tryd.prog 16 #[queryV q] w fun e w' => WordsP w (headW q) e w' := by
  have J := rules8
  obtain ⟨kd, cl, ⟨⟨ra, rb⟩, ⟨rc, rd⟩, ⟨re, rf⟩, ⟨rg, rh⟩, ⟨ri, rj⟩⟩, lo, hi, f, fa, bu⟩ := q
  simp only at hk hc hf
  subst hk
  obtain ⟨w0, hw0⟩ : ∃ w0, w.alloc (.cells #[.int .i64 3, .int .i64 cl, .int .i64 ra, .int .i64 rb, .int .i64 rc, .int .i64 rd, .int .i64 re, .int .i64 rf, .int .i64 rg, .int .i64 rh, .int .i64 ri, .int .i64 rj, .int .i64 lo, .int .i64 hi, .int .i64 f, .bool fa, .int .i64 bu] 27) = w0 := ⟨_, rfl⟩
  have HJ0 : Hid (Jk w w0) := hw0 ▸ (Jk.refl w).alloc _
  have HQ : Hid (QyB w0 w.heap.size ⟨3, cl, ⟨⟨ra, rb⟩, ⟨rc, rd⟩, ⟨re, rf⟩, ⟨rg, rh⟩, ⟨ri, rj⟩⟩, lo, hi, f, fa, bu⟩) := by
    rw [← hw0]
    exact QyB.laid w ⟨3, cl, ⟨⟨ra, rb⟩, ⟨rc, rd⟩, ⟨re, rf⟩, ⟨rg, rh⟩, ⟨ri, rj⟩⟩, lo, hi, f, fa, bu⟩
  obtain ⟨q0, q1, q2, q3, q4, q5, q6, q7, q8, q9, q10, q11, q12, q13, q14, q15, q16⟩ := HQ.out.in
  have ql := HQ.out.lt
  simp only at q0 q1 q2 q3 q4 q5 q6 q7 q8 q9 q10 q11 q12 q13 q14 q15 q16
  clear q2 q3 q4 q5 q6 q7 q8 q9 q10 q11
  have HC := hid ((hL.itoa cl hc).at (hw.trans HJ0.out))
  have HF := hid ((hL.itoa f hf).at (hw.trans HJ0.out))
  have HWy := hid ((way_ans fa).ansW w0)
  obtain ⟨tc, htc⟩ : ∃ t, dg cl = t := ⟨_, rfl⟩
  obtain ⟨tf, htf⟩ : ∃ t, dg f = t := ⟨_, rfl⟩
  obtain ⟨ty, hty⟩ : ∃ t, wayT fa = t := ⟨_, rfl⟩
  have HW : Hid (headW ⟨3, cl, ⟨⟨ra, rb⟩, ⟨rc, rd⟩, ⟨re, rf⟩, ⟨rg, rh⟩, ⟨ri, rj⟩⟩, lo, hi, f, fa, bu⟩ = [ty, tc, [98, 121], tf]) := by rw [← htc, ← htf, ← hty]; exact rfl
  rw [htc] at HC
  rw [htf] at HF
  rw [hty] at HWy
  rw [HW.out]
  clear hL hw hc hf htc htf hty HW
  go_enter Tryd.func16, Tryd.ntmps16
  go_upto_region 8 with (go_at_call 19; refine (HC.out _ (Jk.refl _)).mono ?_; rintro e w1 ⟨rfl, X1, rfl⟩)
  have HJ1 : Hid (Jk w0 (junk w0 X1)) := ⟨X1, rfl⟩
  generalize junk w0 X1 = w1 at HJ1 ⊢
  clear q0 q1 q12 q13 q14 q15 q16 ql hw0
  obtain ⟨q0, q1, q2, q3, q4, q5, q6, q7, q8, q9, q10, q11, q12, q13, q14, q15, q16⟩ := (HQ.out.jk HJ1.out).in
  have ql := (HQ.out.jk HJ1.out).lt
  simp only at q0 q1 q2 q3 q4 q5 q6 q7 q8 q9 q10 q11 q12 q13 q14 q15 q16
  clear q2 q3 q4 q5 q6 q7 q8 q9 q10 q11
  refine region_tail 7 #[true, true, true, true, true, true, true, false, false] (by kernel_rfl) (by decide) (by kernel_rfl) ?_
  dsimp only [List.take, List.drop]
  repeat (go_big_quiet_step (first | (go_at_call 28; exact AnsW.junk (by with_reducible exact HWy.out.at HJ1.out) _) | (go_at_call 19; exact AnsW.junk (by with_reducible exact HF.out.at HJ1.out) _) | exact rfl))
  refine wpQuiet_nil ?_
  rintro _ ⟨X, rfl⟩
  have HJX : Hid (Jk w (junk w1 X)) := (HJ0.out.trans HJ1.out).junk X
  generalize junk w1 X = wx at HJX ⊢
  go_wp2
  go_ret
  refine ⟨wx.heap.size, 4, rfl, ⟨rfl, lit_own wx #[tx ty, tx tc, tx [98, 121], tx tf] 9 1 4 rfl HJX.out.below.size (by decide) rfl⟩, HJX.out.alloc _⟩

set_option maxRecDepth 100000 in
set_option maxHeartbeats 3200000 in
theorem kindW_no {wb : World} (hL : LibA wb) (q : Qy) (h1 : ¬ q.kd = 1) (h2 : ¬ q.kd = 2) (h3 : ¬ q.kd = 3) (hc : smallN q.cl) : AnsW wb 16 #[queryV q] (.slice none 0 0) := fun w hw => by
  have J := rules8
  obtain ⟨kd, cl, ⟨⟨ra, rb⟩, ⟨rc, rd⟩, ⟨re, rf⟩, ⟨rg, rh⟩, ⟨ri, rj⟩⟩, lo, hi, f, fa, bu⟩ := q
  simp only at h1 h2 h3 hc
  obtain ⟨w0, hw0⟩ : ∃ w0, w.alloc (.cells #[.int .i64 kd, .int .i64 cl, .int .i64 ra, .int .i64 rb, .int .i64 rc, .int .i64 rd, .int .i64 re, .int .i64 rf, .int .i64 rg, .int .i64 rh, .int .i64 ri, .int .i64 rj, .int .i64 lo, .int .i64 hi, .int .i64 f, .bool fa, .int .i64 bu] 27) = w0 := ⟨_, rfl⟩
  have HJ0 : Hid (Jk w w0) := hw0 ▸ (Jk.refl w).alloc _
  have HQ : Hid (QyB w0 w.heap.size ⟨kd, cl, ⟨⟨ra, rb⟩, ⟨rc, rd⟩, ⟨re, rf⟩, ⟨rg, rh⟩, ⟨ri, rj⟩⟩, lo, hi, f, fa, bu⟩) := by
    rw [← hw0]
    exact QyB.laid w ⟨kd, cl, ⟨⟨ra, rb⟩, ⟨rc, rd⟩, ⟨re, rf⟩, ⟨rg, rh⟩, ⟨ri, rj⟩⟩, lo, hi, f, fa, bu⟩
  obtain ⟨q0, q1, q2, q3, q4, q5, q6, q7, q8, q9, q10, q11, q12, q13, q14, q15, q16⟩ := HQ.out.in
  have ql := HQ.out.lt
  simp only at q0 q1 q2 q3 q4 q5 q6 q7 q8 q9 q10 q11 q12 q13 q14 q15 q16
  clear q2 q3 q4 q5 q6 q7 q8 q9 q10 q11
  have HC := hid ((hL.itoa cl hc).at (hw.trans HJ0.out))
  obtain ⟨tc, htc⟩ : ∃ t, dg cl = t := ⟨_, rfl⟩
  rw [htc] at HC
  clear hL hw hc htc
  go_enter Tryd.func16, Tryd.ntmps16
  go_wp2_with (go_at_call 19; refine (HC.out _ (Jk.refl _)).mono ?_; rintro e w1 ⟨rfl, X1, rfl⟩)
  go_ret
  exact ⟨rfl, HJ0.out.junk X1⟩
end Go.Proofs.YtjpffempmlfoeaaDoor
