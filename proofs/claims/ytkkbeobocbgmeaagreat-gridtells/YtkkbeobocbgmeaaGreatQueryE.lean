/- What isMatched, turns and Breaks of package query answer.
   What Breaks of package query answers. -/
import Derived.Test.YtkkbeobocbgmeaaGreatQueryK
import Derived.Test.YtkkbeobocbgmeaaGreatQueryC
import Derived.Test.YtkkbeobocbgmeaaGreatStart
namespace Go.Proofs.YtkkbeobocbgmeaaGreat
open Go.RowKit M

/-- another class has no lesser sum -/
def beatP (m : Md) (p : Int → Int) (cl : Int) : Prop := ∃ c : Int, 0 ≤ c ∧ c < m.k ∧ c ≠ cl ∧ m.sum p cl ≤ m.sum p c
/-- the sum turns from a point to the second one -/
def turnP (m : Md) (q : Qy) (p : Int → Int) (t : Int) : Prop := (q.fa = true ∧ m.sum p q.cl < m.sum (secondI q p t) q.cl) ∨ (q.fa = false ∧ m.sum (secondI q p t) q.cl < m.sum p q.cl)
/-- what breaks a query -/
def BreaksP (m : Md) (q : Qy) (p : Int → Int) (t : Int) : Prop := RightQ m q ∧ ((q.kd = 1 ∧ ¬ (q.lo ≤ m.sum p q.cl ∧ m.sum p q.cl ≤ q.hi)) ∨ (q.kd = 2 ∧ beatP m p q.cl) ∨ (q.kd = 3 ∧ p q.f < t ∧ turnP m q p t))
open Classical in
theorem beat_bool (m : Md) (p : Int → Int) (c : Int) : ∃ b : Bool, b = true ↔ beatP m p c := ⟨decide (beatP m p c), by simp⟩
open Classical in
theorem turn_bool (m : Md) (q : Qy) (p : Int → Int) (t : Int) : ∃ b : Bool, b = true ↔ turnP m q p t := ⟨decide (turnP m q p t), by simp⟩
open Classical in
theorem breaks_bool (m : Md) (q : Qy) (p : Int → Int) (t : Int) : ∃ b : Bool, b = true ↔ BreaksP m q p t := ⟨decide (BreaksP m q p t), by simp⟩

theorem quiet_loadQ {ops : Array Oper} {rest : List Oper} {C : World → Prop} {Q : Act → Prop} {a : Act} {o : Oper} {h : Nat} {q : Qy} (hC : ∀ z, C z → QyB z h q) (hgd : o.guard = none) (x : Operand) (ho : o.op = .load 38 x) (hx : a.eval x = .pointer (some ⟨h, 0, none⟩))
    (hh : ∀ K : Act → Prop, (∀ a, wpQuiet Tryz.prog ops C Q rest a → K a) → K (a.put o.dst (queryV q))) : wpQuiet Tryz.prog ops C Q (o :: rest) a := by
  refine wpQuiet_step fun K hK' => ?_
  have hw : Region.wanted o (yielded ops a.tmps) = true := by simp [Region.wanted, hgd]
  rw [if_pos hw]
  refine ⟨queryV q, fun w hw => ?_, hh K hK'⟩
  unfold Oper.quietAt execOp
  simp only [ho, hx, Instr.loadAt, Instr.sureAddr, Sem.run_bind, Sem.run_pure, Result.andThen_ok, load_Q (hC w hw)]
  exact ⟨rfl, rfl⟩

set_option maxRecDepth 100000 in
set_option maxHeartbeats 3200000 in
theorem matched_ans {m : Md} {cl : Int} {b : Bool} (p : Int → Int) {ww : World} (hm : m.ok ww) (hr : RightM m) (c0 : 0 ≤ cl) (c1 : cl < m.k) (hb : b = true ↔ beatP m p cl) : AnsW ww 38 #[modelV m, .int .i64 cl, pointV p] (.bool b) := fun w hjw => by
  have J := rules8
  have HE0 : Hid (∀ c : Int, 0 ≤ c → c < m.k → AnsW w 37 #[modelV m, .int .i64 c, pointV p] (.int .i64 (m.sum p c))) := fun c h0 h1 => eval_ans p (hm.jk hjw) (hr.evalP p h0 h1)
  obtain ⟨S, hS⟩ : ∃ S, m.sum p = S := ⟨_, rfl⟩
  have HB : Hid (b = true ↔ ∃ c : Int, 0 ≤ c ∧ c < m.k ∧ c ≠ cl ∧ S cl ≤ S c) := by
    show b = true ↔ _
    rw [hb, ← hS]
    exact Iff.rfl
  rw [hS] at HE0
  have HEc0 := hid (HE0.out cl c0 c1)
  obtain ⟨sc, hsc⟩ : ∃ z, S cl = z := ⟨_, rfl⟩
  rw [hsc] at HB HEc0
  clear hsc
  have hk1 := hr.k1
  have hk3 := hr.k3
  clear hb hS hr hm hjw
  obtain ⟨d, k, b0, b1, b2, ma, mn, mc, ts⟩ := m
  simp only at HE0 HEc0 HB c1 hk1 hk3
  obtain ⟨K, rfl⟩ := Int.eq_ofNat_of_zero_le (show 0 ≤ k by omega)
  obtain ⟨p0, e0⟩ : ∃ z, p 0 = z := ⟨_, rfl⟩
  obtain ⟨p1, e1⟩ : ∃ z, p 1 = z := ⟨_, rfl⟩
  obtain ⟨p2, e2⟩ : ∃ z, p 2 = z := ⟨_, rfl⟩
  obtain ⟨p3, e3⟩ : ∃ z, p 3 = z := ⟨_, rfl⟩
  simp only [modelV, pointV, e0, e1, e2, e3] at HE0 HEc0 ⊢
  clear e0 e1 e2 e3
  obtain ⟨w0, hw0⟩ : ∃ w0, (w.alloc (.cells #[.int .i64 d, .int .i64 (K : Int), .int .i64 b0, .int .i64 b1, .int .i64 b2, .slice ma mn mc] 31)).alloc (.cells #[.int .i64 p0, .int .i64 p1, .int .i64 p2, .int .i64 p3] 70) = w0 := ⟨_, rfl⟩
  have HJ0 : Hid (Jk w w0) := hw0 ▸ ((Jk.refl w).alloc _).alloc _
  have HM : Hid (MdIn w0 w.heap.size ⟨d, (K : Int), b0, b1, b2, ma, mn, mc, ts⟩) := by
    rw [← hw0]
    exact (MdIn.laid w ⟨d, (K : Int), b0, b1, b2, ma, mn, mc, ts⟩ _).jk ((Jk.refl _).alloc _)
  have HPt : Hid (PtIn w0 (w.heap.size + 1) p0 p1 p2 p3) := by
    rw [← hw0]
    have := PtIn.laid (w.alloc (.cells #[.int .i64 d, .int .i64 (K : Int), .int .i64 b0, .int .i64 b1, .int .i64 b2, .slice ma mn mc] 31)) p0 p1 p2 p3 70
    rwa [World.size_alloc] at this
  have HE : Hid (∀ c : Int, 0 ≤ c → c < (K : Int) → AnsW w0 37 #[.agg #[.int .i64 d, .int .i64 (K : Int), .int .i64 b0, .int .i64 b1, .int .i64 b2, .slice ma mn mc], .int .i64 c, .agg #[.int .i64 p0, .int .i64 p1, .int .i64 p2, .int .i64 p3]] (.int .i64 (S c))) := fun c h0 h1 => (HE0.out c h0 h1).up HJ0.out
  clear HE0
  obtain ⟨m0, m1, m2, m3, m4, m5, m6⟩ := HM.out
  obtain ⟨pt0, pt1, pt2, pt3, pt4⟩ := HPt.out
  simp only at m1 m2 m3 m4 m5 m6
  have HEc := hid (HEc0.out.up HJ0.out)
  clear HEc0
  go_enter Tryz.func38, Tryz.ntmps38
  go_upto_region 3 with (first | (go_at_call 37; refine (HEc.out.on _ (by exact Jk.refl _)).mono ?_; rintro e w1 ⟨rfl, hj1⟩; have HJ1 := hid hj1; clear hj1; clear m0 m1 m2 m3 m4 m5 m6 pt0 pt1 pt2 pt3 pt4; obtain ⟨m0, m1, m2, m3, m4, m5, m6⟩ := HM.out.jk HJ1.out; simp only at m1 m2 m3 m4 m5 m6))
  clear m0 m1 m2 m3 m4 m5 m6
  go_loopg [15] K (fun r i wr => ∃ j : Nat, j + r = K ∧ i = .int .i64 (j : Int) ∧ Hid (∀ c : Int, 0 ≤ c → c < (j : Int) → c ≠ cl → S c < sc) ∧ Hid (Jk w0 wr))
  case atStart => exact ⟨0, by omega, rfl, hid fun c h0 h1 _ => absurd h1 (by omega), HJ1⟩
  case round =>
    obtain ⟨j, hj, rfl, HP, HJ⟩ := hrel
    clear HJ1
    by_cases hfuel : gk = 0
    · subst hfuel
      obtain rfl : j = K := by omega
      obtain rfl : false = b := (Bool.eq_false_iff.2 fun e => by
        obtain ⟨c, h0, h1, h2, h3⟩ := HB.out.1 e
        have := HP.out c h0 h1 h2
        omega).symm
      go_wp2
      go_ret
      exact ⟨rfl, HJ0.out.trans HJ.out⟩
    · obtain ⟨r, rfl⟩ : ∃ r, gk = r + 1 := ⟨gk - 1, by omega⟩
      have hjk : (j : Int) < (K : Int) := by omega
      obtain ⟨m0, m1, m2, m3, m4, m5, m6⟩ := HM.out.jk HJ.out
      obtain ⟨pt0, pt1, pt2, pt3, pt4⟩ := HPt.out.jk HJ.out
      simp only at m1 m2 m3 m4 m5 m6
      by_cases hjc : (j : Int) = cl
      · have HN : Hid (∀ c : Int, 0 ≤ c → c < ((j + 1 : Nat) : Int) → c ≠ cl → S c < sc) := fun c h0 h1 h2 => by
          by_cases h3 : c = (j : Int)
          · omega
          · exact HP.out c h0 (by omega) h2
        have hjb : ((j : Int) != cl) = false := by simpa using hjc
        go_wp2
        go_roundg r
        case measure => omega
        case rel => exact ⟨j + 1, by omega, by go_num, HN, HJ⟩
      · have hjb : ((j : Int) != cl) = true := by simpa using hjc
        have HEj := hid ((HE.out (j : Int) (by omega) hjk).up HJ.out)
        by_cases hs : sc ≤ S (j : Int)
        · obtain rfl : true = b := (HB.out.2 ⟨(j : Int), by omega, hjk, hjc, hs⟩).symm
          obtain ⟨sj, hsj⟩ : ∃ z, S (j : Int) = z := ⟨_, rfl⟩
          rw [hsj] at HEj hs
          have hs' : decide (sc ≤ sj) = true := by simpa using hs
          clear hs
          go_wp2_with (first | (go_at_call 37; refine (HEj.out.on _ (by exact Jk.refl _)).mono ?_; rintro e w2 ⟨rfl, hj2⟩; have HJ2 := hid hj2; clear hj2))
          go_ret
          exact ⟨rfl, (HJ0.out.trans HJ.out).trans HJ2.out⟩
        · have HN : Hid (∀ c : Int, 0 ≤ c → c < ((j + 1 : Nat) : Int) → c ≠ cl → S c < sc) := fun c h0 h1 h2 => by
            by_cases h3 : c = (j : Int)
            · subst h3; omega
            · exact HP.out c h0 (by omega) h2
          obtain ⟨sj, hsj⟩ : ∃ z, S (j : Int) = z := ⟨_, rfl⟩
          rw [hsj] at HEj hs
          have hs' : decide (sc ≤ sj) = false := by simpa using hs
          clear hs
          go_wp2_with (first | (go_at_call 37; refine (HEj.out.on _ (by exact Jk.refl _)).mono ?_; rintro e w2 ⟨rfl, hj2⟩; have HJ2 := hid hj2; clear hj2))
          go_roundg r
          case measure => omega
          case rel => exact ⟨j + 1, by omega, by go_num, HN, hid (HJ.out.trans HJ2.out)⟩

set_option maxRecDepth 100000 in
set_option maxHeartbeats 3200000 in
theorem turns_ans {m : Md} {q : Qy} {b : Bool} (p : Int → Int) (t : Int) {ww : World} (hm : m.ok ww) (hr : RightM m) (c0 : 0 ≤ q.cl) (c1 : q.cl < m.k) (hb : b = true ↔ turnP m q p t) : AnsW ww 39 #[modelV m, queryV q, pointV p, .int .i64 t] (.bool b) := fun w hjw => by
  have J := rules8
  have HE0 : Hid (∀ p : Int → Int, AnsW w 37 #[modelV m, .int .i64 q.cl, pointV p] (.int .i64 (m.sum p q.cl))) := fun p => eval_ans p (hm.jk hjw) (hr.evalP p c0 c1)
  have HS := hid (second_ans q p t)
  have HEa := hid (HE0.out p)
  have HEb := hid (HE0.out (secondI q p t))
  have HB := hid hb
  unfold turnP at HB
  obtain ⟨x, hx⟩ : ∃ z, m.sum p q.cl = z := ⟨_, rfl⟩
  obtain ⟨y, hy⟩ : ∃ z, m.sum (secondI q p t) q.cl = z := ⟨_, rfl⟩
  rw [hx] at HEa HB
  rw [hy] at HEb HB
  clear hb hx hy hr hm hjw c0 c1 HE0
  obtain ⟨d, k, b0, b1, b2, ma, mn, mc, ts⟩ := m
  obtain ⟨kd, cl, ⟨⟨ra, rb⟩, ⟨rc, rd⟩, ⟨re, rf⟩, ⟨rg, rh⟩, ⟨ri, rj⟩⟩, lo, hi, f, fa, bu⟩ := q
  obtain ⟨p', hp'⟩ : ∃ z, secondI ⟨kd, cl, ⟨⟨ra, rb⟩, ⟨rc, rd⟩, ⟨re, rf⟩, ⟨rg, rh⟩, ⟨ri, rj⟩⟩, lo, hi, f, fa, bu⟩ p t = z := ⟨_, rfl⟩
  rw [hp'] at HS HEb
  clear hp'
  simp only at HB HEa HEb HS
  obtain ⟨p0, e0⟩ : ∃ z, p 0 = z := ⟨_, rfl⟩
  obtain ⟨p1, e1⟩ : ∃ z, p 1 = z := ⟨_, rfl⟩
  obtain ⟨p2, e2⟩ : ∃ z, p 2 = z := ⟨_, rfl⟩
  obtain ⟨p3, e3⟩ : ∃ z, p 3 = z := ⟨_, rfl⟩
  obtain ⟨s0, g0⟩ : ∃ z, p' 0 = z := ⟨_, rfl⟩
  obtain ⟨s1, g1⟩ : ∃ z, p' 1 = z := ⟨_, rfl⟩
  obtain ⟨s2, g2⟩ : ∃ z, p' 2 = z := ⟨_, rfl⟩
  obtain ⟨s3, g3⟩ : ∃ z, p' 3 = z := ⟨_, rfl⟩
  simp only [modelV, pointV, queryV, e0, e1, e2, e3, g0, g1, g2, g3] at HEa HEb HS ⊢
  clear e0 e1 e2 e3 g0 g1 g2 g3
  obtain ⟨w0, hw0⟩ : ∃ w0, ((w.alloc (.cells #[.int .i64 d, .int .i64 k, .int .i64 b0, .int .i64 b1, .int .i64 b2, .slice ma mn mc] 31)).alloc (.cells #[.int .i64 kd, .int .i64 cl, .int .i64 ra, .int .i64 rb, .int .i64 rc, .int .i64 rd, .int .i64 re, .int .i64 rf, .int .i64 rg, .int .i64 rh, .int .i64 ri, .int .i64 rj, .int .i64 lo, .int .i64 hi, .int .i64 f, .bool fa, .int .i64 bu] 38)).alloc (.cells #[.int .i64 p0, .int .i64 p1, .int .i64 p2, .int .i64 p3] 70) = w0 := ⟨_, rfl⟩
  have HJ0 : Hid (Jk w w0) := hw0 ▸ (((Jk.refl w).alloc _).alloc _).alloc _
  have HM : Hid (MdIn w0 w.heap.size ⟨d, k, b0, b1, b2, ma, mn, mc, ts⟩) := by
    rw [← hw0]
    exact (MdIn.laid w ⟨d, k, b0, b1, b2, ma, mn, mc, ts⟩ _).jk (((Jk.refl _).alloc _).alloc _)
  have HQ : Hid (QyB w0 (w.heap.size + 1) ⟨kd, cl, ⟨⟨ra, rb⟩, ⟨rc, rd⟩, ⟨re, rf⟩, ⟨rg, rh⟩, ⟨ri, rj⟩⟩, lo, hi, f, fa, bu⟩) := by
    rw [← hw0]
    have := (QyB.laid (w.alloc (.cells #[.int .i64 d, .int .i64 k, .int .i64 b0, .int .i64 b1, .int .i64 b2, .slice ma mn mc] 31)) ⟨kd, cl, ⟨⟨ra, rb⟩, ⟨rc, rd⟩, ⟨re, rf⟩, ⟨rg, rh⟩, ⟨ri, rj⟩⟩, lo, hi, f, fa, bu⟩).jk ((Jk.refl _).alloc (.cells #[.int .i64 p0, .int .i64 p1, .int .i64 p2, .int .i64 p3] 70))
    rwa [World.size_alloc] at this
  have HPt : Hid (PtIn w0 (w.heap.size + 1 + 1) p0 p1 p2 p3) := by
    rw [← hw0]
    have := PtIn.laid ((w.alloc (.cells #[.int .i64 d, .int .i64 k, .int .i64 b0, .int .i64 b1, .int .i64 b2, .slice ma mn mc] 31)).alloc (.cells #[.int .i64 kd, .int .i64 cl, .int .i64 ra, .int .i64 rb, .int .i64 rc, .int .i64 rd, .int .i64 re, .int .i64 rf, .int .i64 rg, .int .i64 rh, .int .i64 ri, .int .i64 rj, .int .i64 lo, .int .i64 hi, .int .i64 f, .bool fa, .int .i64 bu] 38)) p0 p1 p2 p3 70
    rwa [World.size_alloc, World.size_alloc] at this
  obtain ⟨m0, m1, m2, m3, m4, m5, m6⟩ := HM.out
  obtain ⟨pt0, pt1, pt2, pt3, pt4⟩ := HPt.out
  obtain ⟨q0, q1, q2, q3, q4, q5, q6, q7, q8, q9, q10, q11, q12, q13, q14, q15, q16⟩ := HQ.out.in
  have ql := HQ.out.lt
  simp only at m1 m2 m3 m4 m5 m6 q0 q1 q2 q3 q4 q5 q6 q7 q8 q9 q10 q11 q12 q13 q14 q15 q16
  have HEa' := hid (HEa.out.up HJ0.out)
  have HEb' := hid (HEb.out.up HJ0.out)
  clear HEa HEb
  go_enter Tryz.func39, Tryz.ntmps39
  go_upto_region 1 with fail
  go_cut [9, 10] (fun v9 v10 wc => v9 = .int .i64 x ∧ v10 = .int .i64 y ∧ Jk w0 wc)
  case first =>
    refine region_junk (by kernel_rfl) (by kernel_rfl) ?_
    iterate 8 (go_big_quiet_step (first | (go_at_call 37; exact AnsW.junk (by with_reducible first | exact HEa'.out | exact HEb'.out) _) | exact rfl))
    refine quiet_loadQ (by rintro _ ⟨X, rfl⟩; exact HQ.out.jk ⟨X, rfl⟩) rfl _ rfl rfl ?_
    intro K hK
    simp only [Act.put, List.setIfInBounds_toArray, List.set_cons_succ, List.set_cons_zero]
    go_big_quiet_on
    repeat (go_big_quiet_step (first | (go_at_call 55; exact on_junk HS.out _) | (go_at_call 37; exact AnsW.junk (by with_reducible first | exact HEa'.out | exact HEb'.out) _) | exact rfl))
    refine wpQuiet_nil ?_
    rintro _ ⟨X, rfl⟩
    go_wp2
    go_meet
    case rel => exact ⟨rfl, rfl, ⟨X, rfl⟩⟩
  case rest =>
    obtain ⟨rfl, rfl, hj⟩ := hcut
    obtain ⟨w1, rfl⟩ : ∃ z, z = wc := ⟨_, rfl⟩
    have HJ1 := hid hj
    clear hj q0 q1 q2 q3 q4 q5 q6 q7 q8 q9 q10 q11 q12 q13 q14 q15 q16
    obtain ⟨q0, q1, q2, q3, q4, q5, q6, q7, q8, q9, q10, q11, q12, q13, q14, q15, q16⟩ := (HQ.out.jk HJ1.out).in
    simp only at q0 q1 q2 q3 q4 q5 q6 q7 q8 q9 q10 q11 q12 q13 q14 q15 q16
    cases fa
    · have HB' : Hid (b = true ↔ y < x) := HB.out.trans (by simp)
      by_cases h : y < x
      · obtain rfl : true = b := (HB'.out.2 h).symm
        go_wp2
        go_ret
        exact ⟨by first | rfl | exact ret_bool (by simp [*]), HJ0.out.trans HJ1.out⟩
      · obtain rfl : false = b := (Bool.eq_false_iff.2 fun e => h (HB'.out.1 e)).symm
        go_wp2
        go_ret
        exact ⟨by first | rfl | exact ret_bool (by simp; omega), HJ0.out.trans HJ1.out⟩
    · have HB' : Hid (b = true ↔ x < y) := HB.out.trans (by simp)
      by_cases h : x < y
      · obtain rfl : true = b := (HB'.out.2 h).symm
        go_wp2
        go_ret
        exact ⟨by first | rfl | exact ret_bool (by simp [*]), HJ0.out.trans HJ1.out⟩
      · obtain rfl : false = b := (Bool.eq_false_iff.2 fun e => h (HB'.out.1 e)).symm
        go_wp2
        go_ret
        exact ⟨by first | rfl | exact ret_bool (by simp; omega), HJ0.out.trans HJ1.out⟩

end Go.Proofs.YtkkbeobocbgmeaaGreat

namespace Go.Proofs.YtkkbeobocbgmeaaGreat
open Go.RowKit M

theorem list_loadM {ops : Array Oper} {rest : List Oper} {o : Oper} {act : Act} {Q : Exit → Act → World → Prop} {w : World} (hgd : o.guard = none) (x : Operand) (ho : o.op = .load 31 x) {h : Nat} {m : Md} (H : MdB w h m) (hx : act.eval x = .pointer (some ⟨h, 0, none⟩))
    (hK : wpList Tryz.prog ops Q rest (act.put o.dst (modelV m)) w) : wpList Tryz.prog ops Q (o :: rest) act w :=
  wpList_plain hgd fun _ hK' => wp_load_row 31 x ho h hx _ _ _ _ H Tryz.underlying31 rfl (by kernel_rfl) (hK' _ _ hK)
theorem RightQ.f {m : Md} {q : Qy} (h : RightQ m q) (h3 : q.kd = 3) : 0 ≤ q.f ∧ q.f < m.d := by
  rcases h.kd with ⟨e, _⟩ | ⟨e, _⟩ | ⟨_, h1, h2, _⟩
  · omega
  · omega
  · exact ⟨h1, h2⟩
theorem has_W {x y n : Int} {b : Bool} (h : hasB x y n = b) : Ans 36 #[.agg #[.int .i64 x, .int .i64 y], .int .i64 n] (.bool b) := fun w => has_is h w

set_option maxRecDepth 100000 in
set_option maxHeartbeats 6400000 in
theorem breaks_ans {m : Md} {q : Qy} {b : Bool} (p : Int → Int) (t : Int) {ww : World} (hm : m.ok ww) (hb : b = true ↔ BreaksP m q p t) : AnsW ww 24 #[modelV m, queryV q, pointV p, .int .i64 t] (.bool b) := fun w hjw => by
  have J := rules8
  have hmw := hm.jk hjw
  obtain ⟨br, hbr⟩ := rightQ_bool m q
  have HR0 := hid (qright_ans hmw hbr)
  cases br
  · obtain rfl : false = b := (Bool.eq_false_iff.2 fun e => by have := hbr.2 (hb.1 e).1; cases this).symm
    clear hb hbr hm hjw hmw
    obtain ⟨d, k, b0, b1, b2, ma, mn, mc, ts⟩ := m
    obtain ⟨kd, cl, ⟨⟨ra, rb⟩, ⟨rc, rd⟩, ⟨re, rf⟩, ⟨rg, rh⟩, ⟨ri, rj⟩⟩, lo, hi, f, fa, bu⟩ := q
    obtain ⟨p0, e0⟩ : ∃ z, p 0 = z := ⟨_, rfl⟩
    obtain ⟨p1, e1⟩ : ∃ z, p 1 = z := ⟨_, rfl⟩
    obtain ⟨p2, e2⟩ : ∃ z, p 2 = z := ⟨_, rfl⟩
    obtain ⟨p3, e3⟩ : ∃ z, p 3 = z := ⟨_, rfl⟩
    simp only [modelV, pointV, queryV, e0, e1, e2, e3] at HR0 ⊢
    clear e0 e1 e2 e3
    obtain ⟨w0, hw0⟩ : ∃ w0, ((w.alloc (.cells #[.int .i64 d, .int .i64 k, .int .i64 b0, .int .i64 b1, .int .i64 b2, .slice ma mn mc] 31)).alloc (.cells #[.int .i64 kd, .int .i64 cl, .int .i64 ra, .int .i64 rb, .int .i64 rc, .int .i64 rd, .int .i64 re, .int .i64 rf, .int .i64 rg, .int .i64 rh, .int .i64 ri, .int .i64 rj, .int .i64 lo, .int .i64 hi, .int .i64 f, .bool fa, .int .i64 bu] 38)).alloc (.cells #[.int .i64 p0, .int .i64 p1, .int .i64 p2, .int .i64 p3] 70) = w0 := ⟨_, rfl⟩
    have HJ0 : Hid (Jk w w0) := hw0 ▸ (((Jk.refl w).alloc _).alloc _).alloc _
    have HM : Hid (MdB w0 w.heap.size ⟨d, k, b0, b1, b2, ma, mn, mc, ts⟩) := by
      rw [← hw0]
      exact (MdB.laid w ⟨d, k, b0, b1, b2, ma, mn, mc, ts⟩).jk (((Jk.refl _).alloc _).alloc _)
    have HQ : Hid (QyB w0 (w.heap.size + 1) ⟨kd, cl, ⟨⟨ra, rb⟩, ⟨rc, rd⟩, ⟨re, rf⟩, ⟨rg, rh⟩, ⟨ri, rj⟩⟩, lo, hi, f, fa, bu⟩) := by
      rw [← hw0]
      have := (QyB.laid (w.alloc (.cells #[.int .i64 d, .int .i64 k, .int .i64 b0, .int .i64 b1, .int .i64 b2, .slice ma mn mc] 31)) ⟨kd, cl, ⟨⟨ra, rb⟩, ⟨rc, rd⟩, ⟨re, rf⟩, ⟨rg, rh⟩, ⟨ri, rj⟩⟩, lo, hi, f, fa, bu⟩).jk ((Jk.refl _).alloc (.cells #[.int .i64 p0, .int .i64 p1, .int .i64 p2, .int .i64 p3] 70))
      rwa [World.size_alloc] at this
    have HPt : Hid (PtIn w0 (w.heap.size + 1 + 1) p0 p1 p2 p3) := by
      rw [← hw0]
      have := PtIn.laid ((w.alloc (.cells #[.int .i64 d, .int .i64 k, .int .i64 b0, .int .i64 b1, .int .i64 b2, .slice ma mn mc] 31)).alloc (.cells #[.int .i64 kd, .int .i64 cl, .int .i64 ra, .int .i64 rb, .int .i64 rc, .int .i64 rd, .int .i64 re, .int .i64 rf, .int .i64 rg, .int .i64 rh, .int .i64 ri, .int .i64 rj, .int .i64 lo, .int .i64 hi, .int .i64 f, .bool fa, .int .i64 bu] 38)) p0 p1 p2 p3 70
      rwa [World.size_alloc, World.size_alloc] at this
    have HR := hid (HR0.out.up HJ0.out)
    go_enter Tryz.func24, Tryz.ntmps24
    go_upto_region 1 with fail
    refine wp_region_lit ?_
    refine list_loadM rfl _ rfl HM.out rfl ?_
    refine list_loadQ rfl _ rfl HQ.out rfl ?_
    go_wp2_with (first | (go_at_call 35; refine (HR.out.on _ (by exact Jk.refl _)).mono ?_; rintro e w1 ⟨rfl, hj1⟩; have HJ1 := hid hj1; clear hj1))
    go_ret
    exact ⟨rfl, HJ0.out.trans HJ1.out⟩
  · have hr := hbr.1 rfl
    have HB : Hid (b = true ↔ (q.kd = 1 ∧ ¬ (q.lo ≤ m.sum p q.cl ∧ m.sum p q.cl ≤ q.hi)) ∨ (q.kd = 2 ∧ beatP m p q.cl) ∨ (q.kd = 3 ∧ p q.f < t ∧ turnP m q p t)) := by
      show b = true ↔ _
      rw [hb]
      exact ⟨fun h => h.2, fun h => ⟨hr, h⟩⟩
    have HEv := hid (eval_ans p hmw (hr.mr.evalP p hr.c0 hr.c1))
    obtain ⟨bm, hbm⟩ := beat_bool m p q.cl
    obtain ⟨bt, hbt⟩ := turn_bool m q p t
    have HMt := hid (matched_ans p hmw hr.mr hr.c0 hr.c1 hbm)
    have HTn := hid (turns_ans p t hmw hr.mr hr.c0 hr.c1 hbt)
    have HBm := hid hbm
    have HBt := hid hbt
    have hkd : q.kd = 1 ∨ q.kd = 2 ∨ q.kd = 3 := by rcases hr.kd with h | h | h <;> omega
    have hf3 : q.kd = 3 → q.f = 0 ∨ q.f = 1 ∨ q.f = 2 ∨ q.f = 3 := fun h => by
      have h1 := hr.f h
      have h2 := hr.mr.d4
      omega
    have HLt : Hid (∀ i : Int, q.f = i → (b = true ↔ (q.kd = 1 ∧ ¬ (q.lo ≤ m.sum p q.cl ∧ m.sum p q.cl ≤ q.hi)) ∨ (q.kd = 2 ∧ beatP m p q.cl) ∨ (q.kd = 3 ∧ p i < t ∧ turnP m q p t))) := fun i e => e ▸ HB.out
    obtain ⟨E, hE⟩ : ∃ z, m.sum p q.cl = z := ⟨_, rfl⟩
    rw [hE] at HB HEv HLt
    obtain ⟨BP, hBP⟩ : ∃ z : Prop, beatP m p q.cl = z := ⟨_, rfl⟩
    obtain ⟨TP, hTP⟩ : ∃ z : Prop, turnP m q p t = z := ⟨_, rfl⟩
    rw [hBP] at HB HBm HLt
    rw [hTP] at HB HBt HLt
    clear hE hBP hTP hb hbr hbm hbt hm hjw hmw hr
    obtain ⟨d, k, b0, b1, b2, ma, mn, mc, ts⟩ := m
    obtain ⟨kd, cl, ⟨⟨ra, rb⟩, ⟨rc, rd⟩, ⟨re, rf⟩, ⟨rg, rh⟩, ⟨ri, rj⟩⟩, lo, hi, f, fa, bu⟩ := q
    simp only at HB HLt hkd hf3 HEv HMt HTn
    obtain ⟨p0, e0⟩ : ∃ z, p 0 = z := ⟨_, rfl⟩
    obtain ⟨p1, e1⟩ : ∃ z, p 1 = z := ⟨_, rfl⟩
    obtain ⟨p2, e2⟩ : ∃ z, p 2 = z := ⟨_, rfl⟩
    obtain ⟨p3, e3⟩ : ∃ z, p 3 = z := ⟨_, rfl⟩
    simp only [modelV, pointV, queryV, e0, e1, e2, e3] at HR0 HEv HMt HTn ⊢
    obtain ⟨w0, hw0⟩ : ∃ w0, ((w.alloc (.cells #[.int .i64 d, .int .i64 k, .int .i64 b0, .int .i64 b1, .int .i64 b2, .slice ma mn mc] 31)).alloc (.cells #[.int .i64 kd, .int .i64 cl, .int .i64 ra, .int .i64 rb, .int .i64 rc, .int .i64 rd, .int .i64 re, .int .i64 rf, .int .i64 rg, .int .i64 rh, .int .i64 ri, .int .i64 rj, .int .i64 lo, .int .i64 hi, .int .i64 f, .bool fa, .int .i64 bu] 38)).alloc (.cells #[.int .i64 p0, .int .i64 p1, .int .i64 p2, .int .i64 p3] 70) = w0 := ⟨_, rfl⟩
    have HJ0 : Hid (Jk w w0) := hw0 ▸ (((Jk.refl w).alloc _).alloc _).alloc _
    have HM : Hid (MdB w0 w.heap.size ⟨d, k, b0, b1, b2, ma, mn, mc, ts⟩) := by
      rw [← hw0]
      exact (MdB.laid w ⟨d, k, b0, b1, b2, ma, mn, mc, ts⟩).jk (((Jk.refl _).alloc _).alloc _)
    have HQ : Hid (QyB w0 (w.heap.size + 1) ⟨kd, cl, ⟨⟨ra, rb⟩, ⟨rc, rd⟩, ⟨re, rf⟩, ⟨rg, rh⟩, ⟨ri, rj⟩⟩, lo, hi, f, fa, bu⟩) := by
      rw [← hw0]
      have := (QyB.laid (w.alloc (.cells #[.int .i64 d, .int .i64 k, .int .i64 b0, .int .i64 b1, .int .i64 b2, .slice ma mn mc] 31)) ⟨kd, cl, ⟨⟨ra, rb⟩, ⟨rc, rd⟩, ⟨re, rf⟩, ⟨rg, rh⟩, ⟨ri, rj⟩⟩, lo, hi, f, fa, bu⟩).jk ((Jk.refl _).alloc (.cells #[.int .i64 p0, .int .i64 p1, .int .i64 p2, .int .i64 p3] 70))
      rwa [World.size_alloc] at this
    have HPt : Hid (PtIn w0 (w.heap.size + 1 + 1) p0 p1 p2 p3) := by
      rw [← hw0]
      have := PtIn.laid ((w.alloc (.cells #[.int .i64 d, .int .i64 k, .int .i64 b0, .int .i64 b1, .int .i64 b2, .slice ma mn mc] 31)).alloc (.cells #[.int .i64 kd, .int .i64 cl, .int .i64 ra, .int .i64 rb, .int .i64 rc, .int .i64 rd, .int .i64 re, .int .i64 rf, .int .i64 rg, .int .i64 rh, .int .i64 ri, .int .i64 rj, .int .i64 lo, .int .i64 hi, .int .i64 f, .bool fa, .int .i64 bu] 38)) p0 p1 p2 p3 70
      rwa [World.size_alloc, World.size_alloc] at this
    have HR := hid (HR0.out.up HJ0.out)
    have HE0 := hid (HEv.out.up HJ0.out)
    have HM0 := hid (HMt.out.up HJ0.out)
    have HT0 := hid (HTn.out.up HJ0.out)
    clear HR0 HEv HMt HTn
    go_enter Tryz.func24, Tryz.ntmps24
    go_upto_region 1 with fail
    refine wp_region_lit ?_
    refine list_loadM rfl _ rfl HM.out rfl ?_
    refine list_loadQ rfl _ rfl HQ.out rfl ?_
    go_upto_region 3 with (first | (go_at_call 35; refine (HR.out.on _ (by exact Jk.refl _)).mono ?_; rintro e w1 ⟨rfl, hj1⟩; have HJ1 := hid hj1; clear hj1))
    obtain ⟨m0, m1, m2, m3, m4, m5, m6⟩ := (HM.out.jk HJ1.out).in
    obtain ⟨pt0, pt1, pt2, pt3, pt4⟩ := HPt.out.jk HJ1.out
    obtain ⟨q0, q1, q2, q3, q4, q5, q6, q7, q8, q9, q10, q11, q12, q13, q14, q15, q16⟩ := (HQ.out.jk HJ1.out).in
    have ql := (HQ.out.jk HJ1.out).lt
    simp only at m1 m2 m3 m4 m5 m6 q0 q1 q2 q3 q4 q5 q6 q7 q8 q9 q10 q11 q12 q13 q14 q15 q16
    have HE1 := hid (HE0.out.up HJ1.out)
    have HM1 := hid (HM0.out.up HJ1.out)
    have HT1 := hid (HT0.out.up HJ1.out)
    clear HE0 HM0 HT0 HR
    rcases hkd with rfl | rfl | rfl
    · clear hf3 HLt HM1 HT1 HBm HBt
      obtain ⟨hb', hhb⟩ : ∃ z, hasB lo hi E = z := ⟨_, rfl⟩
      have HH := hid (has_W hhb)
      obtain rfl : (!hb') = b := by
        have h2 : b = true ↔ ¬ (lo ≤ E ∧ E ≤ hi) := HB.out.trans (by simp)
        have h3 : hb' = true ↔ (lo ≤ E ∧ E ≤ hi) := hhb ▸ (by simp [hasB])
        rw [Bool.eq_iff_iff, h2, ← h3]
        cases hb' <;> simp
      clear hhb HB
      go_upto_region 5 with fail
      refine region_junk (by kernel_rfl) (by kernel_rfl) ?_
      repeat (go_big_quiet_step (first | (go_at_call 37; exact AnsW.junk (by with_reducible exact HE1.out) _) | (go_at_call 36; exact on_junk HH.out _) | exact rfl))
      refine wpQuiet_nil ?_
      rintro _ ⟨X, rfl⟩
      go_wp2
      go_ret
      exact ⟨by cases hb' <;> rfl, HJ0.out.trans (HJ1.out.trans ⟨X, rfl⟩)⟩
    · clear hf3 HLt HT1 HBt HE1
      obtain rfl : bm = b := by
        have h1 : b = true ↔ BP := HB.out.trans (by simp)
        have h2 := HBm.out
        cases b <;> cases bm <;> simp_all
      clear HB HBm
      go_wp2_with (first | (go_at_call 38; refine (HM1.out.on _ (by exact Jk.refl _)).mono ?_; rintro e w2 ⟨rfl, hj2⟩; have HJ2 := hid hj2; clear hj2))
      go_ret
      exact ⟨rfl, HJ0.out.trans (HJ1.out.trans HJ2.out)⟩
    · clear HE1 HM1 HBm
      have hf := hf3 rfl
      clear hf3
      rcases hf with rfl | rfl | rfl | rfl
      · have h1 : b = true ↔ p0 < t ∧ TP := (HLt.out 0 rfl).trans (by simp [e0])
        clear HLt HB e0 e1 e2 e3
        by_cases ht : p0 < t
        · obtain rfl : bt = b := by
            have h2 := HBt.out
            cases b <;> cases bt <;> simp_all
          clear HBt h1
          go_wp2_with (first | (go_at_call 39; refine (HT1.out.on _ (by exact Jk.refl _)).mono ?_; rintro e w2 ⟨rfl, hj2⟩; have HJ2 := hid hj2; clear hj2))
          go_ret
          exact ⟨rfl, HJ0.out.trans (HJ1.out.trans HJ2.out)⟩
        · obtain rfl : false = b := (Bool.eq_false_iff.2 fun e => ht (h1.1 e).1).symm
          clear h1 HBt
          go_wp2
          go_ret
          exact ⟨rfl, HJ0.out.trans HJ1.out⟩
      · have h1 : b = true ↔ p1 < t ∧ TP := (HLt.out 1 rfl).trans (by simp [e1])
        clear HLt HB e0 e1 e2 e3
        by_cases ht : p1 < t
        · obtain rfl : bt = b := by
            have h2 := HBt.out
            cases b <;> cases bt <;> simp_all
          clear HBt h1
          go_wp2_with (first | (go_at_call 39; refine (HT1.out.on _ (by exact Jk.refl _)).mono ?_; rintro e w2 ⟨rfl, hj2⟩; have HJ2 := hid hj2; clear hj2))
          go_ret
          exact ⟨rfl, HJ0.out.trans (HJ1.out.trans HJ2.out)⟩
        · obtain rfl : false = b := (Bool.eq_false_iff.2 fun e => ht (h1.1 e).1).symm
          clear h1 HBt
          go_wp2
          go_ret
          exact ⟨rfl, HJ0.out.trans HJ1.out⟩
      · have h1 : b = true ↔ p2 < t ∧ TP := (HLt.out 2 rfl).trans (by simp [e2])
        clear HLt HB e0 e1 e2 e3
        by_cases ht : p2 < t
        · obtain rfl : bt = b := by
            have h2 := HBt.out
            cases b <;> cases bt <;> simp_all
          clear HBt h1
          go_wp2_with (first | (go_at_call 39; refine (HT1.out.on _ (by exact Jk.refl _)).mono ?_; rintro e w2 ⟨rfl, hj2⟩; have HJ2 := hid hj2; clear hj2))
          go_ret
          exact ⟨rfl, HJ0.out.trans (HJ1.out.trans HJ2.out)⟩
        · obtain rfl : false = b := (Bool.eq_false_iff.2 fun e => ht (h1.1 e).1).symm
          clear h1 HBt
          go_wp2
          go_ret
          exact ⟨rfl, HJ0.out.trans HJ1.out⟩
      · have h1 : b = true ↔ p3 < t ∧ TP := (HLt.out 3 rfl).trans (by simp [e3])
        clear HLt HB e0 e1 e2 e3
        by_cases ht : p3 < t
        · obtain rfl : bt = b := by
            have h2 := HBt.out
            cases b <;> cases bt <;> simp_all
          clear HBt h1
          go_wp2_with (first | (go_at_call 39; refine (HT1.out.on _ (by exact Jk.refl _)).mono ?_; rintro e w2 ⟨rfl, hj2⟩; have HJ2 := hid hj2; clear hj2))
          go_ret
          exact ⟨rfl, HJ0.out.trans (HJ1.out.trans HJ2.out)⟩
        · obtain rfl : false = b := (Bool.eq_false_iff.2 fun e => ht (h1.1 e).1).symm
          clear h1 HBt
          go_wp2
          go_ret
          exact ⟨rfl, HJ0.out.trans HJ1.out⟩

end Go.Proofs.YtkkbeobocbgmeaaGreat
