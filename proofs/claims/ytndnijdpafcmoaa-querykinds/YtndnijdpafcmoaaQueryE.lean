/- What Breaks of package query answers. -/
import Derived.Test.YtndnijdpafcmoaaQueryD
namespace Go.Proofs.Ytndnijdpafcmoaa
open Go.RowKit M

theorem list_loadM {ops : Array Oper} {rest : List Oper} {o : Oper} {act : Act} {Q : Exit → Act → World → Prop} {w : World} (hgd : o.guard = none) (x : Operand) (ho : o.op = .load 33 x) {h : Nat} {m : Md} (H : MdB w h m) (hx : act.eval x = .pointer (some ⟨h, 0, none⟩))
    (hK : wpList Try.prog ops Q rest (act.put o.dst (modelV m)) w) : wpList Try.prog ops Q (o :: rest) act w :=
  wpList_plain hgd fun _ hK' => wp_load_row 33 x ho h hx _ _ _ _ H Try.underlying33 rfl (by kernel_rfl) (hK' _ _ hK)
theorem RightQ.f {m : Md} {q : Qy} (h : RightQ m q) (h3 : q.kd = 3) : 0 ≤ q.f ∧ q.f < m.d := by
  rcases h.kd with ⟨e, _⟩ | ⟨e, _⟩ | ⟨_, h1, h2, _⟩
  · omega
  · omega
  · exact ⟨h1, h2⟩
theorem has_W {x y n : Int} {b : Bool} (h : hasB x y n = b) : Ans 22 #[.agg #[.int .i64 x, .int .i64 y], .int .i64 n] (.bool b) := fun w => has_is h w

set_option maxRecDepth 100000 in
set_option maxHeartbeats 6400000 in
theorem breaks_ans {m : Md} {q : Qy} {b : Bool} (p : Int → Int) (t : Int) {ww : World} (hm : m.ok ww) (hb : b = true ↔ BreaksP m q p t) : AnsW ww 9 #[modelV m, queryV q, pointV p, .int .i64 t] (.bool b) := fun w hjw => by
  have J := rules8
  have hmw := hm.jk hjw
  obtain ⟨br, hbr⟩ := rightQ_bool m q
  have HR0 := hid (qright_ans hmw hbr)
  cases br
  · obtain rfl : false = b := (Bool.eq_false_iff.2 fun e => by have := hbr.2 (hb.1 e).1; cases this).symm
    clear hb hbr hm hjw hmw
    obtain ⟨d, k, b0, b1, b2, ma, mn, mc, ts⟩ := m
    obtain ⟨kd, cl, ⟨⟨ra, rb⟩, ⟨rc, rd⟩, ⟨re, rf⟩, ⟨rg, rh⟩, ⟨ri, rj⟩⟩, lo, hi, f, fa, bu⟩ := q
    obtain ⟨p0, e0⟩ : ∃ z, p 0 = z := ⟨_, rfl⟩
    obtain ⟨p1, e1⟩ : ∃ z, p 1 = z := ⟨_, rfl⟩
    obtain ⟨p2, e2⟩ : ∃ z, p 2 = z := ⟨_, rfl⟩
    obtain ⟨p3, e3⟩ : ∃ z, p 3 = z := ⟨_, rfl⟩
    simp only [modelV, pointV, queryV, e0, e1, e2, e3] at HR0 ⊢
    clear e0 e1 e2 e3
    obtain ⟨w0, hw0⟩ : ∃ w0, ((w.alloc (.cells #[.int .i64 d, .int .i64 k, .int .i64 b0, .int .i64 b1, .int .i64 b2, .slice ma mn mc] 33)).alloc (.cells #[.int .i64 kd, .int .i64 cl, .int .i64 ra, .int .i64 rb, .int .i64 rc, .int .i64 rd, .int .i64 re, .int .i64 rf, .int .i64 rg, .int .i64 rh, .int .i64 ri, .int .i64 rj, .int .i64 lo, .int .i64 hi, .int .i64 f, .bool fa, .int .i64 bu] 40)).alloc (.cells #[.int .i64 p0, .int .i64 p1, .int .i64 p2, .int .i64 p3] 29) = w0 := ⟨_, rfl⟩
    have HJ0 : Hid (Jk w w0) := hw0 ▸ (((Jk.refl w).alloc _).alloc _).alloc _
    have HM : Hid (MdB w0 w.heap.size ⟨d, k, b0, b1, b2, ma, mn, mc, ts⟩) := by
      rw [← hw0]
      exact (MdB.laid w ⟨d, k, b0, b1, b2, ma, mn, mc, ts⟩).jk (((Jk.refl _).alloc _).alloc _)
    have HQ : Hid (QyB w0 (w.heap.size + 1) ⟨kd, cl, ⟨⟨ra, rb⟩, ⟨rc, rd⟩, ⟨re, rf⟩, ⟨rg, rh⟩, ⟨ri, rj⟩⟩, lo, hi, f, fa, bu⟩) := by
      rw [← hw0]
      have := (QyB.laid (w.alloc (.cells #[.int .i64 d, .int .i64 k, .int .i64 b0, .int .i64 b1, .int .i64 b2, .slice ma mn mc] 33)) ⟨kd, cl, ⟨⟨ra, rb⟩, ⟨rc, rd⟩, ⟨re, rf⟩, ⟨rg, rh⟩, ⟨ri, rj⟩⟩, lo, hi, f, fa, bu⟩).jk ((Jk.refl _).alloc (.cells #[.int .i64 p0, .int .i64 p1, .int .i64 p2, .int .i64 p3] 29))
      rwa [World.size_alloc] at this
    have HPt : Hid (PtIn w0 (w.heap.size + 1 + 1) p0 p1 p2 p3) := by
      rw [← hw0]
      have := PtIn.laid ((w.alloc (.cells #[.int .i64 d, .int .i64 k, .int .i64 b0, .int .i64 b1, .int .i64 b2, .slice ma mn mc] 33)).alloc (.cells #[.int .i64 kd, .int .i64 cl, .int .i64 ra, .int .i64 rb, .int .i64 rc, .int .i64 rd, .int .i64 re, .int .i64 rf, .int .i64 rg, .int .i64 rh, .int .i64 ri, .int .i64 rj, .int .i64 lo, .int .i64 hi, .int .i64 f, .bool fa, .int .i64 bu] 40)) p0 p1 p2 p3 29
      rwa [World.size_alloc, World.size_alloc] at this
    have HR := hid (HR0.out.up HJ0.out)
    go_enter Try.func9, Try.ntmps9
    go_upto_region 1 with fail
    refine wp_region_lit ?_
    refine list_loadM rfl _ rfl HM.out rfl ?_
    refine list_loadQ rfl _ rfl HQ.out rfl ?_
    go_wp2_with (first | (go_at_call 6; refine (HR.out.on _ (by exact Jk.refl _)).mono ?_; rintro e w1 ⟨rfl, hj1⟩; have HJ1 := hid hj1; clear hj1))
    go_ret
    exact ⟨rfl, HJ0.out.trans HJ1.out⟩
  · have hr := hbr.1 rfl
    have HB : Hid (b = true ↔ (q.kd = 1 ∧ ¬ (q.lo ≤ m.sum p q.cl ∧ m.sum p q.cl ≤ q.hi)) ∨ (q.kd = 2 ∧ beatP m p q.cl) ∨ (q.kd = 3 ∧ p q.f < t ∧ turnP m q p t)) := by
      show b = true ↔ _
      rw [hb]
      exact ⟨fun h => h.2, fun h => ⟨hr, h⟩⟩
    have HEv := hid (eval_ans p hmw (hr.mr.evalP p hr.c0 hr.c1))
    obtain ⟨bm, hbm⟩ := beat_bool m p q.cl
    obtain ⟨bt, hbt⟩ := turn_bool m q p t
    have HMt := hid (matched_ans p hmw hr.mr hr.c0 hr.c1 hbm)
    have HTn := hid (turns_ans p t hmw hr.mr hr.c0 hr.c1 hbt)
    have HBm := hid hbm
    have HBt := hid hbt
    have hkd : q.kd = 1 ∨ q.kd = 2 ∨ q.kd = 3 := by rcases hr.kd with h | h | h <;> omega
    have hf3 : q.kd = 3 → q.f = 0 ∨ q.f = 1 ∨ q.f = 2 ∨ q.f = 3 := fun h => by
      have h1 := hr.f h
      have h2 := hr.mr.d4
      omega
    have HLt : Hid (∀ i : Int, q.f = i → (b = true ↔ (q.kd = 1 ∧ ¬ (q.lo ≤ m.sum p q.cl ∧ m.sum p q.cl ≤ q.hi)) ∨ (q.kd = 2 ∧ beatP m p q.cl) ∨ (q.kd = 3 ∧ p i < t ∧ turnP m q p t))) := fun i e => e ▸ HB.out
    obtain ⟨E, hE⟩ : ∃ z, m.sum p q.cl = z := ⟨_, rfl⟩
    rw [hE] at HB HEv HLt
    obtain ⟨BP, hBP⟩ : ∃ z : Prop, beatP m p q.cl = z := ⟨_, rfl⟩
    obtain ⟨TP, hTP⟩ : ∃ z : Prop, turnP m q p t = z := ⟨_, rfl⟩
    rw [hBP] at HB HBm HLt
    rw [hTP] at HB HBt HLt
    clear hE hBP hTP hb hbr hbm hbt hm hjw hmw hr
    obtain ⟨d, k, b0, b1, b2, ma, mn, mc, ts⟩ := m
    obtain ⟨kd, cl, ⟨⟨ra, rb⟩, ⟨rc, rd⟩, ⟨re, rf⟩, ⟨rg, rh⟩, ⟨ri, rj⟩⟩, lo, hi, f, fa, bu⟩ := q
    simp only at HB HLt hkd hf3 HEv HMt HTn
    obtain ⟨p0, e0⟩ : ∃ z, p 0 = z := ⟨_, rfl⟩
    obtain ⟨p1, e1⟩ : ∃ z, p 1 = z := ⟨_, rfl⟩
    obtain ⟨p2, e2⟩ : ∃ z, p 2 = z := ⟨_, rfl⟩
    obtain ⟨p3, e3⟩ : ∃ z, p 3 = z := ⟨_, rfl⟩
    simp only [modelV, pointV, queryV, e0, e1, e2, e3] at HR0 HEv HMt HTn ⊢
    obtain ⟨w0, hw0⟩ : ∃ w0, ((w.alloc (.cells #[.int .i64 d, .int .i64 k, .int .i64 b0, .int .i64 b1, .int .i64 b2, .slice ma mn mc] 33)).alloc (.cells #[.int .i64 kd, .int .i64 cl, .int .i64 ra, .int .i64 rb, .int .i64 rc, .int .i64 rd, .int .i64 re, .int .i64 rf, .int .i64 rg, .int .i64 rh, .int .i64 ri, .int .i64 rj, .int .i64 lo, .int .i64 hi, .int .i64 f, .bool fa, .int .i64 bu] 40)).alloc (.cells #[.int .i64 p0, .int .i64 p1, .int .i64 p2, .int .i64 p3] 29) = w0 := ⟨_, rfl⟩
    have HJ0 : Hid (Jk w w0) := hw0 ▸ (((Jk.refl w).alloc _).alloc _).alloc _
    have HM : Hid (MdB w0 w.heap.size ⟨d, k, b0, b1, b2, ma, mn, mc, ts⟩) := by
      rw [← hw0]
      exact (MdB.laid w ⟨d, k, b0, b1, b2, ma, mn, mc, ts⟩).jk (((Jk.refl _).alloc _).alloc _)
    have HQ : Hid (QyB w0 (w.heap.size + 1) ⟨kd, cl, ⟨⟨ra, rb⟩, ⟨rc, rd⟩, ⟨re, rf⟩, ⟨rg, rh⟩, ⟨ri, rj⟩⟩, lo, hi, f, fa, bu⟩) := by
      rw [← hw0]
      have := (QyB.laid (w.alloc (.cells #[.int .i64 d, .int .i64 k, .int .i64 b0, .int .i64 b1, .int .i64 b2, .slice ma mn mc] 33)) ⟨kd, cl, ⟨⟨ra, rb⟩, ⟨rc, rd⟩, ⟨re, rf⟩, ⟨rg, rh⟩, ⟨ri, rj⟩⟩, lo, hi, f, fa, bu⟩).jk ((Jk.refl _).alloc (.cells #[.int .i64 p0, .int .i64 p1, .int .i64 p2, .int .i64 p3] 29))
      rwa [World.size_alloc] at this
    have HPt : Hid (PtIn w0 (w.heap.size + 1 + 1) p0 p1 p2 p3) := by
      rw [← hw0]
      have := PtIn.laid ((w.alloc (.cells #[.int .i64 d, .int .i64 k, .int .i64 b0, .int .i64 b1, .int .i64 b2, .slice ma mn mc] 33)).alloc (.cells #[.int .i64 kd, .int .i64 cl, .int .i64 ra, .int .i64 rb, .int .i64 rc, .int .i64 rd, .int .i64 re, .int .i64 rf, .int .i64 rg, .int .i64 rh, .int .i64 ri, .int .i64 rj, .int .i64 lo, .int .i64 hi, .int .i64 f, .bool fa, .int .i64 bu] 40)) p0 p1 p2 p3 29
      rwa [World.size_alloc, World.size_alloc] at this
    have HR := hid (HR0.out.up HJ0.out)
    have HE0 := hid (HEv.out.up HJ0.out)
    have HM0 := hid (HMt.out.up HJ0.out)
    have HT0 := hid (HTn.out.up HJ0.out)
    clear HR0 HEv HMt HTn
    go_enter Try.func9, Try.ntmps9
    go_upto_region 1 with fail
    refine wp_region_lit ?_
    refine list_loadM rfl _ rfl HM.out rfl ?_
    refine list_loadQ rfl _ rfl HQ.out rfl ?_
    go_upto_region 3 with (first | (go_at_call 6; refine (HR.out.on _ (by exact Jk.refl _)).mono ?_; rintro e w1 ⟨rfl, hj1⟩; have HJ1 := hid hj1; clear hj1))
    obtain ⟨m0, m1, m2, m3, m4, m5, m6⟩ := (HM.out.jk HJ1.out).in
    obtain ⟨pt0, pt1, pt2, pt3, pt4⟩ := HPt.out.jk HJ1.out
    obtain ⟨q0, q1, q2, q3, q4, q5, q6, q7, q8, q9, q10, q11, q12, q13, q14, q15, q16⟩ := (HQ.out.jk HJ1.out).in
    have ql := (HQ.out.jk HJ1.out).lt
    simp only at m1 m2 m3 m4 m5 m6 q0 q1 q2 q3 q4 q5 q6 q7 q8 q9 q10 q11 q12 q13 q14 q15 q16
    have HE1 := hid (HE0.out.up HJ1.out)
    have HM1 := hid (HM0.out.up HJ1.out)
    have HT1 := hid (HT0.out.up HJ1.out)
    clear HE0 HM0 HT0 HR
    rcases hkd with rfl | rfl | rfl
    · clear hf3 HLt HM1 HT1 HBm HBt
      obtain ⟨hb', hhb⟩ : ∃ z, hasB lo hi E = z := ⟨_, rfl⟩
      have HH := hid (has_W hhb)
      obtain rfl : (!hb') = b := by
        have h2 : b = true ↔ ¬ (lo ≤ E ∧ E ≤ hi) := HB.out.trans (by simp)
        have h3 : hb' = true ↔ (lo ≤ E ∧ E ≤ hi) := hhb ▸ (by simp [hasB])
        rw [Bool.eq_iff_iff, h2, ← h3]
        cases hb' <;> simp
      clear hhb HB
      go_upto_region 5 with fail
      refine region_junk (by kernel_rfl) (by kernel_rfl) ?_
      repeat (go_big_quiet_step (first | (go_at_call 8; exact AnsW.junk (by with_reducible exact HE1.out) _) | (go_at_call 22; exact on_junk HH.out _) | exact rfl))
      refine wpQuiet_nil ?_
      rintro _ ⟨X, rfl⟩
      go_wp2
      go_ret
      exact ⟨by cases hb' <;> rfl, HJ0.out.trans (HJ1.out.trans ⟨X, rfl⟩)⟩
    · clear hf3 HLt HT1 HBt HE1
      obtain rfl : bm = b := by
        have h1 : b = true ↔ BP := HB.out.trans (by simp)
        have h2 := HBm.out
        cases b <;> cases bm <;> simp_all
      clear HB HBm
      go_wp2_with (first | (go_at_call 23; refine (HM1.out.on _ (by exact Jk.refl _)).mono ?_; rintro e w2 ⟨rfl, hj2⟩; have HJ2 := hid hj2; clear hj2))
      go_ret
      exact ⟨rfl, HJ0.out.trans (HJ1.out.trans HJ2.out)⟩
    · clear HE1 HM1 HBm
      have hf := hf3 rfl
      clear hf3
      rcases hf with rfl | rfl | rfl | rfl
      · have h1 : b = true ↔ p0 < t ∧ TP := (HLt.out 0 rfl).trans (by simp [e0])
        clear HLt HB e0 e1 e2 e3
        by_cases ht : p0 < t
        · obtain rfl : bt = b := by
            have h2 := HBt.out
            cases b <;> cases bt <;> simp_all
          clear HBt h1
          go_wp2_with (first | (go_at_call 24; refine (HT1.out.on _ (by exact Jk.refl _)).mono ?_; rintro e w2 ⟨rfl, hj2⟩; have HJ2 := hid hj2; clear hj2))
          go_ret
          exact ⟨rfl, HJ0.out.trans (HJ1.out.trans HJ2.out)⟩
        · obtain rfl : false = b := (Bool.eq_false_iff.2 fun e => ht (h1.1 e).1).symm
          clear h1 HBt
          go_wp2
          go_ret
          exact ⟨rfl, HJ0.out.trans HJ1.out⟩
      · have h1 : b = true ↔ p1 < t ∧ TP := (HLt.out 1 rfl).trans (by simp [e1])
        clear HLt HB e0 e1 e2 e3
        by_cases ht : p1 < t
        · obtain rfl : bt = b := by
            have h2 := HBt.out
            cases b <;> cases bt <;> simp_all
          clear HBt h1
          go_wp2_with (first | (go_at_call 24; refine (HT1.out.on _ (by exact Jk.refl _)).mono ?_; rintro e w2 ⟨rfl, hj2⟩; have HJ2 := hid hj2; clear hj2))
          go_ret
          exact ⟨rfl, HJ0.out.trans (HJ1.out.trans HJ2.out)⟩
        · obtain rfl : false = b := (Bool.eq_false_iff.2 fun e => ht (h1.1 e).1).symm
          clear h1 HBt
          go_wp2
          go_ret
          exact ⟨rfl, HJ0.out.trans HJ1.out⟩
      · have h1 : b = true ↔ p2 < t ∧ TP := (HLt.out 2 rfl).trans (by simp [e2])
        clear HLt HB e0 e1 e2 e3
        by_cases ht : p2 < t
        · obtain rfl : bt = b := by
            have h2 := HBt.out
            cases b <;> cases bt <;> simp_all
          clear HBt h1
          go_wp2_with (first | (go_at_call 24; refine (HT1.out.on _ (by exact Jk.refl _)).mono ?_; rintro e w2 ⟨rfl, hj2⟩; have HJ2 := hid hj2; clear hj2))
          go_ret
          exact ⟨rfl, HJ0.out.trans (HJ1.out.trans HJ2.out)⟩
        · obtain rfl : false = b := (Bool.eq_false_iff.2 fun e => ht (h1.1 e).1).symm
          clear h1 HBt
          go_wp2
          go_ret
          exact ⟨rfl, HJ0.out.trans HJ1.out⟩
      · have h1 : b = true ↔ p3 < t ∧ TP := (HLt.out 3 rfl).trans (by simp [e3])
        clear HLt HB e0 e1 e2 e3
        by_cases ht : p3 < t
        · obtain rfl : bt = b := by
            have h2 := HBt.out
            cases b <;> cases bt <;> simp_all
          clear HBt h1
          go_wp2_with (first | (go_at_call 24; refine (HT1.out.on _ (by exact Jk.refl _)).mono ?_; rintro e w2 ⟨rfl, hj2⟩; have HJ2 := hid hj2; clear hj2))
          go_ret
          exact ⟨rfl, HJ0.out.trans (HJ1.out.trans HJ2.out)⟩
        · obtain rfl : false = b := (Bool.eq_false_iff.2 fun e => ht (h1.1 e).1).symm
          clear h1 HBt
          go_wp2
          go_ret
          exact ⟨rfl, HJ0.out.trans HJ1.out⟩

end Go.Proofs.Ytndnijdpafcmoaa
