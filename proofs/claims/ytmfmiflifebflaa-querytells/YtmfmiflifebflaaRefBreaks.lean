/- What the document's own Breaks of chapter 10 answers. -/
import Derived.Test.YtmfmiflifebflaaQueryE
import Derived.Test.YtmfmiflifebflaaRefRight
namespace Go.Proofs.Ytmfmiflifebflaa
open Go.RowKit M

theorem MdB.byQ {w w' : World} {h g : Nat} {x : Md} (H : MdB w h x) (hg : w.grownBy w' (some g)) (hne : h ≠ g) : MdB w' h x := (hg.block h H.lt (by simpa using hne)).trans H

set_option maxRecDepth 100000 in
set_option maxHeartbeats 12800000 in
theorem rbreaks_ans {m : Md} {q : Qy} {b : Bool} (p : Int → Int) (t : Int) {ww : World} (hm : m.ok ww) (hb : b = true ↔ BreaksP m q p t) : AnsW ww 16 #[modelV m, queryV q, pointV p, .int .i64 t] (.bool b) := fun w hjw => by
  have J := rules8
  have hmw := hm.jk hjw
  obtain ⟨br, hbr⟩ := rightQ_bool m q
  have HR0 := hid (rright_q hmw hbr)
  cases br
  · obtain rfl : false = b := (Bool.eq_false_iff.2 fun e => by have := hbr.2 (hb.1 e).1; cases this).symm
    clear hb hbr hm hjw hmw
    obtain ⟨d, k, b0, b1, b2, ma, mn, mc, ts⟩ := m
    obtain ⟨kd, cl, ⟨⟨ra, rb⟩, ⟨rc, rd⟩, ⟨re, rf⟩, ⟨rg, rh⟩, ⟨ri, rj⟩⟩, lo, hi, f, fa, bu⟩ := q
    obtain ⟨p0, e0⟩ : ∃ z, p 0 = z := ⟨_, rfl⟩
    obtain ⟨p1, e1⟩ : ∃ z, p 1 = z := ⟨_, rfl⟩
    obtain ⟨p2, e2⟩ : ∃ z, p 2 = z := ⟨_, rfl⟩
    obtain ⟨p3, e3⟩ : ∃ z, p 3 = z := ⟨_, rfl⟩
    simp only [modelV, pointV, queryV, e0, e1, e2, e3] at HR0 ⊢
    clear e0 e1 e2 e3
    obtain ⟨w0, hw0⟩ : ∃ w0, ((w.alloc (.cells #[.int .i64 d, .int .i64 k, .int .i64 b0, .int .i64 b1, .int .i64 b2, .slice ma mn mc] 25)).alloc (.cells #[.int .i64 kd, .int .i64 cl, .int .i64 ra, .int .i64 rb, .int .i64 rc, .int .i64 rd, .int .i64 re, .int .i64 rf, .int .i64 rg, .int .i64 rh, .int .i64 ri, .int .i64 rj, .int .i64 lo, .int .i64 hi, .int .i64 f, .bool fa, .int .i64 bu] 32)).alloc (.cells #[.int .i64 p0, .int .i64 p1, .int .i64 p2, .int .i64 p3] 36) = w0 := ⟨_, rfl⟩
    have HJ0 : Hid (Jk w w0) := hw0 ▸ (((Jk.refl w).alloc _).alloc _).alloc _
    have HM : Hid (MdB w0 w.heap.size ⟨d, k, b0, b1, b2, ma, mn, mc, ts⟩) := by
      rw [← hw0]
      exact (MdB.laid w ⟨d, k, b0, b1, b2, ma, mn, mc, ts⟩).jk (((Jk.refl _).alloc _).alloc _)
    have HQ : Hid (QyB w0 (w.heap.size + 1) ⟨kd, cl, ⟨⟨ra, rb⟩, ⟨rc, rd⟩, ⟨re, rf⟩, ⟨rg, rh⟩, ⟨ri, rj⟩⟩, lo, hi, f, fa, bu⟩) := by
      rw [← hw0]
      have := (QyB.laid (w.alloc (.cells #[.int .i64 d, .int .i64 k, .int .i64 b0, .int .i64 b1, .int .i64 b2, .slice ma mn mc] 25)) ⟨kd, cl, ⟨⟨ra, rb⟩, ⟨rc, rd⟩, ⟨re, rf⟩, ⟨rg, rh⟩, ⟨ri, rj⟩⟩, lo, hi, f, fa, bu⟩).jk ((Jk.refl _).alloc (.cells #[.int .i64 p0, .int .i64 p1, .int .i64 p2, .int .i64 p3] 36))
      rwa [World.size_alloc] at this
    have HPt : Hid (PtB w0 (w.heap.size + 1 + 1) p0 p1 p2 p3) := by
      rw [← hw0]
      have := PtB.laid ((w.alloc (.cells #[.int .i64 d, .int .i64 k, .int .i64 b0, .int .i64 b1, .int .i64 b2, .slice ma mn mc] 25)).alloc (.cells #[.int .i64 kd, .int .i64 cl, .int .i64 ra, .int .i64 rb, .int .i64 rc, .int .i64 rd, .int .i64 re, .int .i64 rf, .int .i64 rg, .int .i64 rh, .int .i64 ri, .int .i64 rj, .int .i64 lo, .int .i64 hi, .int .i64 f, .bool fa, .int .i64 bu] 32)) p0 p1 p2 p3
      rwa [World.size_alloc, World.size_alloc] at this
    have HR := hid (HR0.out.up HJ0.out)
    go_enter Try.func16, Try.ntmps16
    go_upto_region 1 with fail
    refine wp_region_lit ?_
    refine list_loadM rfl _ rfl HM.out rfl ?_
    refine list_loadQ rfl _ rfl HQ.out rfl ?_
    go_wp2_with (first | (go_at_call 14; refine (HR.out.on _ (by exact Jk.refl _)).mono ?_; rintro e w1 ⟨rfl, hj1⟩; have HJ1 := hid hj1; clear hj1))
    go_ret
    exact ⟨rfl, HJ0.out.trans HJ1.out⟩
  · have hr := hbr.1 rfl
    have HB : Hid (b = true ↔ (q.kd = 1 ∧ ¬ (q.lo ≤ m.sum p q.cl ∧ m.sum p q.cl ≤ q.hi)) ∨ (q.kd = 2 ∧ beatP m p q.cl) ∨ (q.kd = 3 ∧ p q.f < t ∧ turnP m q p t)) := by
      show b = true ↔ _
      rw [hb]
      exact ⟨fun h => h.2, fun h => ⟨hr, h⟩⟩
    have HB2 : Hid (b = true ↔ (q.kd = 1 ∧ ¬ (q.lo ≤ m.sum p q.cl ∧ m.sum p q.cl ≤ q.hi)) ∨ (q.kd = 2 ∧ ∃ c : Int, 0 ≤ c ∧ c < m.k ∧ c ≠ q.cl ∧ m.sum p q.cl ≤ m.sum p c) ∨ (q.kd = 3 ∧ p q.f < t ∧ ((q.fa = true ∧ m.sum p q.cl < m.sum (putP p q.f t) q.cl) ∨ (q.fa = false ∧ m.sum (putP p q.f t) q.cl < m.sum p q.cl)))) := by
      show b = true ↔ _
      rw [HB.out]
      have h3 : q.kd = 3 → secondI q p t = putP p q.f t := fun h => by
        have h1 := hr.f h
        have h2 := hr.mr.d4
        exact secondI_yes ⟨h, h1.1, by omega⟩
      constructor
      · rintro (h | h | ⟨h1, h2, h4⟩)
        · exact .inl h
        · exact .inr (.inl h)
        · unfold turnP at h4
          rw [h3 h1] at h4
          exact .inr (.inr ⟨h1, h2, h4⟩)
      · rintro (h | h | ⟨h1, h2, h4⟩)
        · exact .inl h
        · exact .inr (.inl h)
        · rw [← h3 h1] at h4
          exact .inr (.inr ⟨h1, h2, h4⟩)
    have HEc : Hid (∀ c : Int, 0 ≤ c → c < m.k → AnsW w 36 #[modelV m, .int .i64 c, pointV p] (.int .i64 (m.sum p c))) := fun c h0 h1 => reval_ans p hmw (hr.mr.evalP p h0 h1)
    have HEv := hid (reval_ans p hmw (hr.mr.evalP p hr.c0 hr.c1))
    have HEp := hid (reval_ans (putP p q.f t) hmw (hr.mr.evalP (putP p q.f t) hr.c0 hr.c1))
    have hkd : q.kd = 1 ∨ q.kd = 2 ∨ q.kd = 3 := by rcases hr.kd with h | h | h <;> omega
    have hf3 : q.kd = 3 → q.f = 0 ∨ q.f = 1 ∨ q.f = 2 ∨ q.f = 3 := fun h => by
      have h1 := hr.f h
      have h2 := hr.mr.d4
      omega
    have HV : Hid (∀ i : Int, putP p i t = fun j => if j = i then t else p j) := fun i => rfl
    have hk1 := hr.mr.k1
    have hk3 := hr.mr.k3
    obtain ⟨S, hS⟩ : ∃ S, m.sum p = S := ⟨_, rfl⟩
    rw [hS] at HB2 HEv HEc
    obtain ⟨E, hE⟩ : ∃ z, S q.cl = z := ⟨_, rfl⟩
    rw [hE] at HB2 HEv
    obtain ⟨y, hy⟩ : ∃ z, m.sum (putP p q.f t) q.cl = z := ⟨_, rfl⟩
    rw [hy] at HB2 HEp
    clear hE hS hy hb hbr hm hjw hmw hr HB
    obtain ⟨d, k, b0, b1, b2, ma, mn, mc, ts⟩ := m
    obtain ⟨kd, cl, ⟨⟨ra, rb⟩, ⟨rc, rd⟩, ⟨re, rf⟩, ⟨rg, rh⟩, ⟨ri, rj⟩⟩, lo, hi, f, fa, bu⟩ := q
    simp only at HB2 hkd hf3 HEv HEc HEp hk1 hk3
    obtain ⟨K, rfl⟩ := Int.eq_ofNat_of_zero_le (show 0 ≤ k by omega)
    obtain ⟨p0, e0⟩ : ∃ z, p 0 = z := ⟨_, rfl⟩
    obtain ⟨p1, e1⟩ : ∃ z, p 1 = z := ⟨_, rfl⟩
    obtain ⟨p2, e2⟩ : ∃ z, p 2 = z := ⟨_, rfl⟩
    obtain ⟨p3, e3⟩ : ∃ z, p 3 = z := ⟨_, rfl⟩
    simp only [modelV, pointV, queryV, HV.out, e0, e1, e2, e3] at HR0 HEv HEc HEp ⊢
    obtain ⟨w0, hw0⟩ : ∃ w0, ((w.alloc (.cells #[.int .i64 d, .int .i64 (K : Int), .int .i64 b0, .int .i64 b1, .int .i64 b2, .slice ma mn mc] 25)).alloc (.cells #[.int .i64 kd, .int .i64 cl, .int .i64 ra, .int .i64 rb, .int .i64 rc, .int .i64 rd, .int .i64 re, .int .i64 rf, .int .i64 rg, .int .i64 rh, .int .i64 ri, .int .i64 rj, .int .i64 lo, .int .i64 hi, .int .i64 f, .bool fa, .int .i64 bu] 32)).alloc (.cells #[.int .i64 p0, .int .i64 p1, .int .i64 p2, .int .i64 p3] 36) = w0 := ⟨_, rfl⟩
    have HJ0 : Hid (Jk w w0) := hw0 ▸ (((Jk.refl w).alloc _).alloc _).alloc _
    have HM : Hid (MdB w0 w.heap.size ⟨d, (K : Int), b0, b1, b2, ma, mn, mc, ts⟩) := by
      rw [← hw0]
      exact (MdB.laid w ⟨d, (K : Int), b0, b1, b2, ma, mn, mc, ts⟩).jk (((Jk.refl _).alloc _).alloc _)
    have HQ : Hid (QyB w0 (w.heap.size + 1) ⟨kd, cl, ⟨⟨ra, rb⟩, ⟨rc, rd⟩, ⟨re, rf⟩, ⟨rg, rh⟩, ⟨ri, rj⟩⟩, lo, hi, f, fa, bu⟩) := by
      rw [← hw0]
      have := (QyB.laid (w.alloc (.cells #[.int .i64 d, .int .i64 (K : Int), .int .i64 b0, .int .i64 b1, .int .i64 b2, .slice ma mn mc] 25)) ⟨kd, cl, ⟨⟨ra, rb⟩, ⟨rc, rd⟩, ⟨re, rf⟩, ⟨rg, rh⟩, ⟨ri, rj⟩⟩, lo, hi, f, fa, bu⟩).jk ((Jk.refl _).alloc (.cells #[.int .i64 p0, .int .i64 p1, .int .i64 p2, .int .i64 p3] 36))
      rwa [World.size_alloc] at this
    have HPt : Hid (PtB w0 (w.heap.size + 1 + 1) p0 p1 p2 p3) := by
      rw [← hw0]
      have := PtB.laid ((w.alloc (.cells #[.int .i64 d, .int .i64 (K : Int), .int .i64 b0, .int .i64 b1, .int .i64 b2, .slice ma mn mc] 25)).alloc (.cells #[.int .i64 kd, .int .i64 cl, .int .i64 ra, .int .i64 rb, .int .i64 rc, .int .i64 rd, .int .i64 re, .int .i64 rf, .int .i64 rg, .int .i64 rh, .int .i64 ri, .int .i64 rj, .int .i64 lo, .int .i64 hi, .int .i64 f, .bool fa, .int .i64 bu] 32)) p0 p1 p2 p3
      rwa [World.size_alloc, World.size_alloc] at this
    have HR := hid (HR0.out.up HJ0.out)
    have HE0 := hid (HEv.out.up HJ0.out)
    have HC0 := hid (fun c h0 h1 => (HEc.out c h0 h1).up HJ0.out)
    have HP0 := HEp
    clear HR0 HEv HEc HEp
    go_enter Try.func16, Try.ntmps16
    go_upto_region 1 with fail
    refine wp_region_lit ?_
    refine list_loadM rfl _ rfl HM.out rfl ?_
    refine list_loadQ rfl _ rfl HQ.out rfl ?_
    go_upto_region 3 with (first | (go_at_call 14; refine (HR.out.on _ (by exact Jk.refl _)).mono ?_; rintro e w1 ⟨rfl, hj1⟩; have HJ1 := hid hj1; clear hj1))
    obtain ⟨m0, m1, m2, m3, m4, m5, m6⟩ := (HM.out.jk HJ1.out).in
    obtain ⟨pt0, pt1, pt2, pt3, pt4⟩ := (HPt.out.jk HJ1.out).in
    obtain ⟨q0, q1, q2, q3, q4, q5, q6, q7, q8, q9, q10, q11, q12, q13, q14, q15, q16⟩ := (HQ.out.jk HJ1.out).in
    have ql := (HQ.out.jk HJ1.out).lt
    simp only at m1 m2 m3 m4 m5 m6 q0 q1 q2 q3 q4 q5 q6 q7 q8 q9 q10 q11 q12 q13 q14 q15 q16
    have HE1 := hid (HE0.out.up HJ1.out)
    go_upto_region 4 with (first | (go_at_call 36; refine (HE1.out.on _ (by exact Jk.refl _)).mono ?_; rintro e w2 ⟨rfl, hj2⟩; have HJ2 : Hid (Jk w0 w2) := hid (HJ1.out.trans hj2); clear hj2))
    clear m0 m1 m2 m3 m4 m5 m6 q0 q1 q2 q3 q4 q5 q6 q7 q8 q9 q10 q11 q12 q13 q14 q15 q16 ql pt0 pt1 pt2 pt3 pt4 HE1 HE0 HR HJ1
    obtain ⟨m0, m1, m2, m3, m4, m5, m6⟩ := (HM.out.jk HJ2.out).in
    obtain ⟨pt0, pt1, pt2, pt3, pt4⟩ := (HPt.out.jk HJ2.out).in
    have ptf := (HPt.out.jk HJ2.out).frozen
    obtain ⟨q0, q1, q2, q3, q4, q5, q6, q7, q8, q9, q10, q11, q12, q13, q14, q15, q16⟩ := (HQ.out.jk HJ2.out).in
    have ql := (HQ.out.jk HJ2.out).lt
    simp only at m1 m2 m3 m4 m5 m6 q0 q1 q2 q3 q4 q5 q6 q7 q8 q9 q10 q11 q12 q13 q14 q15 q16
    rcases hkd with rfl | rfl | rfl
    · have h2 : b = true ↔ ¬ (lo ≤ E ∧ E ≤ hi) := HB2.out.trans (by simp)
      clear HB2 hf3
      by_cases h3 : E < lo
      · obtain rfl : true = b := (h2.2 (by omega)).symm
        clear h2
        go_wp2
        go_ret
        exact ⟨by first | rfl | exact ret_bool (by simp [*]), HJ0.out.trans HJ2.out⟩
      · by_cases h4 : hi < E
        · obtain rfl : true = b := (h2.2 (by omega)).symm
          clear h2
          go_wp2
          go_ret
          exact ⟨by first | rfl | exact ret_bool (by simp [*]), HJ0.out.trans HJ2.out⟩
        · obtain rfl : false = b := (Bool.eq_false_iff.2 fun e => by have := h2.1 e; omega).symm
          clear h2
          go_wp2
          go_ret
          exact ⟨by first | rfl | exact ret_bool (by simp; omega), HJ0.out.trans HJ2.out⟩
    · have HB : Hid (b = true ↔ ∃ c : Int, 0 ≤ c ∧ c < (K : Int) ∧ c ≠ cl ∧ E ≤ S c) := HB2.out.trans (by simp)
      clear HB2 hf3 HP0
      go_upto_region 9 with fail
      clear m0 m1 m2 m3 m4 m5 m6 q0 q1 q2 q3 q4 q5 q6 q7 q8 q9 q10 q11 q12 q13 q14 q15 q16 ql pt0 pt1 pt2 pt3 pt4
      go_loopg [39] K (fun r i wr => ∃ j : Nat, j + r = K ∧ i = .int .i64 (j : Int) ∧ Hid (∀ c : Int, 0 ≤ c → c < (j : Int) → c ≠ cl → S c < E) ∧ Hid (Jk w0 wr))
      case atStart => exact ⟨0, by omega, rfl, hid fun c h0 h1 _ => absurd h1 (by omega), HJ2⟩
      case round =>
        obtain ⟨j, hj, rfl, HP, HJ⟩ := hrel
        clear HJ2
        obtain ⟨m0, m1, m2, m3, m4, m5, m6⟩ := (HM.out.jk HJ.out).in
        obtain ⟨pt0, pt1, pt2, pt3, pt4⟩ := (HPt.out.jk HJ.out).in
        obtain ⟨q0, q1, q2, q3, q4, q5, q6, q7, q8, q9, q10, q11, q12, q13, q14, q15, q16⟩ := (HQ.out.jk HJ.out).in
        have ql := (HQ.out.jk HJ.out).lt
        simp only at m1 m2 m3 m4 m5 m6 q0 q1 q2 q3 q4 q5 q6 q7 q8 q9 q10 q11 q12 q13 q14 q15 q16
        by_cases hfuel : gk = 0
        · subst hfuel
          obtain rfl : j = K := by omega
          obtain rfl : false = b := (Bool.eq_false_iff.2 fun e => by
            obtain ⟨c, h0, h1, h2, h3⟩ := HB.out.1 e
            have := HP.out c h0 h1 h2
            omega).symm
          go_wp2
          go_ret
          exact ⟨rfl, HJ0.out.trans HJ.out⟩
        · obtain ⟨r, rfl⟩ : ∃ r, gk = r + 1 := ⟨gk - 1, by omega⟩
          have hjk : (j : Int) < (K : Int) := by omega
          by_cases hjc : (j : Int) = cl
          · have HN : Hid (∀ c : Int, 0 ≤ c → c < ((j + 1 : Nat) : Int) → c ≠ cl → S c < E) := fun c h0 h1 h2 => by
              by_cases h3 : c = (j : Int)
              · omega
              · exact HP.out c h0 (by omega) h2
            have hjb : ((j : Int) != cl) = false := by simpa using hjc
            go_wp2
            go_roundg r
            case measure => omega
            case rel => exact ⟨j + 1, by omega, by go_num, HN, HJ⟩
          · have hjb : ((j : Int) != cl) = true := by simpa using hjc
            have HEj := hid ((HC0.out (j : Int) (by omega) hjk).up HJ.out)
            by_cases hs : E ≤ S (j : Int)
            · obtain rfl : true = b := (HB.out.2 ⟨(j : Int), by omega, hjk, hjc, hs⟩).symm
              obtain ⟨sj, hsj⟩ : ∃ z, S (j : Int) = z := ⟨_, rfl⟩
              rw [hsj] at HEj hs
              have hs' : decide (E ≤ sj) = true := by simpa using hs
              clear hs
              go_wp2_with (first | (go_at_call 36; refine (HEj.out.on _ (by exact Jk.refl _)).mono ?_; rintro e w3 ⟨rfl, hj3⟩; have HJ3 := hid hj3; clear hj3))
              go_ret
              exact ⟨rfl, (HJ0.out.trans HJ.out).trans HJ3.out⟩
            · have HN : Hid (∀ c : Int, 0 ≤ c → c < ((j + 1 : Nat) : Int) → c ≠ cl → S c < E) := fun c h0 h1 h2 => by
                by_cases h3 : c = (j : Int)
                · subst h3; omega
                · exact HP.out c h0 (by omega) h2
              obtain ⟨sj, hsj⟩ : ∃ z, S (j : Int) = z := ⟨_, rfl⟩
              rw [hsj] at HEj hs
              have hs' : decide (E ≤ sj) = false := by simpa using hs
              clear hs
              go_wp2_with (first | (go_at_call 36; refine (HEj.out.on _ (by exact Jk.refl _)).mono ?_; rintro e w3 ⟨rfl, hj3⟩; have HJ3 := hid hj3; clear hj3))
              go_roundg r
              case measure => omega
              case rel => exact ⟨j + 1, by omega, by go_num, HN, hid (HJ.out.trans HJ3.out)⟩
    · have hf := hf3 rfl
      clear hf3 HC0
      have HB3 : Hid (b = true ↔ p f < t ∧ ((fa = true ∧ E < y) ∨ (fa = false ∧ y < E))) := HB2.out.trans (by simp)
      clear HB2
      rcases hf with rfl | rfl | rfl | rfl
      · simp only [Int.reduceEq, reduceIte] at HP0
        have h1 : b = true ↔ p0 < t ∧ ((fa = true ∧ E < y) ∨ (fa = false ∧ y < E)) := HB3.out.trans (by simp [e0])
        clear HB3 e0 e1 e2 e3
        by_cases ht : p0 < t
        · have ht' : ¬ t ≤ p0 := by omega
          have HJ3 : Hid (Jk w0 (w2.setCell ⟨w.heap.size + 1 + 1, 0, none⟩ (.int .i64 t))) ∨ True := .inr trivial
          have HPs : Hid (PtB (w2.setCell ⟨w.heap.size + 1 + 1, 0, none⟩ (.int .i64 t)) (w.heap.size + 1 + 1) t p1 p2 p3) := heap_setCell_same _ _ _ _ _ _ (HPt.out.jk HJ2.out)
          have HMs : Hid (MdB (w2.setCell ⟨w.heap.size + 1 + 1, 0, none⟩ (.int .i64 t)) w.heap.size ⟨d, (K : Int), b0, b1, b2, ma, mn, mc, ts⟩) := MdB.byQ (HM.out.jk HJ2.out) (grown_set _ _ _ _) (by omega)
          have HQs : Hid (QyB (w2.setCell ⟨w.heap.size + 1 + 1, 0, none⟩ (.int .i64 t)) (w.heap.size + 1) ⟨3, cl, ⟨⟨ra, rb⟩, ⟨rc, rd⟩, ⟨re, rf⟩, ⟨rg, rh⟩, ⟨ri, rj⟩⟩, lo, hi, 0, fa, bu⟩) := QyB.by (HQ.out.jk HJ2.out) (grown_set _ _ _ _) (by omega)
          have HJs : Hid (Jk w (w2.setCell ⟨w.heap.size + 1 + 1, 0, none⟩ (.int .i64 t))) := (HJ0.out.trans HJ2.out).set (by simp only; omega) _
          have HPe := hid (HP0.out.up HJs.out)
          clear HJ3
          go_upto_region 18 with fail
          generalize hwE : w2.setCell ⟨w.heap.size + 1 + 1, 0, none⟩ (.int .i64 t) = wE at HPs HMs HQs HJs HPe ⊢
          clear hwE m0 m1 m2 m3 m4 m5 m6 q0 q1 q2 q3 q4 q5 q6 q7 q8 q9 q10 q11 q12 q13 q14 q15 q16 ql pt0 pt1 pt2 pt3 pt4 ptf
          obtain ⟨m0, m1, m2, m3, m4, m5, m6⟩ := HMs.out.in
          obtain ⟨pt0, pt1, pt2, pt3, pt4⟩ := HPs.out.in
          obtain ⟨q0, q1, q2, q3, q4, q5, q6, q7, q8, q9, q10, q11, q12, q13, q14, q15, q16⟩ := HQs.out.in
          have ql := HQs.out.lt
          simp only at m1 m2 m3 m4 m5 m6 q0 q1 q2 q3 q4 q5 q6 q7 q8 q9 q10 q11 q12 q13 q14 q15 q16
          go_upto_region 19 with (first | (go_at_call 36; refine (HPe.out.on _ (by exact Jk.refl _)).mono ?_; rintro e w3 ⟨rfl, hj3⟩; have HJ3 := hid hj3; clear hj3))
          clear m0 m1 m2 m3 m4 m5 m6 q0 q1 q2 q3 q4 q5 q6 q7 q8 q9 q10 q11 q12 q13 q14 q15 q16 ql pt0 pt1 pt2 pt3 pt4
          obtain ⟨q0, q1, q2, q3, q4, q5, q6, q7, q8, q9, q10, q11, q12, q13, q14, q15, q16⟩ := (HQs.out.jk HJ3.out).in
          have ql := (HQs.out.jk HJ3.out).lt
          simp only at q0 q1 q2 q3 q4 q5 q6 q7 q8 q9 q10 q11 q12 q13 q14 q15 q16
          cases fa
          · have h5 : b = true ↔ y < E := h1.trans (by simp [ht])
            clear h1
            by_cases h6 : y < E
            · obtain rfl : true = b := (h5.2 h6).symm
              go_wp2
              go_ret
              exact ⟨by first | rfl | exact ret_bool (by simp [*]), HJs.out.trans HJ3.out⟩
            · obtain rfl : false = b := (Bool.eq_false_iff.2 fun e => h6 (h5.1 e)).symm
              go_wp2
              go_ret
              exact ⟨by first | rfl | exact ret_bool (by simp; omega), HJs.out.trans HJ3.out⟩
          · have h5 : b = true ↔ E < y := h1.trans (by simp [ht])
            clear h1
            by_cases h6 : E < y
            · obtain rfl : true = b := (h5.2 h6).symm
              go_wp2
              go_ret
              exact ⟨by first | rfl | exact ret_bool (by simp [*]), HJs.out.trans HJ3.out⟩
            · obtain rfl : false = b := (Bool.eq_false_iff.2 fun e => h6 (h5.1 e)).symm
              go_wp2
              go_ret
              exact ⟨by first | rfl | exact ret_bool (by simp; omega), HJs.out.trans HJ3.out⟩
        · obtain rfl : false = b := (Bool.eq_false_iff.2 fun e => ht (h1.1 e).1).symm
          clear h1
          go_wp2
          go_ret
          exact ⟨rfl, HJ0.out.trans HJ2.out⟩
      · simp only [Int.reduceEq, reduceIte] at HP0
        have h1 : b = true ↔ p1 < t ∧ ((fa = true ∧ E < y) ∨ (fa = false ∧ y < E)) := HB3.out.trans (by simp [e1])
        clear HB3 e0 e1 e2 e3
        by_cases ht : p1 < t
        · have ht' : ¬ t ≤ p1 := by omega
          have HJ3 : Hid (Jk w0 (w2.setCell ⟨w.heap.size + 1 + 1, 1, none⟩ (.int .i64 t))) ∨ True := .inr trivial
          have HPs : Hid (PtB (w2.setCell ⟨w.heap.size + 1 + 1, 1, none⟩ (.int .i64 t)) (w.heap.size + 1 + 1) p0 t p2 p3) := heap_setCell_same _ _ _ _ _ _ (HPt.out.jk HJ2.out)
          have HMs : Hid (MdB (w2.setCell ⟨w.heap.size + 1 + 1, 1, none⟩ (.int .i64 t)) w.heap.size ⟨d, (K : Int), b0, b1, b2, ma, mn, mc, ts⟩) := MdB.byQ (HM.out.jk HJ2.out) (grown_set _ _ _ _) (by omega)
          have HQs : Hid (QyB (w2.setCell ⟨w.heap.size + 1 + 1, 1, none⟩ (.int .i64 t)) (w.heap.size + 1) ⟨3, cl, ⟨⟨ra, rb⟩, ⟨rc, rd⟩, ⟨re, rf⟩, ⟨rg, rh⟩, ⟨ri, rj⟩⟩, lo, hi, 1, fa, bu⟩) := QyB.by (HQ.out.jk HJ2.out) (grown_set _ _ _ _) (by omega)
          have HJs : Hid (Jk w (w2.setCell ⟨w.heap.size + 1 + 1, 1, none⟩ (.int .i64 t))) := (HJ0.out.trans HJ2.out).set (by simp only; omega) _
          have HPe := hid (HP0.out.up HJs.out)
          clear HJ3
          go_upto_region 18 with fail
          generalize hwE : w2.setCell ⟨w.heap.size + 1 + 1, 1, none⟩ (.int .i64 t) = wE at HPs HMs HQs HJs HPe ⊢
          clear hwE m0 m1 m2 m3 m4 m5 m6 q0 q1 q2 q3 q4 q5 q6 q7 q8 q9 q10 q11 q12 q13 q14 q15 q16 ql pt0 pt1 pt2 pt3 pt4 ptf
          obtain ⟨m0, m1, m2, m3, m4, m5, m6⟩ := HMs.out.in
          obtain ⟨pt0, pt1, pt2, pt3, pt4⟩ := HPs.out.in
          obtain ⟨q0, q1, q2, q3, q4, q5, q6, q7, q8, q9, q10, q11, q12, q13, q14, q15, q16⟩ := HQs.out.in
          have ql := HQs.out.lt
          simp only at m1 m2 m3 m4 m5 m6 q0 q1 q2 q3 q4 q5 q6 q7 q8 q9 q10 q11 q12 q13 q14 q15 q16
          go_upto_region 19 with (first | (go_at_call 36; refine (HPe.out.on _ (by exact Jk.refl _)).mono ?_; rintro e w3 ⟨rfl, hj3⟩; have HJ3 := hid hj3; clear hj3))
          clear m0 m1 m2 m3 m4 m5 m6 q0 q1 q2 q3 q4 q5 q6 q7 q8 q9 q10 q11 q12 q13 q14 q15 q16 ql pt0 pt1 pt2 pt3 pt4
          obtain ⟨q0, q1, q2, q3, q4, q5, q6, q7, q8, q9, q10, q11, q12, q13, q14, q15, q16⟩ := (HQs.out.jk HJ3.out).in
          have ql := (HQs.out.jk HJ3.out).lt
          simp only at q0 q1 q2 q3 q4 q5 q6 q7 q8 q9 q10 q11 q12 q13 q14 q15 q16
          cases fa
          · have h5 : b = true ↔ y < E := h1.trans (by simp [ht])
            clear h1
            by_cases h6 : y < E
            · obtain rfl : true = b := (h5.2 h6).symm
              go_wp2
              go_ret
              exact ⟨by first | rfl | exact ret_bool (by simp [*]), HJs.out.trans HJ3.out⟩
            · obtain rfl : false = b := (Bool.eq_false_iff.2 fun e => h6 (h5.1 e)).symm
              go_wp2
              go_ret
              exact ⟨by first | rfl | exact ret_bool (by simp; omega), HJs.out.trans HJ3.out⟩
          · have h5 : b = true ↔ E < y := h1.trans (by simp [ht])
            clear h1
            by_cases h6 : E < y
            · obtain rfl : true = b := (h5.2 h6).symm
              go_wp2
              go_ret
              exact ⟨by first | rfl | exact ret_bool (by simp [*]), HJs.out.trans HJ3.out⟩
            · obtain rfl : false = b := (Bool.eq_false_iff.2 fun e => h6 (h5.1 e)).symm
              go_wp2
              go_ret
              exact ⟨by first | rfl | exact ret_bool (by simp; omega), HJs.out.trans HJ3.out⟩
        · obtain rfl : false = b := (Bool.eq_false_iff.2 fun e => ht (h1.1 e).1).symm
          clear h1
          go_wp2
          go_ret
          exact ⟨rfl, HJ0.out.trans HJ2.out⟩
      · simp only [Int.reduceEq, reduceIte] at HP0
        have h1 : b = true ↔ p2 < t ∧ ((fa = true ∧ E < y) ∨ (fa = false ∧ y < E)) := HB3.out.trans (by simp [e2])
        clear HB3 e0 e1 e2 e3
        by_cases ht : p2 < t
        · have ht' : ¬ t ≤ p2 := by omega
          have HJ3 : Hid (Jk w0 (w2.setCell ⟨w.heap.size + 1 + 1, 2, none⟩ (.int .i64 t))) ∨ True := .inr trivial
          have HPs : Hid (PtB (w2.setCell ⟨w.heap.size + 1 + 1, 2, none⟩ (.int .i64 t)) (w.heap.size + 1 + 1) p0 p1 t p3) := heap_setCell_same _ _ _ _ _ _ (HPt.out.jk HJ2.out)
          have HMs : Hid (MdB (w2.setCell ⟨w.heap.size + 1 + 1, 2, none⟩ (.int .i64 t)) w.heap.size ⟨d, (K : Int), b0, b1, b2, ma, mn, mc, ts⟩) := MdB.byQ (HM.out.jk HJ2.out) (grown_set _ _ _ _) (by omega)
          have HQs : Hid (QyB (w2.setCell ⟨w.heap.size + 1 + 1, 2, none⟩ (.int .i64 t)) (w.heap.size + 1) ⟨3, cl, ⟨⟨ra, rb⟩, ⟨rc, rd⟩, ⟨re, rf⟩, ⟨rg, rh⟩, ⟨ri, rj⟩⟩, lo, hi, 2, fa, bu⟩) := QyB.by (HQ.out.jk HJ2.out) (grown_set _ _ _ _) (by omega)
          have HJs : Hid (Jk w (w2.setCell ⟨w.heap.size + 1 + 1, 2, none⟩ (.int .i64 t))) := (HJ0.out.trans HJ2.out).set (by simp only; omega) _
          have HPe := hid (HP0.out.up HJs.out)
          clear HJ3
          go_upto_region 18 with fail
          generalize hwE : w2.setCell ⟨w.heap.size + 1 + 1, 2, none⟩ (.int .i64 t) = wE at HPs HMs HQs HJs HPe ⊢
          clear hwE m0 m1 m2 m3 m4 m5 m6 q0 q1 q2 q3 q4 q5 q6 q7 q8 q9 q10 q11 q12 q13 q14 q15 q16 ql pt0 pt1 pt2 pt3 pt4 ptf
          obtain ⟨m0, m1, m2, m3, m4, m5, m6⟩ := HMs.out.in
          obtain ⟨pt0, pt1, pt2, pt3, pt4⟩ := HPs.out.in
          obtain ⟨q0, q1, q2, q3, q4, q5, q6, q7, q8, q9, q10, q11, q12, q13, q14, q15, q16⟩ := HQs.out.in
          have ql := HQs.out.lt
          simp only at m1 m2 m3 m4 m5 m6 q0 q1 q2 q3 q4 q5 q6 q7 q8 q9 q10 q11 q12 q13 q14 q15 q16
          go_upto_region 19 with (first | (go_at_call 36; refine (HPe.out.on _ (by exact Jk.refl _)).mono ?_; rintro e w3 ⟨rfl, hj3⟩; have HJ3 := hid hj3; clear hj3))
          clear m0 m1 m2 m3 m4 m5 m6 q0 q1 q2 q3 q4 q5 q6 q7 q8 q9 q10 q11 q12 q13 q14 q15 q16 ql pt0 pt1 pt2 pt3 pt4
          obtain ⟨q0, q1, q2, q3, q4, q5, q6, q7, q8, q9, q10, q11, q12, q13, q14, q15, q16⟩ := (HQs.out.jk HJ3.out).in
          have ql := (HQs.out.jk HJ3.out).lt
          simp only at q0 q1 q2 q3 q4 q5 q6 q7 q8 q9 q10 q11 q12 q13 q14 q15 q16
          cases fa
          · have h5 : b = true ↔ y < E := h1.trans (by simp [ht])
            clear h1
            by_cases h6 : y < E
            · obtain rfl : true = b := (h5.2 h6).symm
              go_wp2
              go_ret
              exact ⟨by first | rfl | exact ret_bool (by simp [*]), HJs.out.trans HJ3.out⟩
            · obtain rfl : false = b := (Bool.eq_false_iff.2 fun e => h6 (h5.1 e)).symm
              go_wp2
              go_ret
              exact ⟨by first | rfl | exact ret_bool (by simp; omega), HJs.out.trans HJ3.out⟩
          · have h5 : b = true ↔ E < y := h1.trans (by simp [ht])
            clear h1
            by_cases h6 : E < y
            · obtain rfl : true = b := (h5.2 h6).symm
              go_wp2
              go_ret
              exact ⟨by first | rfl | exact ret_bool (by simp [*]), HJs.out.trans HJ3.out⟩
            · obtain rfl : false = b := (Bool.eq_false_iff.2 fun e => h6 (h5.1 e)).symm
              go_wp2
              go_ret
              exact ⟨by first | rfl | exact ret_bool (by simp; omega), HJs.out.trans HJ3.out⟩
        · obtain rfl : false = b := (Bool.eq_false_iff.2 fun e => ht (h1.1 e).1).symm
          clear h1
          go_wp2
          go_ret
          exact ⟨rfl, HJ0.out.trans HJ2.out⟩
      · simp only [Int.reduceEq, reduceIte] at HP0
        have h1 : b = true ↔ p3 < t ∧ ((fa = true ∧ E < y) ∨ (fa = false ∧ y < E)) := HB3.out.trans (by simp [e3])
        clear HB3 e0 e1 e2 e3
        by_cases ht : p3 < t
        · have ht' : ¬ t ≤ p3 := by omega
          have HJ3 : Hid (Jk w0 (w2.setCell ⟨w.heap.size + 1 + 1, 3, none⟩ (.int .i64 t))) ∨ True := .inr trivial
          have HPs : Hid (PtB (w2.setCell ⟨w.heap.size + 1 + 1, 3, none⟩ (.int .i64 t)) (w.heap.size + 1 + 1) p0 p1 p2 t) := heap_setCell_same _ _ _ _ _ _ (HPt.out.jk HJ2.out)
          have HMs : Hid (MdB (w2.setCell ⟨w.heap.size + 1 + 1, 3, none⟩ (.int .i64 t)) w.heap.size ⟨d, (K : Int), b0, b1, b2, ma, mn, mc, ts⟩) := MdB.byQ (HM.out.jk HJ2.out) (grown_set _ _ _ _) (by omega)
          have HQs : Hid (QyB (w2.setCell ⟨w.heap.size + 1 + 1, 3, none⟩ (.int .i64 t)) (w.heap.size + 1) ⟨3, cl, ⟨⟨ra, rb⟩, ⟨rc, rd⟩, ⟨re, rf⟩, ⟨rg, rh⟩, ⟨ri, rj⟩⟩, lo, hi, 3, fa, bu⟩) := QyB.by (HQ.out.jk HJ2.out) (grown_set _ _ _ _) (by omega)
          have HJs : Hid (Jk w (w2.setCell ⟨w.heap.size + 1 + 1, 3, none⟩ (.int .i64 t))) := (HJ0.out.trans HJ2.out).set (by simp only; omega) _
          have HPe := hid (HP0.out.up HJs.out)
          clear HJ3
          go_upto_region 18 with fail
          generalize hwE : w2.setCell ⟨w.heap.size + 1 + 1, 3, none⟩ (.int .i64 t) = wE at HPs HMs HQs HJs HPe ⊢
          clear hwE m0 m1 m2 m3 m4 m5 m6 q0 q1 q2 q3 q4 q5 q6 q7 q8 q9 q10 q11 q12 q13 q14 q15 q16 ql pt0 pt1 pt2 pt3 pt4 ptf
          obtain ⟨m0, m1, m2, m3, m4, m5, m6⟩ := HMs.out.in
          obtain ⟨pt0, pt1, pt2, pt3, pt4⟩ := HPs.out.in
          obtain ⟨q0, q1, q2, q3, q4, q5, q6, q7, q8, q9, q10, q11, q12, q13, q14, q15, q16⟩ := HQs.out.in
          have ql := HQs.out.lt
          simp only at m1 m2 m3 m4 m5 m6 q0 q1 q2 q3 q4 q5 q6 q7 q8 q9 q10 q11 q12 q13 q14 q15 q16
          go_upto_region 19 with (first | (go_at_call 36; refine (HPe.out.on _ (by exact Jk.refl _)).mono ?_; rintro e w3 ⟨rfl, hj3⟩; have HJ3 := hid hj3; clear hj3))
          clear m0 m1 m2 m3 m4 m5 m6 q0 q1 q2 q3 q4 q5 q6 q7 q8 q9 q10 q11 q12 q13 q14 q15 q16 ql pt0 pt1 pt2 pt3 pt4
          obtain ⟨q0, q1, q2, q3, q4, q5, q6, q7, q8, q9, q10, q11, q12, q13, q14, q15, q16⟩ := (HQs.out.jk HJ3.out).in
          have ql := (HQs.out.jk HJ3.out).lt
          simp only at q0 q1 q2 q3 q4 q5 q6 q7 q8 q9 q10 q11 q12 q13 q14 q15 q16
          cases fa
          · have h5 : b = true ↔ y < E := h1.trans (by simp [ht])
            clear h1
            by_cases h6 : y < E
            · obtain rfl : true = b := (h5.2 h6).symm
              go_wp2
              go_ret
              exact ⟨by first | rfl | exact ret_bool (by simp [*]), HJs.out.trans HJ3.out⟩
            · obtain rfl : false = b := (Bool.eq_false_iff.2 fun e => h6 (h5.1 e)).symm
              go_wp2
              go_ret
              exact ⟨by first | rfl | exact ret_bool (by simp; omega), HJs.out.trans HJ3.out⟩
          · have h5 : b = true ↔ E < y := h1.trans (by simp [ht])
            clear h1
            by_cases h6 : E < y
            · obtain rfl : true = b := (h5.2 h6).symm
              go_wp2
              go_ret
              exact ⟨by first | rfl | exact ret_bool (by simp [*]), HJs.out.trans HJ3.out⟩
            · obtain rfl : false = b := (Bool.eq_false_iff.2 fun e => h6 (h5.1 e)).symm
              go_wp2
              go_ret
              exact ⟨by first | rfl | exact ret_bool (by simp; omega), HJs.out.trans HJ3.out⟩
        · obtain rfl : false = b := (Bool.eq_false_iff.2 fun e => ht (h1.1 e).1).symm
          clear h1
          go_wp2
          go_ret
          exact ⟨rfl, HJ0.out.trans HJ2.out⟩

end Go.Proofs.Ytmfmiflifebflaa
