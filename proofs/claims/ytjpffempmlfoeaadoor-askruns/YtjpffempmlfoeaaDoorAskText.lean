/- What Print of package ask answers: the text of a query that can be told, else none. Conditions: what package ask asks of the functions beyond it ('LibA').
   What Print of package ask answers of a query that can be told: its text. Conditions: what package ask asks of the functions beyond it ('LibA'). -/
import Derived.Test.YtjpffempmlfoeaaDoorAskTold
import Derived.Test.YtjpffempmlfoeaaDoorSteps
namespace Go.Proofs.YtjpffempmlfoeaaDoor
open Go.RowKit M

theorem nil_is (w : World) : (binOp .eql 54 (.slice none 0 0) (.slice none 0 0)).run Tryd.prog w = .ok (.bool true) w := by kernel_rfl
theorem nil_not (a : Addr) (n c : Nat) (w : World) : (binOp .eql 54 (.slice (some a) n c) (.slice none 0 0)).run Tryd.prog w = .ok (.bool false) w := by kernel_rfl
theorem toldI_iff (q : Qy) (d : Nat) (h1 : 1 ≤ d) (h4 : d ≤ 4) : toldI q d = q ↔ restNil d q.rg ∧ (q.kd = 1 ∨ (q.lo = 0 ∧ q.hi = 0)) ∧ (q.kd = 3 ∨ (q.f = 0 ∧ q.fa = false)) := by
  obtain ⟨kd, cl, ⟨⟨ra, rb⟩, ⟨rc, rd⟩, ⟨re, rf⟩, ⟨rg, rh⟩, ⟨ri, rj⟩⟩, lo, hi, f, fa, bu⟩ := q
  have : d = 1 ∨ d = 2 ∨ d = 3 ∨ d = 4 := by omega
  have e : ∀ x : Int, (0 = x) = (x = 0) := fun x => propext eq_comm
  unfold toldI cutBx restNil Sp.isNil
  by_cases k1 : kd = 1
  · subst k1
    rcases this with rfl | rfl | rfl | rfl <;> simp [Sp.nil, e, and_assoc] <;> (intros; constructor <;> (intro h; simp_all))
  · by_cases k3 : kd = 3
    · subst k3
      rcases this with rfl | rfl | rfl | rfl <;> simp [Sp.nil, e, and_assoc] <;> (intros; constructor <;> (intro h; simp_all))
    · rcases this with rfl | rfl | rfl | rfl <;> simp [Sp.nil, k1, k3, e, and_assoc] <;> (intros; constructor <;> (intro h; simp_all))
theorem tells_of {q : Qy} {d : Nat} (h1 : 1 ≤ d) (h4 : d ≤ 4) : TellsQ q d ↔ toldI q d = q ∧ (smallN q.cl ∧ smallN q.f ∧ smallN q.bu) ∧ (q.kd = 1 ∨ q.kd = 2 ∨ q.kd = 3) := by
  rw [tells_iff, toldI_iff q d h1 h4]
  unfold kindZ
  constructor
  · rintro ⟨_, _, a, b, c, e, h⟩
    rcases h with ⟨k, x, y⟩ | ⟨k, x, y, z, u⟩ | ⟨k, x, y⟩
    · exact ⟨⟨e, .inl k, .inr ⟨x, y⟩⟩, ⟨a, b, c⟩, .inl k⟩
    · exact ⟨⟨e, .inr ⟨x, y⟩, .inr ⟨z, u⟩⟩, ⟨a, b, c⟩, .inr (.inl k)⟩
    · exact ⟨⟨e, .inr ⟨x, y⟩, .inl k⟩, ⟨a, b, c⟩, .inr (.inr k)⟩
  · rintro ⟨⟨e, h2, h3⟩, ⟨a, b, c⟩, hk⟩
    refine ⟨by omega, by omega, a, b, c, e, ?_⟩
    rcases hk with k | k | k
    · rcases h3 with h | h
      · omega
      · exact .inl ⟨k, h.1, h.2⟩
    · rcases h2 with h | h
      · omega
      · rcases h3 with h' | h'
        · omega
        · exact .inr (.inl ⟨k, h.1, h.2, h'.1, h'.2⟩)
    · rcases h2 with h | h
      · omega
      · exact .inr (.inr ⟨k, h.1, h.2⟩)

set_option maxRecDepth 100000 in
set_option maxHeartbeats 3200000 in
theorem print_dim (q : Qy) (d : Int) (hd : d < 1 ∨ 4 < d) : Ans 9 #[queryV q, .int .i64 d] (tx []) := fun w => by
  have J := rules8
  obtain ⟨kd, cl, ⟨⟨ra, rb⟩, ⟨rc, rd⟩, ⟨re, rf⟩, ⟨rg, rh⟩, ⟨ri, rj⟩⟩, lo, hi, f, fa, bu⟩ := q
  obtain ⟨w0, hw0⟩ : ∃ w0, w.alloc (.cells #[.int .i64 kd, .int .i64 cl, .int .i64 ra, .int .i64 rb, .int .i64 rc, .int .i64 rd, .int .i64 re, .int .i64 rf, .int .i64 rg, .int .i64 rh, .int .i64 ri, .int .i64 rj, .int .i64 lo, .int .i64 hi, .int .i64 f, .bool fa, .int .i64 bu] 27) = w0 := ⟨_, rfl⟩
  have HJ0 : Hid (Jk w w0) := hw0 ▸ (Jk.refl w).alloc _
  have HQ : Hid (QyB w0 w.heap.size ⟨kd, cl, ⟨⟨ra, rb⟩, ⟨rc, rd⟩, ⟨re, rf⟩, ⟨rg, rh⟩, ⟨ri, rj⟩⟩, lo, hi, f, fa, bu⟩) := by
    rw [← hw0]
    exact QyB.laid w ⟨kd, cl, ⟨⟨ra, rb⟩, ⟨rc, rd⟩, ⟨re, rf⟩, ⟨rg, rh⟩, ⟨ri, rj⟩⟩, lo, hi, f, fa, bu⟩
  by_cases h1 : d < 1
  · have e1 := decide_eq_true h1
    clear hd
    go_enter Tryd.func9, Tryd.ntmps9
    go_upto_region 1 with fail
    refine region_junk (by kernel_rfl) (by kernel_rfl) ?_
    repeat (go_big_quiet_step (exact rfl))
    refine wpQuiet_nil ?_
    rintro _ ⟨X, rfl⟩
    go_wp2
    go_ret
    exact ⟨rfl, HJ0.out.junk X⟩
  · have h4 : 4 < d := by omega
    have e1 := decide_eq_false h1
    have e4 := decide_eq_true h4
    clear hd
    go_enter Tryd.func9, Tryd.ntmps9
    go_upto_region 1 with fail
    refine region_junk (by kernel_rfl) (by kernel_rfl) ?_
    repeat (go_big_quiet_step (exact rfl))
    refine wpQuiet_nil ?_
    rintro _ ⟨X, rfl⟩
    go_wp2
    go_ret
    exact ⟨rfl, HJ0.out.junk X⟩

set_option maxRecDepth 100000 in
set_option maxHeartbeats 3200000 in
theorem print_other (q : Qy) (d : Nat) (h1 : 1 ≤ d) (h4 : d ≤ 4) (hn : ¬ toldI q d = q) : Ans 9 #[queryV q, .int .i64 (d : Int)] (tx []) := fun w => by
  have J := rules8
  have HT := hid (told_ans q d h1 h4)
  obtain ⟨t, ht⟩ : ∃ t, toldI q d = t := ⟨_, rfl⟩
  rw [ht] at HT hn
  have E := eq_qy (a := q) (b := t) (r := false) ⟨fun h => absurd h Bool.false_ne_true, fun h => absurd h.symm hn⟩
  clear ht hn
  obtain ⟨kd, cl, ⟨⟨ra, rb⟩, ⟨rc, rd⟩, ⟨re, rf⟩, ⟨rg, rh⟩, ⟨ri, rj⟩⟩, lo, hi, f, fa, bu⟩ := q
  obtain ⟨tkd, tcl, ⟨⟨ta, tb⟩, ⟨tc, td⟩, ⟨te, tf⟩, ⟨tg, th⟩, ⟨ti, tj⟩⟩, tlo, thi, tff, tfa, tbu⟩ := t
  simp only [queryV] at HT E
  obtain ⟨w0, hw0⟩ : ∃ w0, w.alloc (.cells #[.int .i64 kd, .int .i64 cl, .int .i64 ra, .int .i64 rb, .int .i64 rc, .int .i64 rd, .int .i64 re, .int .i64 rf, .int .i64 rg, .int .i64 rh, .int .i64 ri, .int .i64 rj, .int .i64 lo, .int .i64 hi, .int .i64 f, .bool fa, .int .i64 bu] 27) = w0 := ⟨_, rfl⟩
  have HJ0 : Hid (Jk w w0) := hw0 ▸ (Jk.refl w).alloc _
  have HQ : Hid (QyB w0 w.heap.size ⟨kd, cl, ⟨⟨ra, rb⟩, ⟨rc, rd⟩, ⟨re, rf⟩, ⟨rg, rh⟩, ⟨ri, rj⟩⟩, lo, hi, f, fa, bu⟩) := by
    rw [← hw0]
    exact QyB.laid w ⟨kd, cl, ⟨⟨ra, rb⟩, ⟨rc, rd⟩, ⟨re, rf⟩, ⟨rg, rh⟩, ⟨ri, rj⟩⟩, lo, hi, f, fa, bu⟩
  have e1 : decide ((d : Int) < 1) = false := decide_eq_false (by omega)
  have e4 : decide ((4 : Int) < (d : Int)) = false := decide_eq_false (by omega)
  go_enter Tryd.func9, Tryd.ntmps9
  go_upto_region 1 with fail
  refine region_junk (by kernel_rfl) (by kernel_rfl) ?_
  iterate 7 (go_big_quiet_step (exact rfl))
  refine quietw_loadQ (by rintro _ ⟨X, rfl⟩; exact HQ.out.jk ⟨X, rfl⟩) rfl _ rfl rfl ?_
  intro K hK
  simp only [Act.put, List.setIfInBounds_toArray, List.set_cons_succ, List.set_cons_zero]
  go_big_quiet_on
  refine quietw_loadQ (by rintro _ ⟨X, rfl⟩; exact HQ.out.jk ⟨X, rfl⟩) rfl _ rfl rfl ?_
  intro K hK
  simp only [Act.put, List.setIfInBounds_toArray, List.set_cons_succ, List.set_cons_zero]
  go_big_quiet_on
  repeat (go_big_quiet_step (first | (go_at_call 14; exact on_junk HT.out _) | exact rfl))
  refine wpQuiet_nil ?_
  rintro _ ⟨X, rfl⟩
  go_wp2
  go_ret
  exact ⟨rfl, HJ0.out.junk X⟩

set_option maxRecDepth 100000 in
set_option maxHeartbeats 3200000 in
theorem print_great (q : Qy) (d : Nat) (h1 : 1 ≤ d) (h4 : d ≤ 4) (hn : toldI q d = q) (hb : ¬ (smallN q.cl ∧ smallN q.f ∧ smallN q.bu)) : Ans 9 #[queryV q, .int .i64 (d : Int)] (tx []) := fun w => by
  have J := rules8
  have HT := hid (told_ans q d h1 h4)
  rw [hn] at HT
  have E := eq_qy (a := q) (b := q) (r := true) (iff_of_true rfl rfl)
  have HF := hid (fits_ans q (b := false) (iff_of_false Bool.false_ne_true hb))
  clear hn hb
  obtain ⟨kd, cl, ⟨⟨ra, rb⟩, ⟨rc, rd⟩, ⟨re, rf⟩, ⟨rg, rh⟩, ⟨ri, rj⟩⟩, lo, hi, f, fa, bu⟩ := q
  simp only [queryV] at HT E HF
  obtain ⟨w0, hw0⟩ : ∃ w0, w.alloc (.cells #[.int .i64 kd, .int .i64 cl, .int .i64 ra, .int .i64 rb, .int .i64 rc, .int .i64 rd, .int .i64 re, .int .i64 rf, .int .i64 rg, .int .i64 rh, .int .i64 ri, .int .i64 rj, .int .i64 lo, .int .i64 hi, .int .i64 f, .bool fa, .int .i64 bu] 27) = w0 := ⟨_, rfl⟩
  have HJ0 : Hid (Jk w w0) := hw0 ▸ (Jk.refl w).alloc _
  have HQ : Hid (QyB w0 w.heap.size ⟨kd, cl, ⟨⟨ra, rb⟩, ⟨rc, rd⟩, ⟨re, rf⟩, ⟨rg, rh⟩, ⟨ri, rj⟩⟩, lo, hi, f, fa, bu⟩) := by
    rw [← hw0]
    exact QyB.laid w ⟨kd, cl, ⟨⟨ra, rb⟩, ⟨rc, rd⟩, ⟨re, rf⟩, ⟨rg, rh⟩, ⟨ri, rj⟩⟩, lo, hi, f, fa, bu⟩
  have e1 : decide ((d : Int) < 1) = false := decide_eq_false (by omega)
  have e4 : decide ((4 : Int) < (d : Int)) = false := decide_eq_false (by omega)
  go_enter Tryd.func9, Tryd.ntmps9
  go_upto_region 1 with fail
  refine region_junk (by kernel_rfl) (by kernel_rfl) ?_
  iterate 7 (go_big_quiet_step (exact rfl))
  refine quietw_loadQ (by rintro _ ⟨X, rfl⟩; exact HQ.out.jk ⟨X, rfl⟩) rfl _ rfl rfl ?_
  intro K hK
  simp only [Act.put, List.setIfInBounds_toArray, List.set_cons_succ, List.set_cons_zero]
  go_big_quiet_on
  refine quietw_loadQ (by rintro _ ⟨X, rfl⟩; exact HQ.out.jk ⟨X, rfl⟩) rfl _ rfl rfl ?_
  intro K hK
  simp only [Act.put, List.setIfInBounds_toArray, List.set_cons_succ, List.set_cons_zero]
  go_big_quiet_on
  iterate 5 (go_big_quiet_step (first | (go_at_call 14; exact on_junk HT.out _) | exact rfl))
  refine quietw_loadQ (by rintro _ ⟨X, rfl⟩; exact HQ.out.jk ⟨X, rfl⟩) rfl _ rfl rfl ?_
  intro K hK
  simp only [Act.put, List.setIfInBounds_toArray, List.set_cons_succ, List.set_cons_zero]
  go_big_quiet_on
  repeat (go_big_quiet_step (first | (go_at_call 15; exact on_junk HF.out _) | exact rfl))
  refine wpQuiet_nil ?_
  rintro _ ⟨X, rfl⟩
  go_wp2
  go_ret
  exact ⟨rfl, HJ0.out.junk X⟩

set_option maxRecDepth 100000 in
set_option maxHeartbeats 3200000 in
theorem print_none {wb : World} (hL : LibA wb) (q : Qy) (d : Nat) (h1 : 1 ≤ d) (h4 : d ≤ 4) (hn : toldI q d = q) (hb : smallN q.cl ∧ smallN q.f ∧ smallN q.bu) (k1 : ¬ q.kd = 1) (k2 : ¬ q.kd = 2) (k3 : ¬ q.kd = 3) : AnsW wb 9 #[queryV q, .int .i64 (d : Int)] (tx []) := fun w hw => by
  have J := rules8
  have HT := hid (told_ans q d h1 h4)
  rw [hn] at HT
  have E := eq_qy (a := q) (b := q) (r := true) (iff_of_true rfl rfl)
  have HF := hid (fits_ans q (b := true) (iff_of_true rfl hb))
  have HK := hid ((kindW_no hL q k1 k2 k3 hb.1).at hw)
  clear hn hb k1 k2 k3 hL hw
  obtain ⟨kd, cl, ⟨⟨ra, rb⟩, ⟨rc, rd⟩, ⟨re, rf⟩, ⟨rg, rh⟩, ⟨ri, rj⟩⟩, lo, hi, f, fa, bu⟩ := q
  simp only [queryV] at HT E HF HK
  obtain ⟨w0, hw0⟩ : ∃ w0, w.alloc (.cells #[.int .i64 kd, .int .i64 cl, .int .i64 ra, .int .i64 rb, .int .i64 rc, .int .i64 rd, .int .i64 re, .int .i64 rf, .int .i64 rg, .int .i64 rh, .int .i64 ri, .int .i64 rj, .int .i64 lo, .int .i64 hi, .int .i64 f, .bool fa, .int .i64 bu] 27) = w0 := ⟨_, rfl⟩
  have HJ0 : Hid (Jk w w0) := hw0 ▸ (Jk.refl w).alloc _
  have HQ : Hid (QyB w0 w.heap.size ⟨kd, cl, ⟨⟨ra, rb⟩, ⟨rc, rd⟩, ⟨re, rf⟩, ⟨rg, rh⟩, ⟨ri, rj⟩⟩, lo, hi, f, fa, bu⟩) := by
    rw [← hw0]
    exact QyB.laid w ⟨kd, cl, ⟨⟨ra, rb⟩, ⟨rc, rd⟩, ⟨re, rf⟩, ⟨rg, rh⟩, ⟨ri, rj⟩⟩, lo, hi, f, fa, bu⟩
  have e1 : decide ((d : Int) < 1) = false := decide_eq_false (by omega)
  have e4 : decide ((4 : Int) < (d : Int)) = false := decide_eq_false (by omega)
  go_enter Tryd.func9, Tryd.ntmps9
  go_upto_region 1 with fail
  refine region_junk (by kernel_rfl) (by kernel_rfl) ?_
  iterate 7 (go_big_quiet_step (exact rfl))
  refine quietw_loadQ (by rintro _ ⟨X, rfl⟩; exact HQ.out.jk ⟨X, rfl⟩) rfl _ rfl rfl ?_
  intro K hK
  simp only [Act.put, List.setIfInBounds_toArray, List.set_cons_succ, List.set_cons_zero]
  go_big_quiet_on
  refine quietw_loadQ (by rintro _ ⟨X, rfl⟩; exact HQ.out.jk ⟨X, rfl⟩) rfl _ rfl rfl ?_
  intro K hK
  simp only [Act.put, List.setIfInBounds_toArray, List.set_cons_succ, List.set_cons_zero]
  go_big_quiet_on
  iterate 5 (go_big_quiet_step (first | (go_at_call 14; exact on_junk HT.out _) | exact rfl))
  refine quietw_loadQ (by rintro _ ⟨X, rfl⟩; exact HQ.out.jk ⟨X, rfl⟩) rfl _ rfl rfl ?_
  intro K hK
  simp only [Act.put, List.setIfInBounds_toArray, List.set_cons_succ, List.set_cons_zero]
  go_big_quiet_on
  repeat (go_big_quiet_step (first | (go_at_call 15; exact on_junk HF.out _) | exact rfl))
  refine wpQuiet_nil ?_
  rintro _ ⟨X, rfl⟩
  have HJ1 : Hid (Jk w0 (junk w0 X)) := ⟨X, rfl⟩
  generalize junk w0 X = w1 at HJ1 ⊢
  have hnil := nil_is
  go_upto_region 3 with fail
  refine wp_region_lit ?_
  refine list_loadQ rfl _ rfl (HQ.out.jk HJ1.out) rfl ?_
  go_wp2_with (go_at_call 16; refine (HK.out _ (HJ0.out.trans HJ1.out)).mono ?_; rintro e w2 ⟨rfl, hj2⟩; have HJ2 := hid hj2; clear hj2)
  go_ret
  exact ⟨rfl, (HJ0.out.trans HJ1.out).trans HJ2.out⟩
end Go.Proofs.YtjpffempmlfoeaaDoor

namespace Go.Proofs.YtjpffempmlfoeaaDoor
open Go.RowKit M

theorem headW_len (q : Qy) : (headW q).length ≤ 6 := by
  unfold headW
  repeat' split
  all_goals simp
theorem dg_len20 {n : Int} (h : smallN n) : (dg n).length ≤ 20 := by
  unfold smallN at h
  unfold dg
  exact dd_len _ (by omega)
theorem print_len30 {n : Int} (h : I64 n) : (printL n).length ≤ 30 := (printL_len n h.1 h.2).1
theorem span_len {s : Sp} (h : s.ok) : (spanT s).length ≤ 62 := by
  have h1 := print_len30 h.1
  have h2 := print_len30 h.2
  unfold spanT
  simp
  omega
theorem ask_len {q : Qy} {d : Nat} (h : TellsQ q d) (ho : q.ok) : (askT q d).length ≤ 600 := by
  have h4 : d ≤ 4 := by have := h.d4; omega
  have h1 : 1 ≤ d := by have := h.d1; omega
  have c1 := dg_len20 h.cl
  have c2 := dg_len20 h.f
  have c3 := dg_len20 h.bu
  have c4 := print_len30 ho.lo
  have c5 := print_len30 ho.hi
  have hs : ∀ k : Int, (spanT (q.rg.at k)).length ≤ 62 := fun k => span_len (ok_at ho.rg k)
  have hb : (spansT q.rg d 0 (kBudget ++ 32 :: dg q.bu)).length ≤ 300 := by
    have a0 := hs 0
    have a1 := hs 1
    have a2 := hs 2
    have a3 := hs 3
    have : d = 1 ∨ d = 2 ∨ d = 3 ∨ d = 4 := by omega
    rcases this with rfl | rfl | rfl | rfl <;> simp [spansT, kBudget] <;> omega
  rw [ask_text h]
  unfold headT
  repeat' split
  · simp [kRange, kFrom, kTo, kIn]; omega
  · simp [kBest, kIn]; omega
  · cases q.fa <;> simp [wayT, kFalls, kRises, kBy, kIn] <;> omega
theorem text_sum (a b : Txt) : (⟨a.toArray⟩ : ByteArray) ++ (⟨#[46, 46]⟩ : ByteArray) ++ ⟨b.toArray⟩ = ⟨(a ++ (46 :: 46 :: b)).toArray⟩ := by
  apply ByteArray.ext
  simp
theorem spansW_len (b : Bx) : ∀ k, (spansW b k).length = k
  | 0 => rfl
  | k + 1 => by simp [spansW, spansW_len b k]
/-- the cells of the j-th span -/
theorem QyB.span {w : World} {h : Nat} {q : Qy} (H : QyB w h q) {j : Nat} (hj : j < 4) : w.cell? ⟨h, 2 + j * 2, none⟩ = some (.int .i64 (q.rg.at (j : Int)).lo) ∧ w.cell? ⟨h, 2 + j * 2 + 1, none⟩ = some (.int .i64 (q.rg.at (j : Int)).hi) := by
  obtain ⟨x0, x1, x2, x3, x4, x5, x6, x7, x8, x9, x10, x11, x12, x13, x14, x15, x16⟩ := H.in
  match j, hj with
  | 0, _ => exact ⟨x2, x3⟩
  | 1, _ => exact ⟨x4, x5⟩
  | 2, _ => exact ⟨x6, x7⟩
  | 3, _ => exact ⟨x8, x9⟩
  | j + 4, h => omega

set_option maxRecDepth 100000 in
set_option maxHeartbeats 6400000 in
theorem print_yes {wb : World} (hL : LibA wb) (q : Qy) (hq : q.ok) (d : Nat) (h : TellsQ q d) : AnsW wb 9 #[queryV q, .int .i64 (d : Int)] (tx (askT q d)) := fun w hw => by
  have J := rules8
  have h4 : d ≤ 4 := by have := h.d4; omega
  have h1 : 1 ≤ d := by have := h.d1; omega
  obtain ⟨hn, hb, hk⟩ := (tells_of h1 h4).1 h
  have HT := hid (told_ans q d h1 h4)
  rw [hn] at HT
  have E := eq_qy (a := q) (b := q) (r := true) (iff_of_true rfl rfl)
  have HF := hid (fits_ans q (b := true) (iff_of_true rfl hb))
  obtain ⟨LW, hLW⟩ : ∃ z, headW q = z := ⟨_, rfl⟩
  obtain ⟨N, hN⟩ : ∃ z, LW.length = z := ⟨_, rfl⟩
  have hN6 : N ≤ 6 := by rw [← hN, ← hLW]; exact headW_len q
  have HK : Hid (∀ z, Jk w z → Calls Tryd.prog 16 #[queryV q] z fun e w' => ∃ g c, e = .returned (.slice (some ⟨g, 0, none⟩) N c) ∧ OwnS z.heap.size w' (.slice (some ⟨g, 0, none⟩) N c) N LW ∧ Jk z w') := fun z hz => by
    have e : Calls Tryd.prog 16 #[queryV q] z fun e w' => WordsP z (headW q) e w' := by
      rcases hk with k | k | k
      · exact kindW_1 hL q hq k hb.1 (hw.trans hz)
      · exact kindW_2 hL q k hb.1 (hw.trans hz)
      · exact kindW_3 hL q k hb.1 hb.2.1 (hw.trans hz)
    refine e.mono ?_
    rintro e w' ⟨g, c, rfl, hO, hj⟩
    rw [hLW, hN] at hO ⊢
    exact ⟨g, c, rfl, hO, hj⟩
  have HAll : Hid (askT q d = Lib.join (((LW ++ [[105, 110]]) ++ spansW q.rg d) ++ [[98, 117, 100, 103, 101, 116], dg q.bu]) [32]) := by rw [← hLW]; exact rfl
  have hLen := ask_len h hq
  rw [HAll.out] at hLen ⊢
  have HLen := hid hLen
  have HBu := hid (hL.itoa q.bu hb.2.2)
  have HOk := hid hq.rg
  have HLN := hid hN
  have HL := hid (hL.at hw)
  have HLb := hid hL
  have HW := hid hw
  obtain ⟨tb, htb⟩ : ∃ z, dg q.bu = z := ⟨_, rfl⟩
  rw [htb] at HBu HLen ⊢
  obtain ⟨rgx, hrgx⟩ : ∃ z, spansW q.rg = z := ⟨_, rfl⟩
  have HNx : Hid (∀ j, spansW q.rg j ++ [spanT (q.rg.at (j : Int))] = spansW q.rg (j + 1)) := fun j => rfl
  have HN0 : Hid (spansW q.rg 0 = []) := rfl
  have HSp : Hid (∀ j : Nat, ∃ x y, q.rg.at (j : Int) = ⟨x, y⟩ ∧ I64 x ∧ I64 y) := fun j => ⟨_, _, rfl, (ok_at HOk.out (j : Int)).1, (ok_at HOk.out (j : Int)).2⟩
  have HSl : Hid (∀ j, (spansW q.rg j).length = j) := spansW_len q.rg
  rw [hrgx] at HNx HLen HN0 HSl ⊢
  clear hn hb hk hL hw h hLW hN hLen htb hrgx HAll HOk
  have HSq : Hid (∀ z g', QyB z g' q → ∀ j : Nat, j < 4 → z.cell? ⟨g', 2 + j * 2, none⟩ = some (.int .i64 (q.rg.at (j : Int)).lo) ∧ z.cell? ⟨g', 2 + j * 2 + 1, none⟩ = some (.int .i64 (q.rg.at (j : Int)).hi)) := fun z g' H j hj => H.span hj
  obtain ⟨All, hAll⟩ : ∃ z, ((LW ++ [[105, 110]]) ++ rgx d) ++ [[98, 117, 100, 103, 101, 116], tb] = z := ⟨_, rfl⟩
  rw [hAll] at HLen ⊢
  obtain ⟨S, hS⟩ : ∃ z, Lib.join All [32] = z := ⟨_, rfl⟩
  rw [hS] at HLen ⊢
  simp only [List.append_assoc, List.cons_append, List.nil_append] at hAll
  have HAll := hid hAll
  have HS := hid hS
  clear hAll hS
  generalize hRg : q.rg.at = RG at HNx HSp HSq
  clear hRg hq
  obtain ⟨kd, cl, ⟨⟨ra, rb⟩, ⟨rc, rd⟩, ⟨re, rf⟩, ⟨rg, rh⟩, ⟨ri, rj⟩⟩, lo, hi, f, fa, bu⟩ := q
  simp only [queryV] at HT E HF HK HBu
  obtain ⟨w0, hw0⟩ : ∃ w0, w.alloc (.cells #[.int .i64 kd, .int .i64 cl, .int .i64 ra, .int .i64 rb, .int .i64 rc, .int .i64 rd, .int .i64 re, .int .i64 rf, .int .i64 rg, .int .i64 rh, .int .i64 ri, .int .i64 rj, .int .i64 lo, .int .i64 hi, .int .i64 f, .bool fa, .int .i64 bu] 27) = w0 := ⟨_, rfl⟩
  have HJ0 : Hid (Jk w w0) := hw0 ▸ (Jk.refl w).alloc _
  have HQ : Hid (QyB w0 w.heap.size ⟨kd, cl, ⟨⟨ra, rb⟩, ⟨rc, rd⟩, ⟨re, rf⟩, ⟨rg, rh⟩, ⟨ri, rj⟩⟩, lo, hi, f, fa, bu⟩) := by
    rw [← hw0]
    exact QyB.laid w ⟨kd, cl, ⟨⟨ra, rb⟩, ⟨rc, rd⟩, ⟨re, rf⟩, ⟨rg, rh⟩, ⟨ri, rj⟩⟩, lo, hi, f, fa, bu⟩
  have e1 : decide ((d : Int) < 1) = false := decide_eq_false (by omega)
  have e4 : decide ((4 : Int) < (d : Int)) = false := decide_eq_false (by omega)
  go_enter Tryd.func9, Tryd.ntmps9
  go_upto_region 1 with fail
  refine region_junk (by kernel_rfl) (by kernel_rfl) ?_
  iterate 7 (go_big_quiet_step (exact rfl))
  refine quietw_loadQ (by rintro _ ⟨X, rfl⟩; exact HQ.out.jk ⟨X, rfl⟩) rfl _ rfl rfl ?_
  intro K hK
  simp only [Act.put, List.setIfInBounds_toArray, List.set_cons_succ, List.set_cons_zero]
  go_big_quiet_on
  refine quietw_loadQ (by rintro _ ⟨X, rfl⟩; exact HQ.out.jk ⟨X, rfl⟩) rfl _ rfl rfl ?_
  intro K hK
  simp only [Act.put, List.setIfInBounds_toArray, List.set_cons_succ, List.set_cons_zero]
  go_big_quiet_on
  iterate 5 (go_big_quiet_step (first | (go_at_call 14; exact on_junk HT.out _) | exact rfl))
  refine quietw_loadQ (by rintro _ ⟨X, rfl⟩; exact HQ.out.jk ⟨X, rfl⟩) rfl _ rfl rfl ?_
  intro K hK
  simp only [Act.put, List.setIfInBounds_toArray, List.set_cons_succ, List.set_cons_zero]
  go_big_quiet_on
  repeat (go_big_quiet_step (first | (go_at_call 15; exact on_junk HF.out _) | exact rfl))
  refine wpQuiet_nil ?_
  rintro _ ⟨X, rfl⟩
  have HJ1 : Hid (Jk w0 (junk w0 X)) := ⟨X, rfl⟩
  generalize junk w0 X = w1 at HJ1 ⊢
  have hnn := nil_not
  have HQ1 := hid (HQ.out.jk HJ1.out)
  have HJw1 := hid (HJ0.out.trans HJ1.out)
  clear HT E HF e1 e4 hw0
  go_upto_region 3 with fail
  refine wp_region_lit ?_
  refine list_loadQ rfl _ rfl HQ1.out rfl ?_
  go_upto_region 6 with (go_at_call 16; refine (HK.out _ HJw1.out).mono ?_; rintro e w2 ⟨g2, c2, rfl, hO2, hj2⟩; have HO2 := hid hO2; have HJ2 := hid hj2; clear hO2 hj2)
  have hs2 := HJ2.out.below.size
  go_upto_region 7 with (at_builtin; refine list_appS rfl _ _ rfl (HO2.out.jk ((Jk.refl w2).alloc _)) (by rw [World.size_alloc]; omega) rfl w2.heap.size 0 1 1 [[105, 110]] rfl (by decide) rfl (fun i hi => (by simp at hi; subst hi; exact new_cells w2 #[tx [105, 110]] _ _ rfl 0 _ rfl)) (by omega) ?_)
  intro g3 c3 w3 hO3 hG3
  have HO3 : Hid (OwnS w1.heap.size w3 (.slice (some ⟨g3, 0, none⟩) (N + 1) c3) (N + 1) ((LW ++ [[105, 110]]) ++ rgx 0)) := by rw [HN0.out, List.append_nil]; exact hO3
  have HJ3 : Hid (Jk w1 w3) := (HJ2.out.alloc _).grown hG3 (fun k hk => by have := HO2.out.base k hk; omega)
  clear hO3 hG3 HO2 HJ2 HK hs2 HN0 hnn
  have hcut := fun z : World => run_cutR z w.heap.size d h4
  go_upto_region 8 with fail
  clear hcut
  go_loopg [37, 5] d (fun r i v wr => ∃ (j g c : Nat), i = .int .i64 (j : Int) ∧ j + r = d ∧ v = .slice (some ⟨g, 0, none⟩) (N + 1 + j) c ∧ Hid (OwnS w1.heap.size wr (.slice (some ⟨g, 0, none⟩) (N + 1 + j) c) (N + 1 + j) ((LW ++ [[105, 110]]) ++ rgx j)) ∧ Hid (Jk w1 wr))
  case atStart => exact ⟨0, _, _, rfl, by omega, rfl, HO3, HJ3⟩
  case round =>
    obtain ⟨j, g, c, rfl, hj, rfl, HO, HJ⟩ := hrel
    clear HO3 HJ3
    have hsr := HJ.out.below.size
    by_cases hk : gk = 0
    · subst hk
      obtain rfl : j = d := by omega
      have HQr := hid (HQ1.out.jk HJ.out)
      obtain ⟨q0, q1, q2, q3, q4, q5, q6, q7, q8, q9, q10, q11, q12, q13, q14, q15, q16⟩ := HQr.out.in
      have ql := HQr.out.lt
      simp only at q0 q1 q2 q3 q4 q5 q6 q7 q8 q9 q10 q11 q12 q13 q14 q15 q16
      clear q0 q1 q2 q3 q4 q5 q6 q7 q8 q9 q10 q11 q12 q13 q14 q15
      go_wp2_with (first
        | (go_at_call 19; refine (HBu.out _ ((HW.out.trans HJw1.out).trans HJ.out)).mono ?_; rintro e w5 ⟨rfl, hj5⟩; have HJ5 := hid hj5; have hs5 := hj5.below.size; clear hj5)
        | (at_builtin; refine list_appS rfl _ _ rfl ((HO.out.jk HJ5.out).jk ((Jk.refl w5).alloc _)) (by rw [World.size_alloc]; omega) rfl w5.heap.size 0 2 2 [[98, 117, 100, 103, 101, 116], tb] rfl (by decide) rfl (fun i hi => (by simp at hi; have : i = 0 ∨ i = 1 := (by omega); rcases this with rfl | rfl <;> exact new_cells w5 #[tx [98, 117, 100, 103, 101, 116], tx tb] _ _ rfl _ _ rfl)) (by omega) ?_))
      intro g6 c6 w6 hO6 hG6
      have HO6 := hid hO6
      have HJ6 : Hid (Jk w1 w6) := ((HJ.out.trans HJ5.out).alloc _).grown hG6 (fun k hk => by have := HO.out.base k hk; omega)
      have hcap : N + 1 + j + 2 ≤ c6 := by
        obtain ⟨a', c', e, q1, q2, q3⟩ := row_form HO6.out.2
        simp only [Value.slice.injEq, true_and] at e
        obtain ⟨_, rfl⟩ := e
        exact q1
      have hAt := HO6.out.at
      have hLn := HO6.out.1
      rw [HAll.out] at hAt hLn
      have hJn := HL.out.join w6 g6 0 (N + 1 + j + 2) c6 _ hAt (World.ownsRow.lt HO6.out.2 g6 rfl).2 hLn hcap (by omega) (by rw [HS.out]; have := HLen.out; omega)
      rw [HS.out] at hJn
      have HJn := hid hJn
      clear hAt hLn hJn
      clear hO6 hG6 q16
      go_wp2_with (go_at_call 18; refine HJn.out.mono ?_; rintro e w7 ⟨rfl, hj7⟩; have HJ7 := hid hj7; clear hj7)
      go_ret
      exact ⟨rfl, (HJw1.out.trans HJ6.out).trans HJ7.out⟩
    · obtain ⟨r, rfl⟩ : ∃ r, gk = r + 1 := ⟨gk - 1, by omega⟩
      have hlt : (j : Int) < (d : Int) := by omega
      obtain ⟨x, y, hxy, hx, hy⟩ := HSp.out j
      obtain ⟨c0, c1⟩ := HSq.out wr _ (HQ1.out.jk HJ.out) j (by omega)
      have HNj := hid (HNx.out j)
      rw [hxy] at c0 c1 HNj
      simp only [spanT] at c0 c1 HNj
      have HPx := hid (HLb.out.print x hx)
      have HPy := hid (HLb.out.print y hy)
      have lx := print_len30 hx
      have ly := print_len30 hy
      obtain ⟨tX, htX⟩ : ∃ z, printL x = z := ⟨_, rfl⟩
      obtain ⟨tY, htY⟩ : ∃ z, printL y = z := ⟨_, rfl⟩
      rw [htX] at HPx lx HNj
      rw [htY] at HPy ly HNj
      have ql := (HQ1.out.jk HJ.out).lt
      clear hxy hx hy htX htY
      obtain ⟨w3', hw3⟩ : ∃ z, wr.alloc (.cells #[.int .i64 x, .int .i64 y] 23) = z := ⟨_, rfl⟩
      have HJ3 : Hid (Jk wr w3') := hw3 ▸ (Jk.refl wr).alloc _
      have d0 : w3'.cell? ⟨wr.heap.size, 0, none⟩ = some (.int .i64 x) := by rw [← hw3]; exact new_cells wr #[.int .i64 x, .int .i64 y] _ _ rfl 0 _ rfl
      have d1 : w3'.cell? ⟨wr.heap.size, 1, none⟩ = some (.int .i64 y) := by rw [← hw3]; exact new_cells wr #[.int .i64 x, .int .i64 y] _ _ rfl 1 _ rfl
      have dl : wr.heap.size < w3'.heap.size := by rw [← hw3]; simp
      go_upto_region 10 with fail
      have HB3 := hid ((HW.out.trans HJw1.out).trans (HJ.out.trans HJ3.out))
      have HJ3b := hid (HJ.out.trans HJ3.out)
      have HO3 := hid (HO.out.jk HJ3.out)
      clear c0 c1 hw3
      refine region_tail2 (.slice (some ⟨g, 0, none⟩) (N + 1 + j) c) 8 #[true, true, true, true, true, true, true, true, true, false, false, false] (by kernel_rfl) (by decide) (by kernel_rfl) (by kernel_rfl) (by kernel_rfl) (fun _ _ _ h => h) (by rfl) (fun _ => rfl) (by kernel_rfl) ?_
      dsimp only [List.take, List.drop]
      repeat (go_big_quiet_step (first | (go_at_call 17; exact AnsW.junk (by with_reducible first | exact HPx.out.at HB3.out | exact HPy.out.at HB3.out) _) | exact rfl))
      refine wpQuiet_nil ?_
      rintro _ ⟨Y, rfl⟩
      have HJY : Hid (Jk w3' (junk w3' Y)) := ⟨Y, rfl⟩
      generalize junk w3' Y = w5 at HJY ⊢
      have hsum := text_sum tX tY
      obtain ⟨tS, htS⟩ : ∃ z, tX ++ (46 :: 46 :: tY) = z := ⟨_, rfl⟩
      rw [htS] at hsum HNj
      have hs5 := HJY.out.below.size
      clear htS d0 d1
      go_upto_region 11 with (at_builtin; refine list_appS rfl _ _ rfl ((HO3.out.jk HJY.out).jk ((Jk.refl w5).alloc _)) (by rw [World.size_alloc]; omega) rfl w5.heap.size 0 1 1 [tS] rfl (by decide) rfl (fun i hi => (by simp at hi; subst hi; exact new_cells w5 #[tx tS] _ _ rfl 0 _ rfl)) (by omega) ?_)
      intro g6 c6 w6 hO6 hG6
      have HO6 : Hid (OwnS w1.heap.size w6 (.slice (some ⟨g6, 0, none⟩) (N + 1 + (j + 1)) c6) (N + 1 + (j + 1)) ((LW ++ [[105, 110]]) ++ rgx (j + 1))) := by
        have e : (LW ++ [[105, 110]]) ++ (rgx j ++ [tS]) = LW ++ [105, 110] :: (rgx j ++ [tS]) := by simp
        rw [← HNj.out, e]
        exact hO6
      have HG6 : Hid (Jk w1 w6) := ((HJ3b.out.trans HJY.out).alloc _).grown hG6 (fun k hk => by have := HO.out.base k hk; omega)
      clear hO6 hG6 hsum
      go_wp2
      go_roundg r
      case measure => omega
      case rel => exact ⟨j + 1, g6, c6, by go_num, by omega, rfl, HO6, HG6⟩

/-- what Print answers -/
theorem print_ans {wb : World} (hL : LibA wb) (q : Qy) (hq : q.ok) (d : Int) : AnsW wb 9 #[queryV q, .int .i64 d] (tx (printQ q d)) := by
  by_cases hd : d < 1 ∨ 4 < d
  · rw [printQ_no fun h => by have := h.d1; have := h.d4; omega]
    exact fun w _ => print_dim q d hd w
  · obtain ⟨k, rfl⟩ := Int.eq_ofNat_of_zero_le (show 0 ≤ d by omega)
    have h1 : 1 ≤ k := by omega
    have h4 : k ≤ 4 := by omega
    by_cases h : TellsQ q (k : Int)
    · rw [printQ_yes h]
      exact print_yes hL q hq k h
    · rw [printQ_no h]
      rw [tells_of h1 h4] at h
      by_cases ht : toldI q k = q
      · by_cases hb : smallN q.cl ∧ smallN q.f ∧ smallN q.bu
        · exact print_none hL q k h1 h4 ht hb (fun e => h ⟨ht, hb, .inl e⟩) (fun e => h ⟨ht, hb, .inr (.inl e)⟩) (fun e => h ⟨ht, hb, .inr (.inr e)⟩)
        · exact fun w _ => print_great q k h1 h4 ht hb w
      · exact fun w _ => print_other q k h1 h4 ht w
end Go.Proofs.YtjpffempmlfoeaaDoor
