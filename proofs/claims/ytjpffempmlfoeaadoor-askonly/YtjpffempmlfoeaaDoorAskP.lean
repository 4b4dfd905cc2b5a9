/- What Print of package ask answers: the text of a query that can be told, else none. Conditions: what package ask asks of the functions beyond it ('LibA'). -/
import Derived.Test.YtjpffempmlfoeaaDoorAskT2
import Derived.Test.YtjpffempmlfoeaaDoorAskK
import Derived.Test.YtjpffempmlfoeaaDoorSteps
namespace Go.Proofs.YtjpffempmlfoeaaDoor
open Go.RowKit M

theorem nil_is (w : World) : (binOp .eql 54 (.slice none 0 0) (.slice none 0 0)).run Tryd.prog w = .ok (.bool true) w := by kernel_rfl
theorem nil_not (a : Addr) (n c : Nat) (w : World) : (binOp .eql 54 (.slice (some a) n c) (.slice none 0 0)).run Tryd.prog w = .ok (.bool false) w := by kernel_rfl
theorem toldI_iff (q : Qy) (d : Nat) (h1 : 1 ≤ d) (h4 : d ≤ 4) : toldI q d = q ↔ restNil d q.rg ∧ (q.kd = 1 ∨ (q.lo = 0 ∧ q.hi = 0)) ∧ (q.kd = 3 ∨ (q.f = 0 ∧ q.fa = false)) := by
  obtain ⟨kd, cl, ⟨⟨ra, rb⟩, ⟨rc, rd⟩, ⟨re, rf⟩, ⟨rg, rh⟩, ⟨ri, rj⟩⟩, lo, hi, f, fa, bu⟩ := q
  have : d = 1 ∨ d = 2 ∨ d = 3 ∨ d = 4 := by omega
  have e : ∀ x : Int, (0 = x) = (x = 0) := fun x => propext eq_comm
  unfold toldI cutBx restNil Sp.isNil
  by_cases k1 : kd = 1
  · subst k1
    rcases this with rfl | rfl | rfl | rfl <;> simp [Sp.nil, e, and_assoc] <;> (intros; constructor <;> (intro h; simp_all))
  · by_cases k3 : kd = 3
    · subst k3
      rcases this with rfl | rfl | rfl | rfl <;> simp [Sp.nil, e, and_assoc] <;> (intros; constructor <;> (intro h; simp_all))
    · rcases this with rfl | rfl | rfl | rfl <;> simp [Sp.nil, k1, k3, e, and_assoc] <;> (intros; constructor <;> (intro h; simp_all))
theorem tells_of {q : Qy} {d : Nat} (h1 : 1 ≤ d) (h4 : d ≤ 4) : TellsQ q d ↔ toldI q d = q ∧ (smallN q.cl ∧ smallN q.f ∧ smallN q.bu) ∧ (q.kd = 1 ∨ q.kd = 2 ∨ q.kd = 3) := by
  rw [tells_iff, toldI_iff q d h1 h4]
  unfold kindZ
  constructor
  · rintro ⟨_, _, a, b, c, e, h⟩
    rcases h with ⟨k, x, y⟩ | ⟨k, x, y, z, u⟩ | ⟨k, x, y⟩
    · exact ⟨⟨e, .inl k, .inr ⟨x, y⟩⟩, ⟨a, b, c⟩, .inl k⟩
    · exact ⟨⟨e, .inr ⟨x, y⟩, .inr ⟨z, u⟩⟩, ⟨a, b, c⟩, .inr (.inl k)⟩
    · exact ⟨⟨e, .inr ⟨x, y⟩, .inl k⟩, ⟨a, b, c⟩, .inr (.inr k)⟩
  · rintro ⟨⟨e, h2, h3⟩, ⟨a, b, c⟩, hk⟩
    refine ⟨by omega, by omega, a, b, c, e, ?_⟩
    rcases hk with k | k | k
    · rcases h3 with h | h
      · omega
      · exact .inl ⟨k, h.1, h.2⟩
    · rcases h2 with h | h
      · omega
      · rcases h3 with h' | h'
        · omega
        · exact .inr (.inl ⟨k, h.1, h.2, h'.1, h'.2⟩)
    · rcases h2 with h | h
      · omega
      · exact .inr (.inr ⟨k, h.1, h.2⟩)

set_option maxRecDepth 100000 in
set_option maxHeartbeats 3200000 in
theorem print_dim (q : Qy) (d : Int) (hd : d < 1 ∨ 4 < d) : Ans 9 #[queryV q, .int .i64 d] (tx []) := fun w => by
  have J := rules8
  obtain ⟨kd, cl, ⟨⟨ra, rb⟩, ⟨rc, rd⟩, ⟨re, rf⟩, ⟨rg, rh⟩, ⟨ri, rj⟩⟩, lo, hi, f, fa, bu⟩ := q
  obtain ⟨w0, hw0⟩ : ∃ w0, w.alloc (.cells #[.int .i64 kd, .int .i64 cl, .int .i64 ra, .int .i64 rb, .int .i64 rc, .int .i64 rd, .int .i64 re, .int .i64 rf, .int .i64 rg, .int .i64 rh, .int .i64 ri, .int .i64 rj, .int .i64 lo, .int .i64 hi, .int .i64 f, .bool fa, .int .i64 bu] 27) = w0 := ⟨_, rfl⟩
  have HJ0 : Hid (Jk w w0) := hw0 ▸ (Jk.refl w).alloc _
  have HQ : Hid (QyB w0 w.heap.size ⟨kd, cl, ⟨⟨ra, rb⟩, ⟨rc, rd⟩, ⟨re, rf⟩, ⟨rg, rh⟩, ⟨ri, rj⟩⟩, lo, hi, f, fa, bu⟩) := by
    rw [← hw0]
    exact QyB.laid w ⟨kd, cl, ⟨⟨ra, rb⟩, ⟨rc, rd⟩, ⟨re, rf⟩, ⟨rg, rh⟩, ⟨ri, rj⟩⟩, lo, hi, f, fa, bu⟩
  by_cases h1 : d < 1
  · have e1 := decide_eq_true h1
    clear hd
    go_enter Tryd.func9, Tryd.ntmps9
    go_upto_region 1 with fail
    refine region_junk (by kernel_rfl) (by kernel_rfl) ?_
    repeat (go_big_quiet_step (exact rfl))
    refine wpQuiet_nil ?_
    rintro _ ⟨X, rfl⟩
    go_wp2
    go_ret
    exact ⟨rfl, HJ0.out.junk X⟩
  · have h4 : 4 < d := by omega
    have e1 := decide_eq_false h1
    have e4 := decide_eq_true h4
    clear hd
    go_enter Tryd.func9, Tryd.ntmps9
    go_upto_region 1 with fail
    refine region_junk (by kernel_rfl) (by kernel_rfl) ?_
    repeat (go_big_quiet_step (exact rfl))
    refine wpQuiet_nil ?_
    rintro _ ⟨X, rfl⟩
    go_wp2
    go_ret
    exact ⟨rfl, HJ0.out.junk X⟩

set_option maxRecDepth 100000 in
set_option maxHeartbeats 3200000 in
theorem print_other (q : Qy) (d : Nat) (h1 : 1 ≤ d) (h4 : d ≤ 4) (hn : ¬ toldI q d = q) : Ans 9 #[queryV q, .int .i64 (d : Int)] (tx []) := fun w => by
  have J := rules8
  have HT := hid (told_ans q d h1 h4)
  obtain ⟨t, ht⟩ : ∃ t, toldI q d = t := ⟨_, rfl⟩
  rw [ht] at HT hn
  have E := eq_qy (a := q) (b := t) (r := false) ⟨fun h => absurd h Bool.false_ne_true, fun h => absurd h.symm hn⟩
  clear ht hn
  obtain ⟨kd, cl, ⟨⟨ra, rb⟩, ⟨rc, rd⟩, ⟨re, rf⟩, ⟨rg, rh⟩, ⟨ri, rj⟩⟩, lo, hi, f, fa, bu⟩ := q
  obtain ⟨tkd, tcl, ⟨⟨ta, tb⟩, ⟨tc, td⟩, ⟨te, tf⟩, ⟨tg, th⟩, ⟨ti, tj⟩⟩, tlo, thi, tff, tfa, tbu⟩ := t
  simp only [queryV] at HT E
  obtain ⟨w0, hw0⟩ : ∃ w0, w.alloc (.cells #[.int .i64 kd, .int .i64 cl, .int .i64 ra, .int .i64 rb, .int .i64 rc, .int .i64 rd, .int .i64 re, .int .i64 rf, .int .i64 rg, .int .i64 rh, .int .i64 ri, .int .i64 rj, .int .i64 lo, .int .i64 hi, .int .i64 f, .bool fa, .int .i64 bu] 27) = w0 := ⟨_, rfl⟩
  have HJ0 : Hid (Jk w w0) := hw0 ▸ (Jk.refl w).alloc _
  have HQ : Hid (QyB w0 w.heap.size ⟨kd, cl, ⟨⟨ra, rb⟩, ⟨rc, rd⟩, ⟨re, rf⟩, ⟨rg, rh⟩, ⟨ri, rj⟩⟩, lo, hi, f, fa, bu⟩) := by
    rw [← hw0]
    exact QyB.laid w ⟨kd, cl, ⟨⟨ra, rb⟩, ⟨rc, rd⟩, ⟨re, rf⟩, ⟨rg, rh⟩, ⟨ri, rj⟩⟩, lo, hi, f, fa, bu⟩
  have e1 : decide ((d : Int) < 1) = false := decide_eq_false (by omega)
  have e4 : decide ((4 : Int) < (d : Int)) = false := decide_eq_false (by omega)
  go_enter Tryd.func9, Tryd.ntmps9
  go_upto_region 1 with fail
  refine region_junk (by kernel_rfl) (by kernel_rfl) ?_
  iterate 7 (go_big_quiet_step (exact rfl))
  refine quietw_loadQ (by rintro _ ⟨X, rfl⟩; exact HQ.out.jk ⟨X, rfl⟩) rfl _ rfl rfl ?_
  intro K hK
  simp only [Act.put, List.setIfInBounds_toArray, List.set_cons_succ, List.set_cons_zero]
  go_big_quiet_on
  refine quietw_loadQ (by rintro _ ⟨X, rfl⟩; exact HQ.out.jk ⟨X, rfl⟩) rfl _ rfl rfl ?_
  intro K hK
  simp only [Act.put, List.setIfInBounds_toArray, List.set_cons_succ, List.set_cons_zero]
  go_big_quiet_on
  repeat (go_big_quiet_step (first | (go_at_call 14; exact on_junk HT.out _) | exact rfl))
  refine wpQuiet_nil ?_
  rintro _ ⟨X, rfl⟩
  go_wp2
  go_ret
  exact ⟨rfl, HJ0.out.junk X⟩

set_option maxRecDepth 100000 in
set_option maxHeartbeats 3200000 in
theorem print_great (q : Qy) (d : Nat) (h1 : 1 ≤ d) (h4 : d ≤ 4) (hn : toldI q d = q) (hb : ¬ (smallN q.cl ∧ smallN q.f ∧ smallN q.bu)) : Ans 9 #[queryV q, .int .i64 (d : Int)] (tx []) := fun w => by
  have J := rules8
  have HT := hid (told_ans q d h1 h4)
  rw [hn] at HT
  have E := eq_qy (a := q) (b := q) (r := true) (iff_of_true rfl rfl)
  have HF := hid (fits_ans q (b := false) (iff_of_false Bool.false_ne_true hb))
  clear hn hb
  obtain ⟨kd, cl, ⟨⟨ra, rb⟩, ⟨rc, rd⟩, ⟨re, rf⟩, ⟨rg, rh⟩, ⟨ri, rj⟩⟩, lo, hi, f, fa, bu⟩ := q
  simp only [queryV] at HT E HF
  obtain ⟨w0, hw0⟩ : ∃ w0, w.alloc (.cells #[.int .i64 kd, .int .i64 cl, .int .i64 ra, .int .i64 rb, .int .i64 rc, .int .i64 rd, .int .i64 re, .int .i64 rf, .int .i64 rg, .int .i64 rh, .int .i64 ri, .int .i64 rj, .int .i64 lo, .int .i64 hi, .int .i64 f, .bool fa, .int .i64 bu] 27) = w0 := ⟨_, rfl⟩
  have HJ0 : Hid (Jk w w0) := hw0 ▸ (Jk.refl w).alloc _
  have HQ : Hid (QyB w0 w.heap.size ⟨kd, cl, ⟨⟨ra, rb⟩, ⟨rc, rd⟩, ⟨re, rf⟩, ⟨rg, rh⟩, ⟨ri, rj⟩⟩, lo, hi, f, fa, bu⟩) := by
    rw [← hw0]
    exact QyB.laid w ⟨kd, cl, ⟨⟨ra, rb⟩, ⟨rc, rd⟩, ⟨re, rf⟩, ⟨rg, rh⟩, ⟨ri, rj⟩⟩, lo, hi, f, fa, bu⟩
  have e1 : decide ((d : Int) < 1) = false := decide_eq_false (by omega)
  have e4 : decide ((4 : Int) < (d : Int)) = false := decide_eq_false (by omega)
  go_enter Tryd.func9, Tryd.ntmps9
  go_upto_region 1 with fail
  refine region_junk (by kernel_rfl) (by kernel_rfl) ?_
  iterate 7 (go_big_quiet_step (exact rfl))
  refine quietw_loadQ (by rintro _ ⟨X, rfl⟩; exact HQ.out.jk ⟨X, rfl⟩) rfl _ rfl rfl ?_
  intro K hK
  simp only [Act.put, List.setIfInBounds_toArray, List.set_cons_succ, List.set_cons_zero]
  go_big_quiet_on
  refine quietw_loadQ (by rintro _ ⟨X, rfl⟩; exact HQ.out.jk ⟨X, rfl⟩) rfl _ rfl rfl ?_
  intro K hK
  simp only [Act.put, List.setIfInBounds_toArray, List.set_cons_succ, List.set_cons_zero]
  go_big_quiet_on
  iterate 5 (go_big_quiet_step (first | (go_at_call 14; exact on_junk HT.out _) | exact rfl))
  refine quietw_loadQ (by rintro _ ⟨X, rfl⟩; exact HQ.out.jk ⟨X, rfl⟩) rfl _ rfl rfl ?_
  intro K hK
  simp only [Act.put, List.setIfInBounds_toArray, List.set_cons_succ, List.set_cons_zero]
  go_big_quiet_on
  repeat (go_big_quiet_step (first | (go_at_call 15; exact on_junk HF.out _) | exact rfl))
  refine wpQuiet_nil ?_
  rintro _ ⟨X, rfl⟩
  go_wp2
  go_ret
  exact ⟨rfl, HJ0.out.junk X⟩

set_option maxRecDepth 100000 in
set_option maxHeartbeats 3200000 in
theorem print_none {wb : World} (hL : LibA wb) (q : Qy) (d : Nat) (h1 : 1 ≤ d) (h4 : d ≤ 4) (hn : toldI q d = q) (hb : smallN q.cl ∧ smallN q.f ∧ smallN q.bu) (k1 : ¬ q.kd = 1) (k2 : ¬ q.kd = 2) (k3 : ¬ q.kd = 3) : AnsW wb 9 #[queryV q, .int .i64 (d : Int)] (tx []) := fun w hw => by
  have J := rules8
  have HT := hid (told_ans q d h1 h4)
  rw [hn] at HT
  have E := eq_qy (a := q) (b := q) (r := true) (iff_of_true rfl rfl)
  have HF := hid (fits_ans q (b := true) (iff_of_true rfl hb))
  have HK := hid ((kindW_no hL q k1 k2 k3 hb.1).at hw)
  clear hn hb k1 k2 k3 hL hw
  obtain ⟨kd, cl, ⟨⟨ra, rb⟩, ⟨rc, rd⟩, ⟨re, rf⟩, ⟨rg, rh⟩, ⟨ri, rj⟩⟩, lo, hi, f, fa, bu⟩ := q
  simp only [queryV] at HT E HF HK
  obtain ⟨w0, hw0⟩ : ∃ w0, w.alloc (.cells #[.int .i64 kd, .int .i64 cl, .int .i64 ra, .int .i64 rb, .int .i64 rc, .int .i64 rd, .int .i64 re, .int .i64 rf, .int .i64 rg, .int .i64 rh, .int .i64 ri, .int .i64 rj, .int .i64 lo, .int .i64 hi, .int .i64 f, .bool fa, .int .i64 bu] 27) = w0 := ⟨_, rfl⟩
  have HJ0 : Hid (Jk w w0) := hw0 ▸ (Jk.refl w).alloc _
  have HQ : Hid (QyB w0 w.heap.size ⟨kd, cl, ⟨⟨ra, rb⟩, ⟨rc, rd⟩, ⟨re, rf⟩, ⟨rg, rh⟩, ⟨ri, rj⟩⟩, lo, hi, f, fa, bu⟩) := by
    rw [← hw0]
    exact QyB.laid w ⟨kd, cl, ⟨⟨ra, rb⟩, ⟨rc, rd⟩, ⟨re, rf⟩, ⟨rg, rh⟩, ⟨ri, rj⟩⟩, lo, hi, f, fa, bu⟩
  have e1 : decide ((d : Int) < 1) = false := decide_eq_false (by omega)
  have e4 : decide ((4 : Int) < (d : Int)) = false := decide_eq_false (by omega)
  go_enter Tryd.func9, Tryd.ntmps9
  go_upto_region 1 with fail
  refine region_junk (by kernel_rfl) (by kernel_rfl) ?_
  iterate 7 (go_big_quiet_step (exact rfl))
  refine quietw_loadQ (by rintro _ ⟨X, rfl⟩; exact HQ.out.jk ⟨X, rfl⟩) rfl _ rfl rfl ?_
  intro K hK
  simp only [Act.put, List.setIfInBounds_toArray, List.set_cons_succ, List.set_cons_zero]
  go_big_quiet_on
  refine quietw_loadQ (by rintro _ ⟨X, rfl⟩; exact HQ.out.jk ⟨X, rfl⟩) rfl _ rfl rfl ?_
  intro K hK
  simp only [Act.put, List.setIfInBounds_toArray, List.set_cons_succ, List.set_cons_zero]
  go_big_quiet_on
  iterate 5 (go_big_quiet_step (first | (go_at_call 14; exact on_junk HT.out _) | exact rfl))
  refine quietw_loadQ (by rintro _ ⟨X, rfl⟩; exact HQ.out.jk ⟨X, rfl⟩) rfl _ rfl rfl ?_
  intro K hK
  simp only [Act.put, List.setIfInBounds_toArray, List.set_cons_succ, List.set_cons_zero]
  go_big_quiet_on
  repeat (go_big_quiet_step (first | (go_at_call 15; exact on_junk HF.out _) | exact rfl))
  refine wpQuiet_nil ?_
  rintro _ ⟨X, rfl⟩
  have HJ1 : Hid (Jk w0 (junk w0 X)) := ⟨X, rfl⟩
  generalize junk w0 X = w1 at HJ1 ⊢
  have hnil := nil_is
  go_upto_region 3 with fail
  refine wp_region_lit ?_
  refine list_loadQ rfl _ rfl (HQ.out.jk HJ1.out) rfl ?_
  go_wp2_with (go_at_call 16; refine (HK.out _ (HJ0.out.trans HJ1.out)).mono ?_; rintro e w2 ⟨rfl, hj2⟩; have HJ2 := hid hj2; clear hj2)
  go_ret
  exact ⟨rfl, (HJ0.out.trans HJ1.out).trans HJ2.out⟩
end Go.Proofs.YtjpffempmlfoeaaDoor
