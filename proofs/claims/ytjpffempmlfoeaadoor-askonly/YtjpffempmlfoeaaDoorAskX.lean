/- What Parse of package ask answers of any text. Conditions: what package ask asks of the functions beyond it ('LibA'). -/
import Derived.Test.YtjpffempmlfoeaaDoorAskW
namespace Go.Proofs.YtjpffempmlfoeaaDoor
open Go.RowKit M

def parseF (l : Txt) : Qy × Int × Bool := if l = [] ∨ printQ (readQ l).1 (readQ l).2 ≠ l then (Qy.nil, 0, false) else ((readQ l).1, (readQ l).2, true)
theorem parseF_is (l : Txt) : ParseQ l (parseF l).1 (parseF l).2.1 (parseF l).2.2 := by
  unfold parseF
  split
  · rename_i h
    exact parseQ_no h
  · rename_i h
    simp only [not_or, Classical.not_not, ne_eq] at h
    exact parseQ_yes h.1 h.2
theorem nil_okQ : Qy.nil.ok := ⟨fitI_of i64_0, fitI_of i64_0, nil_ok, fitI_of i64_0, fitI_of i64_0, fitI_of i64_0, fitI_of i64_0⟩
theorem parseF_ok (l : Txt) : (parseF l).1.ok := by
  unfold parseF
  split
  · exact nil_okQ
  · exact (read_ok l).1

set_option maxRecDepth 100000 in
set_option maxHeartbeats 3200000 in
theorem parse_empty {wb : World} (hL : LibA wb) : AnsW wb 8 #[tx []] (.tuple #[queryV Qy.nil, .int .i64 0, .bool false]) := fun w hw => by
  obtain ⟨l, hle⟩ : ∃ l : Txt, ([] : Txt) = l := ⟨_, rfl⟩
  rw [hle]
  have hl : l.length ≤ 2000000 := by rw [← hle]; decide
  have hd0 : (l == []) = true := by rw [← hle]; rfl
  have J := rules8
  obtain ⟨w0, hw0⟩ : ∃ w0, w.alloc (.cells #[.int .i64 0, .int .i64 0, .int .i64 0, .int .i64 0, .int .i64 0, .int .i64 0, .int .i64 0, .int .i64 0, .int .i64 0, .int .i64 0, .int .i64 0, .int .i64 0, .int .i64 0, .int .i64 0, .int .i64 0, .bool false, .int .i64 0] 27) = w0 := ⟨_, rfl⟩
  have HJ0 : Hid (Jk w w0) := hw0 ▸ (Jk.refl w).alloc _
  have HZ0 : Hid (QyB w0 w.heap.size Qy.nil) := by
    rw [← hw0]
    exact QyB.laid w Qy.nil
  have hok := read_ok l
  have HR := hid ((read_ans hL l hl).at hw)
  obtain ⟨⟨q, d⟩, hqd⟩ : ∃ z, readQ l = z := ⟨_, rfl⟩
  rw [hqd] at HR hok
  simp only at HR hok
  clear hw hL hqd hok hle hl
  obtain ⟨kd, cl, ⟨⟨ra, rb⟩, ⟨rc, rd⟩, ⟨re, rf⟩, ⟨rg, rh⟩, ⟨ri, rj⟩⟩, lo, hi, f, fa, bu⟩ := q
  simp only [queryV] at HR
  go_enter Tryd.func8, Tryd.ntmps8
  go_upto_region 2 with (go_at_call 13; refine (HR.out _ HJ0.out).mono ?_; rintro e w1 ⟨rfl, hj1⟩; have HJ1 := hid hj1; clear hj1)
  have HQ2 : Hid (QyB (w1.alloc (.cells #[.int .i64 kd, .int .i64 cl, .int .i64 ra, .int .i64 rb, .int .i64 rc, .int .i64 rd, .int .i64 re, .int .i64 rf, .int .i64 rg, .int .i64 rh, .int .i64 ri, .int .i64 rj, .int .i64 lo, .int .i64 hi, .int .i64 f, .bool fa, .int .i64 bu] 27)) w1.heap.size ⟨kd, cl, ⟨⟨ra, rb⟩, ⟨rc, rd⟩, ⟨re, rf⟩, ⟨rg, rh⟩, ⟨ri, rj⟩⟩, lo, hi, f, fa, bu⟩) := QyB.laid w1 ⟨kd, cl, ⟨⟨ra, rb⟩, ⟨rc, rd⟩, ⟨re, rf⟩, ⟨rg, rh⟩, ⟨ri, rj⟩⟩, lo, hi, f, fa, bu⟩
  have HJ2 : Hid (Jk w0 (w1.alloc (.cells #[.int .i64 kd, .int .i64 cl, .int .i64 ra, .int .i64 rb, .int .i64 rc, .int .i64 rd, .int .i64 re, .int .i64 rf, .int .i64 rg, .int .i64 rh, .int .i64 ri, .int .i64 rj, .int .i64 lo, .int .i64 hi, .int .i64 f, .bool fa, .int .i64 bu] 27))) := HJ1.out.alloc _
  generalize w1.alloc (.cells #[.int .i64 kd, .int .i64 cl, .int .i64 ra, .int .i64 rb, .int .i64 rc, .int .i64 rd, .int .i64 re, .int .i64 rf, .int .i64 rg, .int .i64 rh, .int .i64 ri, .int .i64 rj, .int .i64 lo, .int .i64 hi, .int .i64 f, .bool fa, .int .i64 bu] 27) = w2 at HQ2 HJ2 ⊢
  have HZ3 := hid (HZ0.out.jk HJ2.out)
  have HJ3 := hid (HJ0.out.trans HJ2.out)
  clear HQ2
  go_upto_region 3 with fail
  refine wp_region_lit ?_
  refine wpList_one rfl fun K hK => ?_
  go_simp
  refine hK _ _ ?_
  clear hK K
  refine list_storeQ rfl _ _ rfl HZ3.out rfl ⟨0, 0, Bx.nil, 0, 0, 0, false, 0⟩ rfl fun w9 hq9 hg9 => ?_
  have HE := hid hq9
  have HJE := hid (HJ3.out.grown hg9 (fun k hk => by cases hk; exact Nat.le_refl _))
  clear hq9 hg9
  go_wp2
  exact bodyPost_ret (results_cell3 Tryd.results8 rfl rfl rfl (load_Q HE.out)) rfl ⟨rfl, HJE.out⟩

set_option maxRecDepth 100000 in
set_option maxHeartbeats 3200000 in
theorem parse_other {wb : World} (hL : LibA wb) (l : Txt) (hl : l.length ≤ 2000000) (hn : ¬ l = []) (hp : ¬ printQ (readQ l).1 (readQ l).2 = l) : AnsW wb 8 #[tx l] (.tuple #[queryV Qy.nil, .int .i64 0, .bool false]) := fun w hw => by
  have hd0 : (l == []) = false := beq_false_of_ne hn
  have J := rules8
  obtain ⟨w0, hw0⟩ : ∃ w0, w.alloc (.cells #[.int .i64 0, .int .i64 0, .int .i64 0, .int .i64 0, .int .i64 0, .int .i64 0, .int .i64 0, .int .i64 0, .int .i64 0, .int .i64 0, .int .i64 0, .int .i64 0, .int .i64 0, .int .i64 0, .int .i64 0, .bool false, .int .i64 0] 27) = w0 := ⟨_, rfl⟩
  have HJ0 : Hid (Jk w w0) := hw0 ▸ (Jk.refl w).alloc _
  have HZ0 : Hid (QyB w0 w.heap.size Qy.nil) := by
    rw [← hw0]
    exact QyB.laid w Qy.nil
  have hok := read_ok l
  have HR := hid ((read_ans hL l hl).at hw)
  obtain ⟨⟨q, d⟩, hqd⟩ : ∃ z, readQ l = z := ⟨_, rfl⟩
  rw [hqd] at HR hok hp
  simp only at HR hok hp
  have HP := hid ((print_ans hL q hok.1 (d : Int)).at hw)
  obtain ⟨S, hS⟩ : ∃ z, printQ q (d : Int) = z := ⟨_, rfl⟩
  rw [hS] at HP hp
  have hd1 : (S == l) = false := beq_false_of_ne hp
  have hd2 : (S != l) = true := by simp [hp]
  clear hw hL hqd hok hS hl hn hp
  obtain ⟨kd, cl, ⟨⟨ra, rb⟩, ⟨rc, rd⟩, ⟨re, rf⟩, ⟨rg, rh⟩, ⟨ri, rj⟩⟩, lo, hi, f, fa, bu⟩ := q
  simp only [queryV] at HR HP
  go_enter Tryd.func8, Tryd.ntmps8
  go_upto_region 2 with (go_at_call 13; refine (HR.out _ HJ0.out).mono ?_; rintro e w1 ⟨rfl, hj1⟩; have HJ1 := hid hj1; clear hj1)
  have HQ2 : Hid (QyB (w1.alloc (.cells #[.int .i64 kd, .int .i64 cl, .int .i64 ra, .int .i64 rb, .int .i64 rc, .int .i64 rd, .int .i64 re, .int .i64 rf, .int .i64 rg, .int .i64 rh, .int .i64 ri, .int .i64 rj, .int .i64 lo, .int .i64 hi, .int .i64 f, .bool fa, .int .i64 bu] 27)) w1.heap.size ⟨kd, cl, ⟨⟨ra, rb⟩, ⟨rc, rd⟩, ⟨re, rf⟩, ⟨rg, rh⟩, ⟨ri, rj⟩⟩, lo, hi, f, fa, bu⟩) := QyB.laid w1 ⟨kd, cl, ⟨⟨ra, rb⟩, ⟨rc, rd⟩, ⟨re, rf⟩, ⟨rg, rh⟩, ⟨ri, rj⟩⟩, lo, hi, f, fa, bu⟩
  have HJ2 : Hid (Jk w0 (w1.alloc (.cells #[.int .i64 kd, .int .i64 cl, .int .i64 ra, .int .i64 rb, .int .i64 rc, .int .i64 rd, .int .i64 re, .int .i64 rf, .int .i64 rg, .int .i64 rh, .int .i64 ri, .int .i64 rj, .int .i64 lo, .int .i64 hi, .int .i64 f, .bool fa, .int .i64 bu] 27))) := HJ1.out.alloc _
  generalize w1.alloc (.cells #[.int .i64 kd, .int .i64 cl, .int .i64 ra, .int .i64 rb, .int .i64 rc, .int .i64 rd, .int .i64 re, .int .i64 rf, .int .i64 rg, .int .i64 rh, .int .i64 ri, .int .i64 rj, .int .i64 lo, .int .i64 hi, .int .i64 f, .bool fa, .int .i64 bu] 27) = w2 at HQ2 HJ2 ⊢
  refine wp_region_lit ?_
  refine wpList_one rfl fun K hK => ?_
  go_simp
  refine hK _ _ ?_
  clear hK K
  refine wpList_one rfl fun K hK => ?_
  go_simp
  refine hK _ _ ?_
  clear hK K
  refine wpList_one rfl fun K hK => ?_
  go_simp
  refine hK _ _ ?_
  clear hK K
  refine listw_loadQ rfl _ rfl HQ2.out rfl ?_
  go_upto_region 3 with (go_at_call 9; refine (HP.out _ (HJ0.out.trans HJ2.out)).mono ?_; rintro e w3 ⟨rfl, hj3⟩; have HZ3 := hid ((HZ0.out.jk HJ2.out).jk hj3); have HJ3 := hid ((HJ0.out.trans HJ2.out).trans hj3); clear hj3)
  clear HQ2
  go_upto_region 3 with fail
  refine wp_region_lit ?_
  refine wpList_one rfl fun K hK => ?_
  go_simp
  refine hK _ _ ?_
  clear hK K
  refine list_storeQ rfl _ _ rfl HZ3.out rfl ⟨0, 0, Bx.nil, 0, 0, 0, false, 0⟩ rfl fun w9 hq9 hg9 => ?_
  have HE := hid hq9
  have HJE := hid (HJ3.out.grown hg9 (fun k hk => by cases hk; exact Nat.le_refl _))
  clear hq9 hg9
  go_wp2
  exact bodyPost_ret (results_cell3 Tryd.results8 rfl rfl rfl (load_Q HE.out)) rfl ⟨rfl, HJE.out⟩

set_option maxRecDepth 100000 in
set_option maxHeartbeats 3200000 in
theorem parse_yes {wb : World} (hL : LibA wb) (l : Txt) (hl : l.length ≤ 2000000) (hn : ¬ l = []) (hp : printQ (readQ l).1 (readQ l).2 = l) : AnsW wb 8 #[tx l] (.tuple #[queryV (readQ l).1, .int .i64 ((readQ l).2 : Int), .bool true]) := fun w hw => by
  have hd0 : (l == []) = false := beq_false_of_ne hn
  have J := rules8
  obtain ⟨w0, hw0⟩ : ∃ w0, w.alloc (.cells #[.int .i64 0, .int .i64 0, .int .i64 0, .int .i64 0, .int .i64 0, .int .i64 0, .int .i64 0, .int .i64 0, .int .i64 0, .int .i64 0, .int .i64 0, .int .i64 0, .int .i64 0, .int .i64 0, .int .i64 0, .bool false, .int .i64 0] 27) = w0 := ⟨_, rfl⟩
  have HJ0 : Hid (Jk w w0) := hw0 ▸ (Jk.refl w).alloc _
  have HZ0 : Hid (QyB w0 w.heap.size Qy.nil) := by
    rw [← hw0]
    exact QyB.laid w Qy.nil
  have hok := read_ok l
  have HR := hid ((read_ans hL l hl).at hw)
  obtain ⟨⟨q, d⟩, hqd⟩ : ∃ z, readQ l = z := ⟨_, rfl⟩
  rw [hqd] at HR hok hp ⊢
  simp only at HR hok hp ⊢
  have HP := hid ((print_ans hL q hok.1 (d : Int)).at hw)
  rw [hp] at HP
  have hd1 : (l == l) = true := by simp
  have hd2 : (l != l) = false := by simp
  clear hw hL hqd hok hl hn hp
  obtain ⟨kd, cl, ⟨⟨ra, rb⟩, ⟨rc, rd⟩, ⟨re, rf⟩, ⟨rg, rh⟩, ⟨ri, rj⟩⟩, lo, hi, f, fa, bu⟩ := q
  simp only [queryV] at HR HP
  go_enter Tryd.func8, Tryd.ntmps8
  go_upto_region 2 with (go_at_call 13; refine (HR.out _ HJ0.out).mono ?_; rintro e w1 ⟨rfl, hj1⟩; have HJ1 := hid hj1; clear hj1)
  have HQ2 : Hid (QyB (w1.alloc (.cells #[.int .i64 kd, .int .i64 cl, .int .i64 ra, .int .i64 rb, .int .i64 rc, .int .i64 rd, .int .i64 re, .int .i64 rf, .int .i64 rg, .int .i64 rh, .int .i64 ri, .int .i64 rj, .int .i64 lo, .int .i64 hi, .int .i64 f, .bool fa, .int .i64 bu] 27)) w1.heap.size ⟨kd, cl, ⟨⟨ra, rb⟩, ⟨rc, rd⟩, ⟨re, rf⟩, ⟨rg, rh⟩, ⟨ri, rj⟩⟩, lo, hi, f, fa, bu⟩) := QyB.laid w1 ⟨kd, cl, ⟨⟨ra, rb⟩, ⟨rc, rd⟩, ⟨re, rf⟩, ⟨rg, rh⟩, ⟨ri, rj⟩⟩, lo, hi, f, fa, bu⟩
  have HJ2 : Hid (Jk w0 (w1.alloc (.cells #[.int .i64 kd, .int .i64 cl, .int .i64 ra, .int .i64 rb, .int .i64 rc, .int .i64 rd, .int .i64 re, .int .i64 rf, .int .i64 rg, .int .i64 rh, .int .i64 ri, .int .i64 rj, .int .i64 lo, .int .i64 hi, .int .i64 f, .bool fa, .int .i64 bu] 27))) := HJ1.out.alloc _
  generalize w1.alloc (.cells #[.int .i64 kd, .int .i64 cl, .int .i64 ra, .int .i64 rb, .int .i64 rc, .int .i64 rd, .int .i64 re, .int .i64 rf, .int .i64 rg, .int .i64 rh, .int .i64 ri, .int .i64 rj, .int .i64 lo, .int .i64 hi, .int .i64 f, .bool fa, .int .i64 bu] 27) = w2 at HQ2 HJ2 ⊢
  refine wp_region_lit ?_
  refine wpList_one rfl fun K hK => ?_
  go_simp
  refine hK _ _ ?_
  clear hK K
  refine wpList_one rfl fun K hK => ?_
  go_simp
  refine hK _ _ ?_
  clear hK K
  refine wpList_one rfl fun K hK => ?_
  go_simp
  refine hK _ _ ?_
  clear hK K
  refine listw_loadQ rfl _ rfl HQ2.out rfl ?_
  go_upto_region 4 with (go_at_call 9; refine (HP.out _ (HJ0.out.trans HJ2.out)).mono ?_; rintro e w3 ⟨rfl, hj3⟩; have HZ3 := hid ((HZ0.out.jk HJ2.out).jk hj3); have HJ3 := hid ((HJ0.out.trans HJ2.out).trans hj3); have HQ3 := hid (HQ2.out.jk hj3); clear hj3)
  refine wp_region_lit ?_
  refine list_loadQ rfl _ rfl HQ3.out rfl ?_
  refine wpList_one rfl fun K hK => ?_
  go_simp
  refine hK _ _ ?_
  clear hK K
  refine list_storeQ rfl _ _ rfl HZ3.out rfl ⟨kd, cl, ⟨⟨ra, rb⟩, ⟨rc, rd⟩, ⟨re, rf⟩, ⟨rg, rh⟩, ⟨ri, rj⟩⟩, lo, hi, f, fa, bu⟩ rfl fun w9 hq9 hg9 => ?_
  have HE := hid hq9
  have HJE := hid (HJ3.out.grown hg9 (fun k hk => by cases hk; exact Nat.le_refl _))
  clear hq9 hg9
  go_wp2
  exact bodyPost_ret (results_cell3 Tryd.results8 rfl rfl rfl (load_Q HE.out)) rfl ⟨rfl, HJE.out⟩

/-- what Parse answers -/
theorem parse_ans {wb : World} (hL : LibA wb) (l : Txt) (hl : l.length ≤ 2000000) : AnsW wb 8 #[tx l] (.tuple #[queryV (parseF l).1, .int .i64 (parseF l).2.1, .bool (parseF l).2.2]) := by
  by_cases h0 : l = []
  · subst h0
    exact parse_empty hL
  · by_cases h1 : printQ (readQ l).1 (readQ l).2 = l
    · have e : parseF l = ((readQ l).1, ((readQ l).2 : Int), true) := by
        unfold parseF
        rw [if_neg (fun h => h.elim h0 fun h => h h1)]
      rw [e]
      exact parse_yes hL l hl h0 h1
    · have e : parseF l = (Qy.nil, 0, false) := by
        unfold parseF
        rw [if_pos (.inr h1)]
      rw [e]
      exact parse_other hL l hl h0 h1
end Go.Proofs.YtjpffempmlfoeaaDoor
