/- The law AskRaw of chapter 11 answers true: its walk through the Go text, by the contracts of package ask. Conditions: what the statement itself says of the library's variables ('Env'). -/
import Derived.Test.YtjpffempmlfoeaaDoorRunsA
namespace Go.Proofs.YtjpffempmlfoeaaDoor
open Go.RowKit M

theorem parse_nil' : parseF [] = (Qy.nil, 0, false) := by
  unfold parseF
  rw [if_pos (.inl rfl)]
theorem ixAt (x : Bx) {j : Nat} (hj : j < 5) (w : World) : (Instr.index 25 (boxV x) (.int .i64 (j : Int))).run Tryd.prog w = .ok (spV (x.at (j : Int))) w := by
  match j, hj with
  | 0, _ => exact ix0 x w
  | 1, _ => exact ix1 x w
  | 2, _ => exact ix2 x w
  | 3, _ => exact ix3 x w
  | 4, _ => exact ix4 x w
  | j + 5, h => omega
def rightN (q : Qy) (d : Int) : Prop := 1 ≤ d ∧ d ≤ 4 ∧ 1 ≤ q.kd ∧ q.kd ≤ 3 ∧ smallN q.cl ∧ smallN q.f ∧ smallN q.bu
theorem raw_tells {q : Qy} {d : Int} (h : rightN q d) (hk : kindZ q) (hs : ∀ k : Nat, k < 5 → (k : Int) < d ∨ q.rg.at (k : Int) = Sp.nil) : TellsQ q d := by
  obtain ⟨h1, h2, h3, h4, h5, h6, h7⟩ := h
  have e : ∀ {s : Sp}, s = Sp.nil → Sp.isNil s := fun h => by subst h; exact ⟨rfl, rfl⟩
  refine ⟨h1, h2, h5, h6, h7, ⟨fun h => e ?_, fun h => e ?_, fun h => e ?_, e ?_⟩, hk⟩
  · rcases hs 1 (by omega) with h' | h'
    · omega
    · exact h'
  · rcases hs 2 (by omega) with h' | h'
    · omega
    · exact h'
  · rcases hs 3 (by omega) with h' | h'
    · omega
    · exact h'
  · rcases hs 4 (by omega) with h' | h'
    · omega
    · exact h'

set_option maxRecDepth 100000 in
set_option maxHeartbeats 6400000 in
theorem raw_yes {wb : World} (hL : LibA wb) (q : Qy) (hq : q.ok) (d : Int) (hT : TellsQ q d) : AnsW wb 6 #[queryV q, .int .i64 d] (.bool true) := fun w hw => by
  have J := rules8
  have HP := hid ((print_ans hL q hq d).at hw)
  have HR := hid ((runsA_ans hL).at hw)
  have hln : (printQ q d).length ≤ 2000000 := by
    rw [printQ_yes hT]
    obtain ⟨k, rfl⟩ := Int.eq_ofNat_of_zero_le (show 0 ≤ d by have := hT.d1; omega)
    have := ask_len hT hq
    simp only [Int.toNat_natCast]
    omega
  have HX := hid ((parse_ans hL (printQ q d) hln).at hw)
  rw [parse_print hT hq] at HX
  have hn : printQ q d ≠ [] := printQ_ne.2 hT
  obtain ⟨S, hS⟩ : ∃ z, printQ q d = z := ⟨_, rfl⟩
  rw [hS] at HP HX hn
  have hd0 : (S == []) = false := beq_false_of_ne hn
  have E := eq_qy (a := q) (b := q) (r := true) (iff_of_true rfl rfl)
  clear hS hn hln hT hL hw hq
  obtain ⟨kd, cl, ⟨⟨ra, rb⟩, ⟨rc, rd⟩, ⟨re, rf⟩, ⟨rg, rh⟩, ⟨ri, rj⟩⟩, lo, hi, f, fa, bu⟩ := q
  simp only [queryV] at HP HX E
  obtain ⟨w0, hw0⟩ : ∃ w0, w.alloc (.cells #[.int .i64 kd, .int .i64 cl, .int .i64 ra, .int .i64 rb, .int .i64 rc, .int .i64 rd, .int .i64 re, .int .i64 rf, .int .i64 rg, .int .i64 rh, .int .i64 ri, .int .i64 rj, .int .i64 lo, .int .i64 hi, .int .i64 f, .bool fa, .int .i64 bu] 27) = w0 := ⟨_, rfl⟩
  have HJ0 : Hid (Jk w w0) := hw0 ▸ (Jk.refl w).alloc _
  have HQ0 : Hid (QyB w0 w.heap.size ⟨kd, cl, ⟨⟨ra, rb⟩, ⟨rc, rd⟩, ⟨re, rf⟩, ⟨rg, rh⟩, ⟨ri, rj⟩⟩, lo, hi, f, fa, bu⟩) := by
    rw [← hw0]
    exact QyB.laid w ⟨kd, cl, ⟨⟨ra, rb⟩, ⟨rc, rd⟩, ⟨re, rf⟩, ⟨rg, rh⟩, ⟨ri, rj⟩⟩, lo, hi, f, fa, bu⟩
  go_enter Tryd.func6, Tryd.ntmps6
  go_upto_region 1 with fail
  refine wp_region_lit ?_
  refine list_loadQ rfl _ rfl HQ0.out rfl ?_
  go_upto_region 2 with (go_at_call 9; refine (HP.out _ HJ0.out).mono ?_; rintro e w1 ⟨rfl, hj1⟩; have HJ1 := hid hj1; clear hj1)
  go_upto_region 3 with (go_at_call 8; refine (HX.out _ (HJ0.out.trans HJ1.out)).mono ?_; rintro e w2 ⟨rfl, hj2⟩; have HJ2 := hid hj2; clear hj2)
  have HX3 : Hid (QyB (w2.alloc (.cells #[.int .i64 kd, .int .i64 cl, .int .i64 ra, .int .i64 rb, .int .i64 rc, .int .i64 rd, .int .i64 re, .int .i64 rf, .int .i64 rg, .int .i64 rh, .int .i64 ri, .int .i64 rj, .int .i64 lo, .int .i64 hi, .int .i64 f, .bool fa, .int .i64 bu] 27)) w2.heap.size ⟨kd, cl, ⟨⟨ra, rb⟩, ⟨rc, rd⟩, ⟨re, rf⟩, ⟨rg, rh⟩, ⟨ri, rj⟩⟩, lo, hi, f, fa, bu⟩) := QyB.laid w2 ⟨kd, cl, ⟨⟨ra, rb⟩, ⟨rc, rd⟩, ⟨re, rf⟩, ⟨rg, rh⟩, ⟨ri, rj⟩⟩, lo, hi, f, fa, bu⟩
  have HJ3 : Hid (Jk w0 (w2.alloc (.cells #[.int .i64 kd, .int .i64 cl, .int .i64 ra, .int .i64 rb, .int .i64 rc, .int .i64 rd, .int .i64 re, .int .i64 rf, .int .i64 rg, .int .i64 rh, .int .i64 ri, .int .i64 rj, .int .i64 lo, .int .i64 hi, .int .i64 f, .bool fa, .int .i64 bu] 27))) := (HJ1.out.trans HJ2.out).alloc _
  generalize hw3 : w2.alloc (.cells #[.int .i64 kd, .int .i64 cl, .int .i64 ra, .int .i64 rb, .int .i64 rc, .int .i64 rd, .int .i64 re, .int .i64 rf, .int .i64 rg, .int .i64 rh, .int .i64 ri, .int .i64 rj, .int .i64 lo, .int .i64 hi, .int .i64 f, .bool fa, .int .i64 bu] 27) = w3 at HX3 HJ3 ⊢
  have HQ3 := hid (HQ0.out.jk HJ3.out)
  have HJc := hid (Jk.refl w3)
  have hdd : (d == d) = true := by simp
  clear hw3
  go_upto_region 12 with fail
  refine wp_region_lit ?_
  refine wpList_plain rfl fun K hK => ?_
  go_simp
  refine hK _ _ ?_
  clear hK K
  refine wpList_plain rfl fun K hK => ?_
  go_simp
  refine hK _ _ ?_
  clear hK K
  refine listw_loadQ rfl _ rfl (HX3.out.jk HJc.out) rfl ?_
  simp only [Act.put, List.setIfInBounds_toArray, List.set_cons_succ, List.set_cons_zero]
  refine listw_loadQ rfl _ rfl (HQ3.out.jk HJc.out) rfl ?_
  simp only [Act.put, List.setIfInBounds_toArray, List.set_cons_succ, List.set_cons_zero]
  refine wpList_one rfl fun K hK => ?_
  go_simp
  refine hK _ _ ?_
  clear hK K
  refine wpList_plain rfl fun K hK => ?_
  go_simp
  refine hK _ _ ?_
  clear hK K
  refine wpList_plain rfl fun K hK => ?_
  go_simp
  refine hK _ _ ?_
  clear hK K
  refine wpList_one rfl fun K hK => ?_
  go_simp
  refine hK _ _ ?_
  clear hK K
  refine wpList_one rfl fun K hK => ?_
  go_simp
  refine hK _ _ ?_
  clear hK K
  refine wpList_one rfl fun K hK => ?_
  go_simp
  refine hK _ _ ?_
  clear hK K
  refine wpList_plain rfl fun K hK => ?_
  go_simp
  refine hK _ _ ?_
  clear hK K
  refine wpList_plain rfl fun K hK => ?_
  go_simp
  refine hK _ _ ?_
  clear hK K
  refine wpList_one rfl fun K hK => ?_
  go_simp
  go_at_call 3
  refine (HR.out _ ((HJ0.out.trans HJ3.out).trans HJc.out)).mono ?_
  rintro e z0 ⟨rfl, hj⟩
  have HJn := hid (HJc.out.trans hj)
  clear hj HJc
  have HJc := HJn
  clear HJn
  go_simp
  refine hK _ _ ?_
  clear hK K
  refine wpList_plain rfl fun K hK => ?_
  go_simp
  refine hK _ _ ?_
  clear hK K
  refine wpList_plain rfl fun K hK => ?_
  go_simp
  refine hK _ _ ?_
  clear hK K
  refine wpList_nil ?_
  go_wp2
  go_ret
  exact ⟨rfl, (HJ0.out.trans HJ3.out).trans HJc.out⟩

set_option maxRecDepth 100000 in
set_option maxHeartbeats 12800000 in
theorem raw_no {wb : World} (hL : LibA wb) (q : Qy) (hq : q.ok) (d : Int) (hT : ¬ TellsQ q d) : AnsW wb 6 #[queryV q, .int .i64 d] (.bool true) := fun w hw => by
  have J := rules8
  have HP := hid ((print_ans hL q hq d).at hw)
  have HR := hid ((runsA_ans hL).at hw)
  rw [printQ_no hT] at HP
  have HX := hid ((parse_ans hL [] (by decide)).at hw)
  rw [parse_nil'] at HX
  obtain ⟨S, hS⟩ : ∃ z : Txt, [] = z := ⟨_, rfl⟩
  rw [hS] at HP HX
  have hd0 : (S == []) = true := by rw [← hS]; rfl
  have HT := hid (fun (h1 : rightN q d) (h2 : kindZ q) h3 => hT (raw_tells h1 h2 h3))
  clear hS hT hL hw hq
  obtain ⟨kd, cl, ⟨⟨ra, rb⟩, ⟨rc, rd⟩, ⟨re, rf⟩, ⟨rg, rh⟩, ⟨ri, rj⟩⟩, lo, hi, f, fa, bu⟩ := q
  simp only [queryV, Qy.nil, Bx.nil, Sp.nil] at HP HX
  obtain ⟨w0, hw0⟩ : ∃ w0, w.alloc (.cells #[.int .i64 kd, .int .i64 cl, .int .i64 ra, .int .i64 rb, .int .i64 rc, .int .i64 rd, .int .i64 re, .int .i64 rf, .int .i64 rg, .int .i64 rh, .int .i64 ri, .int .i64 rj, .int .i64 lo, .int .i64 hi, .int .i64 f, .bool fa, .int .i64 bu] 27) = w0 := ⟨_, rfl⟩
  have HJ0 : Hid (Jk w w0) := hw0 ▸ (Jk.refl w).alloc _
  have HQ0 : Hid (QyB w0 w.heap.size ⟨kd, cl, ⟨⟨ra, rb⟩, ⟨rc, rd⟩, ⟨re, rf⟩, ⟨rg, rh⟩, ⟨ri, rj⟩⟩, lo, hi, f, fa, bu⟩) := by
    rw [← hw0]
    exact QyB.laid w ⟨kd, cl, ⟨⟨ra, rb⟩, ⟨rc, rd⟩, ⟨re, rf⟩, ⟨rg, rh⟩, ⟨ri, rj⟩⟩, lo, hi, f, fa, bu⟩
  obtain ⟨q0, q1, q2, q3, q4, q5, q6, q7, q8, q9, q10, q11, q12, q13, q14, q15, q16⟩ := HQ0.out.in
  have ql := HQ0.out.lt
  simp only at q0 q1 q2 q3 q4 q5 q6 q7 q8 q9 q10 q11 q12 q13 q14 q15 q16
  go_enter Tryd.func6, Tryd.ntmps6
  go_upto_region 1 with fail
  refine wp_region_lit ?_
  refine list_loadQ rfl _ rfl HQ0.out rfl ?_
  go_upto_region 2 with (go_at_call 9; refine (HP.out _ HJ0.out).mono ?_; rintro e w1 ⟨rfl, hj1⟩; have HJ1 := hid hj1; clear hj1)
  go_upto_region 3 with (go_at_call 8; refine (HX.out _ (HJ0.out.trans HJ1.out)).mono ?_; rintro e w2 ⟨rfl, hj2⟩; have HJ2 := hid hj2; clear hj2)
  have HJ3 : Hid (Jk w0 (w2.alloc (.cells #[.int .i64 0, .int .i64 0, .int .i64 0, .int .i64 0, .int .i64 0, .int .i64 0, .int .i64 0, .int .i64 0, .int .i64 0, .int .i64 0, .int .i64 0, .int .i64 0, .int .i64 0, .int .i64 0, .int .i64 0, .bool false, .int .i64 0] 27))) := (HJ1.out.trans HJ2.out).alloc _
  generalize hw3 : w2.alloc (.cells #[.int .i64 0, .int .i64 0, .int .i64 0, .int .i64 0, .int .i64 0, .int .i64 0, .int .i64 0, .int .i64 0, .int .i64 0, .int .i64 0, .int .i64 0, .int .i64 0, .int .i64 0, .int .i64 0, .int .i64 0, .bool false, .int .i64 0] 27) = w3 at HJ3 ⊢
  clear hw3 q0 q1 q2 q3 q4 q5 q6 q7 q8 q9 q10 q11 q12 q13 q14 q15 q16 ql
  have HQ3 := hid (HQ0.out.jk HJ3.out)
  obtain ⟨q0, q1, q2, q3, q4, q5, q6, q7, q8, q9, q10, q11, q12, q13, q14, q15, q16⟩ := HQ3.out.in
  have ql := HQ3.out.lt
  simp only at q0 q1 q2 q3 q4 q5 q6 q7 q8 q9 q10 q11 q12 q13 q14 q15 q16
  clear q2 q3 q4 q5 q6 q7 q8 q9 q10 q11
  go_upto_region 4 with fail
  -- are the numbers right
  go_cut [9] (fun v wc => ∃ r : Bool, v = .bool r ∧ Hid (r = true → 1 ≤ d ∧ d ≤ 4 ∧ 1 ≤ kd ∧ kd ≤ 3 ∧ smallN cl ∧ smallN f ∧ smallN bu) ∧ Hid (w3 = wc))
  case first =>
    as_aux_lemma =>
    by_cases h0 : 1 ≤ d
    · have d0 := decide_eq_true h0
      by_cases h1 : d ≤ 4
      · have d1 := decide_eq_true h1
        by_cases h2 : 1 ≤ kd
        · have d2 := decide_eq_true h2
          by_cases h3 : kd ≤ 3
          · have d3 := decide_eq_true h3
            by_cases h4 : 0 ≤ cl
            · have d4 := decide_eq_true h4
              by_cases h5 : cl ≤ 1073741824
              · have d5 := decide_eq_true h5
                by_cases h6 : 0 ≤ f
                · have d6 := decide_eq_true h6
                  by_cases h7 : f ≤ 1073741824
                  · have d7 := decide_eq_true h7
                    by_cases h8 : 0 ≤ bu
                    · have d8 := decide_eq_true h8
                      by_cases h9 : bu ≤ 1073741824
                      · have d9 := decide_eq_true h9
                        go_wp2
                        go_meet
                        case rel => exact ⟨true, rfl, hid (fun _ => ⟨h0, h1, h2, h3, ⟨h4, h5⟩, ⟨h6, h7⟩, ⟨h8, h9⟩⟩), hid rfl⟩
                      · have d9 := decide_eq_false h9
                        go_wp2
                        go_meet
                        case rel => exact ⟨false, rfl, hid (fun h => by cases h), hid rfl⟩
                    · have d8 := decide_eq_false h8
                      go_wp2
                      go_meet
                      case rel => exact ⟨false, rfl, hid (fun h => by cases h), hid rfl⟩
                  · have d7 := decide_eq_false h7
                    go_wp2
                    go_meet
                    case rel => exact ⟨false, rfl, hid (fun h => by cases h), hid rfl⟩
                · have d6 := decide_eq_false h6
                  go_wp2
                  go_meet
                  case rel => exact ⟨false, rfl, hid (fun h => by cases h), hid rfl⟩
              · have d5 := decide_eq_false h5
                go_wp2
                go_meet
                case rel => exact ⟨false, rfl, hid (fun h => by cases h), hid rfl⟩
            · have d4 := decide_eq_false h4
              go_wp2
              go_meet
              case rel => exact ⟨false, rfl, hid (fun h => by cases h), hid rfl⟩
          · have d3 := decide_eq_false h3
            go_wp2
            go_meet
            case rel => exact ⟨false, rfl, hid (fun h => by cases h), hid rfl⟩
        · have d2 := decide_eq_false h2
          go_wp2
          go_meet
          case rel => exact ⟨false, rfl, hid (fun h => by cases h), hid rfl⟩
      · have d1 := decide_eq_false h1
        go_wp2
        go_meet
        case rel => exact ⟨false, rfl, hid (fun h => by cases h), hid rfl⟩
    · have d0 := decide_eq_false h0
      go_wp2
      go_meet
      case rel => exact ⟨false, rfl, hid (fun h => by cases h), hid rfl⟩
  case rest =>
  obtain ⟨r, rfl, HRt, hw3⟩ := hcut
  obtain rfl := hw3.out
  clear hw3
  go_upto_region 5 with fail
  -- is what its kind doesn't speak of nought
  go_cut [10] (fun v wc => ∃ p : Bool, v = .bool p ∧ Hid (p = true → kindZ ⟨kd, cl, ⟨⟨ra, rb⟩, ⟨rc, rd⟩, ⟨re, rf⟩, ⟨rg, rh⟩, ⟨ri, rj⟩⟩, lo, hi, f, fa, bu⟩) ∧ Hid (w3 = wc))
  case first =>
    as_aux_lemma =>
    by_cases hkd1 : kd = 1
    · have dkd1 : (kd == 1) = true := by simp [hkd1]
      have e2 : (kd == 2) = false := beq_false_of_ne (by omega)
      have e3 : (kd == 3) = false := beq_false_of_ne (by omega)
      by_cases hf0 : f = 0
      · have df0 : (f == 0) = true := by simp [hf0]
        cases fa
        · skip
          go_wp2
          go_meet
          case rel => exact ⟨true, rfl, hid (fun _ => .inl ⟨hkd1, hf0, rfl⟩), hid rfl⟩
        · skip
          go_wp2
          go_meet
          case rel => exact ⟨false, rfl, hid (fun h => by cases h), hid rfl⟩
      · have df0 : (f == 0) = false := beq_false_of_ne hf0
        go_wp2
        go_meet
        case rel => exact ⟨false, rfl, hid (fun h => by cases h), hid rfl⟩
    · have dkd1 : (kd == 1) = false := beq_false_of_ne hkd1
      by_cases hkd2 : kd = 2
      · have dkd2 : (kd == 2) = true := by simp [hkd2]
        have e2 : (kd == 3) = false := beq_false_of_ne (by omega)
        by_cases hlo0 : lo = 0
        · have dlo0 : (lo == 0) = true := by simp [hlo0]
          by_cases hhi0 : hi = 0
          · have dhi0 : (hi == 0) = true := by simp [hhi0]
            by_cases hf0 : f = 0
            · have df0 : (f == 0) = true := by simp [hf0]
              cases fa
              · skip
                go_wp2
                go_meet
                case rel => exact ⟨true, rfl, hid (fun _ => .inr (.inl ⟨hkd2, hlo0, hhi0, hf0, rfl⟩)), hid rfl⟩
              · skip
                go_wp2
                go_meet
                case rel => exact ⟨false, rfl, hid (fun h => by cases h), hid rfl⟩
            · have df0 : (f == 0) = false := beq_false_of_ne hf0
              go_wp2
              go_meet
              case rel => exact ⟨false, rfl, hid (fun h => by cases h), hid rfl⟩
          · have dhi0 : (hi == 0) = false := beq_false_of_ne hhi0
            go_wp2
            go_meet
            case rel => exact ⟨false, rfl, hid (fun h => by cases h), hid rfl⟩
        · have dlo0 : (lo == 0) = false := beq_false_of_ne hlo0
          go_wp2
          go_meet
          case rel => exact ⟨false, rfl, hid (fun h => by cases h), hid rfl⟩
      · have dkd2 : (kd == 2) = false := beq_false_of_ne hkd2
        by_cases hkd3 : kd = 3
        · have dkd3 : (kd == 3) = true := by simp [hkd3]
          by_cases hlo0 : lo = 0
          · have dlo0 : (lo == 0) = true := by simp [hlo0]
            by_cases hhi0 : hi = 0
            · have dhi0 : (hi == 0) = true := by simp [hhi0]
              go_wp2
              go_meet
              case rel => exact ⟨true, rfl, hid (fun _ => .inr (.inr ⟨hkd3, hlo0, hhi0⟩)), hid rfl⟩
            · have dhi0 : (hi == 0) = false := beq_false_of_ne hhi0
              go_wp2
              go_meet
              case rel => exact ⟨false, rfl, hid (fun h => by cases h), hid rfl⟩
          · have dlo0 : (lo == 0) = false := beq_false_of_ne hlo0
            go_wp2
            go_meet
            case rel => exact ⟨false, rfl, hid (fun h => by cases h), hid rfl⟩
        · have dkd3 : (kd == 3) = false := beq_false_of_ne hkd3
          go_wp2
          go_meet
          case rel => exact ⟨false, rfl, hid (fun h => by cases h), hid rfl⟩
  case rest =>
  obtain ⟨p, rfl, HPl, hw3⟩ := hcut
  obtain rfl := hw3.out
  clear hw3 q0 q1 q12 q13 q14 q15 q16
  go_upto_region 6 with fail
  refine wp_region_lit ?_
  refine wpList_plain rfl fun K hK => ?_
  go_simp
  refine hK _ _ ?_
  clear hK K
  refine listp_loadXat rfl _ rfl HQ3.out rfl ?_
  go_upto_region 7 with fail
  go_loopg [125, 10] 5 (fun r' i pv wr => ∃ (j : Nat) (p : Bool), i = .int .i64 (j : Int) ∧ pv = .bool p ∧ j + r' = 5 ∧ Hid (p = true → kindZ ⟨kd, cl, ⟨⟨ra, rb⟩, ⟨rc, rd⟩, ⟨re, rf⟩, ⟨rg, rh⟩, ⟨ri, rj⟩⟩, lo, hi, f, fa, bu⟩ ∧ ∀ k : Nat, k < j → (k : Int) < d ∨ (⟨⟨ra, rb⟩, ⟨rc, rd⟩, ⟨re, rf⟩, ⟨rg, rh⟩, ⟨ri, rj⟩⟩ : Bx).at (k : Int) = Sp.nil) ∧ Hid (Jk w3 wr))
  case atStart => exact ⟨0, p, rfl, rfl, by omega, hid (fun h => ⟨HPl.out h, fun k hk => absurd hk (by omega)⟩), hid (Jk.refl w3)⟩
  case round =>
    obtain ⟨j, p, rfl, rfl, hj, HPj, HJj⟩ := hrel
    clear HPl
    by_cases hk : gk = 0
    · subst hk
      obtain rfl : j = 5 := by omega
      cases r
      · skip
        go_wp2_with (go_at_call 3; refine (HR.out _ ((HJ0.out.trans HJ3.out).trans HJj.out)).mono ?_; rintro e w9 ⟨rfl, hj9⟩; have HJ9 := hid hj9; clear hj9)
        go_ret
        exact ⟨rfl, ((HJ0.out.trans HJ3.out).trans HJj.out).trans HJ9.out⟩
      · cases p
        · skip
          go_wp2_with (go_at_call 3; refine (HR.out _ ((HJ0.out.trans HJ3.out).trans HJj.out)).mono ?_; rintro e w9 ⟨rfl, hj9⟩; have HJ9 := hid hj9; clear hj9)
          go_ret
          exact ⟨rfl, ((HJ0.out.trans HJ3.out).trans HJj.out).trans HJ9.out⟩
        · exfalso
          obtain ⟨a1, a2, a3, a4, a5, a6, a7⟩ := HRt.out rfl
          obtain ⟨b1, b2⟩ := HPj.out rfl
          exact HT.out ⟨a1, a2, a3, a4, a5, a6, a7⟩ b1 b2
    · obtain ⟨r', rfl⟩ : ∃ r, gk = r + 1 := ⟨gk - 1, by omega⟩
      have hlt : (j : Int) < 5 := by omega
      obtain ⟨⟨sx, sy⟩, hs⟩ : ∃ z, (⟨⟨ra, rb⟩, ⟨rc, rd⟩, ⟨re, rf⟩, ⟨rg, rh⟩, ⟨ri, rj⟩⟩ : Bx).at (j : Int) = z := ⟨_, rfl⟩
      have hix := ixAt ⟨⟨ra, rb⟩, ⟨rc, rd⟩, ⟨re, rf⟩, ⟨rg, rh⟩, ⟨ri, rj⟩⟩ (show j < 5 by omega)
      rw [hs] at hix
      simp only [boxV, spV] at hix
      have HS := hid hs
      obtain ⟨w4, hw4⟩ : ∃ z, wr.alloc (.cells #[.int .i64 sx, .int .i64 sy] 23) = z := ⟨_, rfl⟩
      have HJ4 : Hid (Jk w3 w4) := hw4 ▸ HJj.out.alloc _
      have d0 : w4.cell? ⟨wr.heap.size, 0, none⟩ = some (.int .i64 sx) := by rw [← hw4]; exact new_cells wr #[.int .i64 sx, .int .i64 sy] _ _ rfl 0 _ rfl
      have d1 : w4.cell? ⟨wr.heap.size, 1, none⟩ = some (.int .i64 sy) := by rw [← hw4]; exact new_cells wr #[.int .i64 sx, .int .i64 sy] _ _ rfl 1 _ rfl
      have dl : wr.heap.size < w4.heap.size := by rw [← hw4]; simp
      clear hs
      cases p
      · go_wp2
        go_roundg r'
        case measure => omega
        case rel => exact ⟨j + 1, false, by go_num, rfl, by omega, hid (fun h => by cases h), HJ4⟩
      · by_cases hjd : (j : Int) < d
        · have e1 := decide_eq_true hjd
          have HN : Hid (true = true → kindZ ⟨kd, cl, ⟨⟨ra, rb⟩, ⟨rc, rd⟩, ⟨re, rf⟩, ⟨rg, rh⟩, ⟨ri, rj⟩⟩, lo, hi, f, fa, bu⟩ ∧ ∀ k : Nat, k < j + 1 → (k : Int) < d ∨ (⟨⟨ra, rb⟩, ⟨rc, rd⟩, ⟨re, rf⟩, ⟨rg, rh⟩, ⟨ri, rj⟩⟩ : Bx).at (k : Int) = Sp.nil) := fun h => ⟨(HPj.out h).1, fun k hk => by
            rcases Nat.lt_succ_iff_lt_or_eq.1 hk with h' | rfl
            · exact (HPj.out h).2 k h'
            · exact .inl hjd⟩
          go_wp2
          go_roundg r'
          case measure => omega
          case rel => exact ⟨j + 1, true, by go_num, rfl, by omega, hid (fun _ => HN.out trivial), HJ4⟩
        · have e1 := decide_eq_false hjd
          by_cases hz : (⟨sx, sy⟩ : Sp) = Sp.nil
          · have E : ∀ w : World, (Op.equalIn 10000 23 (.agg #[.int .i64 sx, .int .i64 sy]) (.agg #[.int .i64 0, .int .i64 0])).run Tryd.prog w = .ok true w := fun w => by
              have := eq_span 9998 ⟨sx, sy⟩ Sp.nil w
              rw [show (⟨sx, sy⟩ : Sp).eqB Sp.nil = true from Sp.eqB_iff.2 hz] at this
              exact this
            have HN : Hid (true = true → kindZ ⟨kd, cl, ⟨⟨ra, rb⟩, ⟨rc, rd⟩, ⟨re, rf⟩, ⟨rg, rh⟩, ⟨ri, rj⟩⟩, lo, hi, f, fa, bu⟩ ∧ ∀ k : Nat, k < j + 1 → (k : Int) < d ∨ (⟨⟨ra, rb⟩, ⟨rc, rd⟩, ⟨re, rf⟩, ⟨rg, rh⟩, ⟨ri, rj⟩⟩ : Bx).at (k : Int) = Sp.nil) := fun h => ⟨(HPj.out h).1, fun k hk => by
              rcases Nat.lt_succ_iff_lt_or_eq.1 hk with h' | rfl
              · exact (HPj.out h).2 k h'
              · exact .inr (HS.out.trans hz)⟩
            clear hz
            go_wp2
            go_roundg r'
            case measure => omega
            case rel => exact ⟨j + 1, true, by go_num, rfl, by omega, hid (fun _ => HN.out trivial), HJ4⟩
          · have E : ∀ w : World, (Op.equalIn 10000 23 (.agg #[.int .i64 sx, .int .i64 sy]) (.agg #[.int .i64 0, .int .i64 0])).run Tryd.prog w = .ok false w := fun w => by
              have := eq_span 9998 ⟨sx, sy⟩ Sp.nil w
              rw [show (⟨sx, sy⟩ : Sp).eqB Sp.nil = false from Bool.eq_false_iff.2 fun e => hz (Sp.eqB_iff.1 e)] at this
              exact this
            clear hz
            go_wp2
            go_roundg r'
            case measure => omega
            case rel => exact ⟨j + 1, false, by go_num, rfl, by omega, hid (fun h => by cases h), HJ4⟩
/-- the law -/
theorem askRaw_walk (q : Qy) (d : Int) (w : World) (hq : q.ok) (_ : (Lit.int .i64 d).wf = true) (hE : Env w) : Calls Tryd.prog 6 #[queryV q, .int .i64 d] w fun e w' => e = .returned (.bool true) ∧ Jk w w' := by
  by_cases hT : TellsQ q d
  · exact raw_yes (lib_a hE) q hq d hT w (Jk.refl w)
  · exact raw_no (lib_a hE) q hq d hT w (Jk.refl w)
end Go.Proofs.YtjpffempmlfoeaaDoor
