/- The law AskRuns of chapter 11 (its runs) answers true. Conditions: what the statement itself says of the library's variables ('Env').
   What package ask answers of the queries that numbers make: their texts, and what is parsed of these. No conditions but what is written.
   Plain mathematics of chapter 11: how many double points a query's text has; the word that it begins with. No program is spoken of here. -/
import Derived.Test.YtjpffempmlfoeaaDoorAskRead
import Derived.Test.YtjpffempmlfoeaaDoorQueryM
namespace Go.Proofs.YtjpffempmlfoeaaDoor
open Go.RowKit M

/-! the run's query and its text -/
def runQ : Qy := ⟨1, 0, ⟨⟨0, 128⟩, ⟨0, 0⟩, ⟨0, 0⟩, ⟨0, 0⟩, ⟨0, 0⟩⟩, 256, 512, 0, false, 9⟩
def runS : Txt := [114, 97, 110, 103, 101, 32, 48, 32, 102, 114, 111, 109, 32, 49, 32, 116, 111, 32, 50, 32, 105, 110, 32, 48, 46, 46, 48, 46, 53, 32, 98, 117, 100, 103, 101, 116, 32, 57]
theorem runQ_ok : runQ.ok := ⟨⟨by decide, by decide⟩, ⟨by decide, by decide⟩, ⟨⟨⟨by decide, by decide⟩, ⟨by decide, by decide⟩⟩, ⟨⟨by decide, by decide⟩, ⟨by decide, by decide⟩⟩, ⟨⟨by decide, by decide⟩, ⟨by decide, by decide⟩⟩, ⟨⟨by decide, by decide⟩, ⟨by decide, by decide⟩⟩, ⟨⟨by decide, by decide⟩, ⟨by decide, by decide⟩⟩⟩, ⟨by decide, by decide⟩, ⟨by decide, by decide⟩, ⟨by decide, by decide⟩, ⟨by decide, by decide⟩⟩
theorem run_tells : TellsQ runQ ((1 : Nat) : Int) := by decide
theorem p256 : printL 256 = [49] := by
  unfold printL printU
  rw [if_neg (by decide), show (256 : Int).natAbs / 256 = 1 by decide, Lib.decDigits_one (by decide)]
  rfl
theorem p512 : printL 512 = [50] := by
  unfold printL printU
  rw [if_neg (by decide), show (512 : Int).natAbs / 256 = 2 by decide, Lib.decDigits_one (by decide)]
  rfl
theorem p128 : printL 128 = [48, 46, 53] := by
  unfold printL printU
  rw [if_neg (by decide), show (128 : Int).natAbs / 256 = 0 by decide, Lib.decDigits_one (by decide)]
  rfl
theorem g0 : dg 0 = [48] := by
  unfold dg
  rw [show (0 : Int).toNat = 0 by decide, Lib.decDigits_one (by decide)]
  rfl
theorem g9 : dg 9 = [57] := by
  unfold dg
  rw [show (9 : Int).toNat = 9 by decide, Lib.decDigits_one (by decide)]
  rfl
theorem run_text : askT runQ 1 = runS := by
  have e : askT runQ 1 = Lib.join [kRange, dg 0, kFrom, printL 256, kTo, printL 512, kIn, printL 0 ++ (46 :: 46 :: printL 128), kBudget, dg 9] [32] := rfl
  rw [e, g0, g9, p256, p512, print_0, p128]
  rfl
theorem run_print : printQ runQ 1 = runS := by
  have h : TellsQ runQ 1 := run_tells
  rw [printQ_yes h]
  exact run_text
theorem run_parse : parseF runS = (runQ, 1, true) := by
  have h := read_back run_tells runQ_ok
  rw [run_text] at h
  unfold parseF
  rw [h, if_neg (fun e => e.elim (by decide) fun e => e run_print)]
  rfl
/-- a text ends in a digit of its budget -/
def EndsB (z t : Txt) : Prop := ∃ p, t = p ++ z
theorem EndsB.app {z t : Txt} (h : EndsB z t) (a : Txt) : EndsB z (a ++ 32 :: t) := by
  obtain ⟨p, rfl⟩ := h
  exact ⟨a ++ 32 :: p, by simp⟩
theorem ends_spans (b : Bx) (z y : Txt) (h : EndsB z y) : ∀ (k i : Nat), EndsB z (spansT b k i y)
  | 0, _ => h
  | k + 1, i => (ends_spans b z y h k (i + 1)).app _
theorem ask_ends {q : Qy} {d : Nat} (h : TellsQ q d) : EndsB (dg q.bu) (askT q d) := by
  rw [ask_text h]
  have h0 : EndsB (dg q.bu) (kIn ++ 32 :: spansT q.rg d 0 (kBudget ++ 32 :: dg q.bu)) := (ends_spans _ _ _ (EndsB.app ⟨[], rfl⟩ _) _ _).app _
  unfold headT
  repeat' split
  · exact (((((h0.app _).app _).app _).app _).app _).app _
  · exact (h0.app _).app _
  · exact (((h0.app _).app _).app _).app _
theorem ask_last {q : Qy} {d : Nat} (h : TellsQ q d) (t : Txt) : askT q d ≠ t ++ [32] := fun e => by
  obtain ⟨p, hp⟩ := ask_ends h
  have hd : (dg q.bu).all isDig = true := dd_dig _
  have hne : dg q.bu ≠ [] := dd_ne _
  have h1 : (askT q d).getLast? = some 32 := by rw [e]; simp
  rw [hp, List.getLast?_append, List.getLast?_eq_some_getLast hne] at h1
  simp at h1
  have h2 := List.all_eq_true.1 hd _ (List.getLast_mem hne)
  rw [h1] at h2
  exact absurd h2 (by decide)
theorem run_none : (parseF (runS ++ [32])).2.2 = false := by
  cases hb : (parseF (runS ++ [32])).2.2
  · rfl
  · obtain ⟨h1, h2, _⟩ := (parseF_is (runS ++ [32])).1 hb
    rw [printQ_yes h1] at h2
    obtain ⟨k, hk⟩ := Int.eq_ofNat_of_zero_le (show 0 ≤ (parseF (runS ++ [32])).2.1 by have := h1.d1; omega)
    rw [hk] at h1 h2
    exact absurd h2 (ask_last h1 runS)
theorem sum_blank (t : Txt) : (⟨t.toArray⟩ : ByteArray) ++ (⟨#[32]⟩ : ByteArray) = ⟨(t ++ [32]).toArray⟩ := by
  apply ByteArray.ext
  simp

set_option maxRecDepth 100000 in
set_option maxHeartbeats 3200000 in
theorem runsA_ans {wb : World} (hL : LibA wb) : AnsW wb 3 #[] (.bool true) := fun w hw => by
  have J := rules8
  have HP1 := hid ((parse_ans hL runS (by decide)).at hw)
  have HP2 := hid ((parse_ans hL (runS ++ [32]) (by decide)).at hw)
  have HPr := hid ((print_ans hL runQ runQ_ok 1).at hw)
  rw [run_parse] at HP1
  rw [run_none] at HP2
  rw [run_print] at HPr
  generalize (parseF (runS ++ [32])).1 = q2 at HP2
  generalize (parseF (runS ++ [32])).2.1 = d2 at HP2
  obtain ⟨k0, k1, ⟨⟨r0, r1⟩, ⟨r2, r3⟩, ⟨r4, r5⟩, ⟨r6, r7⟩, ⟨r8, r9⟩⟩, k2, k3, k4, k5, k6⟩ := q2
  have hsum := sum_blank runS
  obtain ⟨S2, hS2⟩ : ∃ z, runS ++ [32] = z := ⟨_, rfl⟩
  rw [hS2] at HP2 hsum
  have hlen : runS.length ≤ 100 := by decide
  have E := eq_qy (a := runQ) (b := runQ) (r := true) (iff_of_true rfl rfl)
  simp only [queryV, runQ] at HP1 HP2 HPr E
  obtain ⟨w1, hw1⟩ : ∃ w1, w.alloc (.cells #[.int .i64 1, .int .i64 0, .int .i64 0, .int .i64 128, .int .i64 0, .int .i64 0, .int .i64 0, .int .i64 0, .int .i64 0, .int .i64 0, .int .i64 0, .int .i64 0, .int .i64 256, .int .i64 512, .int .i64 0, .bool false, .int .i64 9] 27) = w1 := ⟨_, rfl⟩
  have HJ1 : Hid (Jk w w1) := hw1 ▸ (Jk.refl w).alloc _
  have HQ1 : Hid (QyB w1 w.heap.size ⟨1, 0, ⟨⟨0, 128⟩, ⟨0, 0⟩, ⟨0, 0⟩, ⟨0, 0⟩, ⟨0, 0⟩⟩, 256, 512, 0, false, 9⟩) := by
    rw [← hw1]
    exact QyB.laid w ⟨1, 0, ⟨⟨0, 128⟩, ⟨0, 0⟩, ⟨0, 0⟩, ⟨0, 0⟩, ⟨0, 0⟩⟩, 256, 512, 0, false, 9⟩
  clear hw hL hS2
  go_enter Tryd.func3, Tryd.ntmps3
  go_upto_region 2 with fail
  go_cut [2] (fun v wc => v = tx runS ∧ wc = w1)
  case first =>
    go_wp2
    go_meet
    case rel => exact ⟨rfl, rfl⟩
  case rest =>
    obtain ⟨rfl, hw⟩ := hcut
    obtain ⟨w2, rfl⟩ : ∃ z, z = wc := ⟨_, rfl⟩
    obtain rfl := hw.symm
    clear hw1
    generalize runS = S at HP1 HPr hsum hlen ⊢
    go_upto_region 4 with (go_at_call 8; refine (HP1.out _ HJ1.out).mono ?_; rintro e w3 ⟨rfl, hj3⟩; have HJ3 := hid hj3; clear hj3)
    have HQ4 : Hid (QyB (w3.alloc (.cells #[.int .i64 1, .int .i64 0, .int .i64 0, .int .i64 128, .int .i64 0, .int .i64 0, .int .i64 0, .int .i64 0, .int .i64 0, .int .i64 0, .int .i64 0, .int .i64 0, .int .i64 256, .int .i64 512, .int .i64 0, .bool false, .int .i64 9] 27)) w3.heap.size ⟨1, 0, ⟨⟨0, 128⟩, ⟨0, 0⟩, ⟨0, 0⟩, ⟨0, 0⟩, ⟨0, 0⟩⟩, 256, 512, 0, false, 9⟩) := QyB.laid w3 ⟨1, 0, ⟨⟨0, 128⟩, ⟨0, 0⟩, ⟨0, 0⟩, ⟨0, 0⟩, ⟨0, 0⟩⟩, 256, 512, 0, false, 9⟩
    have HJ4 : Hid (Jk w1 (w3.alloc (.cells #[.int .i64 1, .int .i64 0, .int .i64 0, .int .i64 128, .int .i64 0, .int .i64 0, .int .i64 0, .int .i64 0, .int .i64 0, .int .i64 0, .int .i64 0, .int .i64 0, .int .i64 256, .int .i64 512, .int .i64 0, .bool false, .int .i64 9] 27))) := HJ3.out.alloc _
    generalize hw4 : w3.alloc (.cells #[.int .i64 1, .int .i64 0, .int .i64 0, .int .i64 128, .int .i64 0, .int .i64 0, .int .i64 0, .int .i64 0, .int .i64 0, .int .i64 0, .int .i64 0, .int .i64 0, .int .i64 256, .int .i64 512, .int .i64 0, .bool false, .int .i64 9] 27) = w4 at HQ4 HJ4 ⊢
    clear hw4
    go_upto_region 5 with (go_at_call 8; refine (HP2.out _ (HJ1.out.trans HJ4.out)).mono ?_; rintro e w5 ⟨rfl, hj5⟩; have HJ5 := hid hj5; clear hj5)
    have HJ6 : Hid (Jk w4 (w5.alloc (.cells #[.int .i64 k0, .int .i64 k1, .int .i64 r0, .int .i64 r1, .int .i64 r2, .int .i64 r3, .int .i64 r4, .int .i64 r5, .int .i64 r6, .int .i64 r7, .int .i64 r8, .int .i64 r9, .int .i64 k2, .int .i64 k3, .int .i64 k4, .bool k5, .int .i64 k6] 27))) := HJ5.out.alloc _
    generalize hw6 : w5.alloc (.cells #[.int .i64 k0, .int .i64 k1, .int .i64 r0, .int .i64 r1, .int .i64 r2, .int .i64 r3, .int .i64 r4, .int .i64 r5, .int .i64 r6, .int .i64 r7, .int .i64 r8, .int .i64 r9, .int .i64 k2, .int .i64 k3, .int .i64 k4, .bool k5, .int .i64 k6] 27) = w6 at HJ6 ⊢
    clear hw6
    have HQ6 := hid ((HQ1.out.jk HJ4.out).jk HJ6.out)
    have HX6 := hid (HQ4.out.jk HJ6.out)
    have HJw6 := hid ((HJ1.out.trans HJ4.out).trans HJ6.out)
    have HJc := hid (Jk.refl w6)
    have hSS : (S == S) = true := by simp
    refine wp_region_lit ?_
    refine listp_loadQ rfl _ rfl (HQ6.out.jk HJc.out) rfl ?_
    simp only [Act.put, List.setIfInBounds_toArray, List.set_cons_succ, List.set_cons_zero]
    refine wpList_plain rfl fun K hK => ?_
    go_simp
    go_at_call 9
    refine (HPr.out _ (HJw6.out.trans HJc.out)).mono ?_
    rintro e z0 ⟨rfl, hj⟩
    have HJn := hid (HJc.out.trans hj)
    clear hj HJc
    have HJc := HJn
    clear HJn
    go_simp
    refine hK _ _ ?_
    clear hK K
    refine wpList_plain rfl fun K hK => ?_
    go_simp
    refine hK _ _ ?_
    clear hK K
    refine wpList_plain rfl fun K hK => ?_
    go_simp
    refine hK _ _ ?_
    clear hK K
    refine wpList_plain rfl fun K hK => ?_
    go_simp
    refine hK _ _ ?_
    clear hK K
    refine listw_loadQ rfl _ rfl (HX6.out.jk HJc.out) rfl ?_
    simp only [Act.put, List.setIfInBounds_toArray, List.set_cons_succ, List.set_cons_zero]
    refine listw_loadQ rfl _ rfl (HQ6.out.jk HJc.out) rfl ?_
    simp only [Act.put, List.setIfInBounds_toArray, List.set_cons_succ, List.set_cons_zero]
    refine wpList_one rfl fun K hK => ?_
    go_simp
    refine hK _ _ ?_
    clear hK K
    refine wpList_plain rfl fun K hK => ?_
    go_simp
    refine hK _ _ ?_
    clear hK K
    refine wpList_plain rfl fun K hK => ?_
    go_simp
    refine hK _ _ ?_
    clear hK K
    refine wpList_one rfl fun K hK => ?_
    go_simp
    refine hK _ _ ?_
    clear hK K
    refine wpList_one rfl fun K hK => ?_
    go_simp
    refine hK _ _ ?_
    clear hK K
    refine wpList_plain rfl fun K hK => ?_
    go_simp
    refine hK _ _ ?_
    clear hK K
    refine wpList_plain rfl fun K hK => ?_
    go_simp
    refine hK _ _ ?_
    clear hK K
    refine wpList_one rfl fun K hK => ?_
    go_simp
    refine hK _ _ ?_
    clear hK K
    refine wpList_plain rfl fun K hK => ?_
    go_simp
    refine hK _ _ ?_
    clear hK K
    refine wpList_plain rfl fun K hK => ?_
    go_simp
    refine hK _ _ ?_
    clear hK K
    refine wpList_one rfl fun K hK => ?_
    go_simp
    refine hK _ _ ?_
    clear hK K
    refine wpList_one rfl fun K hK => ?_
    go_simp
    refine hK _ _ ?_
    clear hK K
    refine wpList_plain rfl fun K hK => ?_
    go_simp
    refine hK _ _ ?_
    clear hK K
    refine wpList_plain rfl fun K hK => ?_
    go_simp
    refine hK _ _ ?_
    clear hK K
    refine wpList_nil ?_
    go_wp2
    go_ret
    exact ⟨rfl, HJw6.out.trans HJc.out⟩
theorem askRuns_walk (w : World) (hE : Env w) : Calls Tryd.prog 3 #[] w fun e w' => e = .returned (.bool true) ∧ Jk w w' := runsA_ans (lib_a hE) w (Jk.refl w)
end Go.Proofs.YtjpffempmlfoeaaDoor

namespace Go.Proofs.YtjpffempmlfoeaaDoor
open Go.RowKit M

theorem parse_print {q : Qy} {d : Int} (h : TellsQ q d) (ho : q.ok) : parseF (printQ q d) = (q, d, true) := by
  have hb := print_back h ho
  have hn : printQ q d ≠ [] := printQ_ne.2 h
  unfold parseF
  rw [hb.1, hb.2, if_neg (fun e => e.elim hn fun e => e rfl)]
theorem print_short {q : Qy} {d : Int} (h : TellsQ q d) (ho : q.ok) : (printQ q d).length ≤ 2000000 := by
  rw [printQ_yes h]
  obtain ⟨k, rfl⟩ := Int.eq_ofNat_of_zero_le (show 0 ≤ d by have := h.d1; omega)
  have := ask_len h ho
  simp only [Int.toNat_natCast]
  omega
theorem same_text {q r : Qy} {d e : Int} (h : TellsQ q d) (ho : q.ok) (hr : r.ok) : (printQ q d == printQ r e) = (q.eqB r && (d == e)) := by
  by_cases hs : printQ q d = printQ r e
  · obtain ⟨e1, e2⟩ := printQ_inj h ho hr hs
    subst e1 e2
    rw [show q.eqB q = true from Qy.eqB_iff.2 rfl]
    simp
  · rw [beq_false_of_ne hs]
    cases hq : q.eqB r
    · rfl
    · have := Qy.eqB_iff.1 hq
      subst this
      have hd : d ≠ e := fun h => hs (by rw [h])
      simp [hd]
theorem fit32_i64 {x : Int} (h : fit32 x = true) : I64 x := by
  have := fit32_of h
  unfold I64
  omega
theorem placeR_ok {d i : Int} {s : Sp} (h : placeR d i s) : s.ok := by
  by_cases hi : i < d
  · obtain ⟨_, h1, h2⟩ := h.1 hi
    exact ⟨fit32_i64 h1, fit32_i64 h2⟩
  · obtain ⟨h1, h2⟩ := h.2 (by omega)
    unfold Sp.ok
    rw [h1, h2]
    exact ⟨i64_0, i64_0⟩
/-- the numbers of a query that numbers make fit -/
theorem queryI_ok (a : Ak) {m : Md} (hm : RightM m) : (queryI a m.d m.k).ok := by
  have hq := query_right a hm
  obtain ⟨s1, s2, s3, s4, s5⟩ := hq.sp
  have hd := hm.d4
  have hk3 := hm.k3
  have hsz := within_bd a.sz 0 18000 (by omega)
  have hlo := within_bd a.lo (-9000) 9000 (by omega)
  have c0 := hq.c0
  have c1 := hq.c1
  have b0 := hq.b0
  have b1 := hq.b1
  refine ⟨?_, ⟨by omega, by omega⟩, ⟨placeR_ok s1, placeR_ok s2, placeR_ok s3, placeR_ok s4, placeR_ok s5⟩, ?_, ?_, ?_, ⟨by omega, by omega⟩⟩
  · rcases hq.kd with ⟨h, _⟩ | ⟨h, _⟩ | ⟨h, _⟩ <;> rw [h] <;> exact ⟨by decide, by decide⟩
  · simp only [queryI]
    split
    · exact ⟨by omega, by omega⟩
    · exact ⟨by decide, by decide⟩
  · simp only [queryI]
    split
    · exact ⟨by omega, by omega⟩
    · exact ⟨by decide, by decide⟩
  · rcases hq.kd with ⟨_, _, h, _⟩ | ⟨_, _, _, _, h, _⟩ | ⟨_, h1, h2, _⟩
    · rw [h]; exact ⟨by decide, by decide⟩
    · rw [h]; exact ⟨by decide, by decide⟩
    · exact ⟨by omega, by omega⟩
end Go.Proofs.YtjpffempmlfoeaaDoor

namespace Go.Proofs.YtjpffempmlfoeaaDoor
open Go.RowKit M

def dots : Txt → Nat
  | [] => 0
  | [_] => 0
  | c :: e :: r => (if c = 46 ∧ e = 46 then 1 else 0) + dots (e :: r)
def dotsTo (S : Txt) : Nat → Nat
  | 0 => 0
  | j + 1 => dotsTo S j + (if (S.drop j).take 2 = [46, 46] then 1 else 0)
theorem dots_part (S : Txt) : ∀ j, j + 1 ≤ S.length → dots S = dotsTo S j + dots (S.drop j)
  | 0, _ => by simp [dotsTo]
  | j + 1, h => by
    rw [dots_part S j (by omega), dotsTo]
    obtain ⟨c, r, e⟩ : ∃ c r, S.drop j = c :: r := by
      cases h' : S.drop j with
      | nil => have := congrArg List.length h'; simp at this; omega
      | cons c r => exact ⟨c, r, rfl⟩
    obtain ⟨x, r', e'⟩ : ∃ x r', r = x :: r' := by
      cases r with
      | nil => have := congrArg List.length e; simp at this; omega
      | cons x r' => exact ⟨x, r', rfl⟩
    subst e'
    have e2 : S.drop (j + 1) = x :: r' := by
      rw [← List.drop_drop, e]; rfl
    rw [e, e2, dots]
    have : ((c :: x :: r').take 2 = [46, 46]) ↔ (c = 46 ∧ x = 46) := by simp
    simp only [this]
    omega
theorem dots_all {S : Txt} {n : Nat} (h : S.length = n + 1) : dotsTo S n = dots S := by
  rw [dots_part S n (by omega)]
  have : (S.drop n).length = 1 := by simp; omega
  cases h' : S.drop n with
  | nil => rw [h'] at this; simp at this
  | cons c r =>
    cases r with
    | nil => simp [dots]
    | cons x r' => rw [h'] at this; simp at this
theorem dots_blank : ∀ (a b : Txt), dots (a ++ 32 :: b) = dots a + dots b
  | [], [] => rfl
  | [], c :: b => by
    show dots (32 :: c :: b) = dots [] + dots (c :: b)
    rw [dots]
    simp [dots]
  | [x], b => by
    show dots (x :: 32 :: b) = dots [x] + dots b
    have h := dots_blank [] b
    simp only [List.nil_append] at h
    have e : dots (x :: 32 :: b) = (if x = 46 ∧ (32 : UInt8) = 46 then 1 else 0) + dots (32 :: b) := by rw [dots]
    rw [e, h]
    simp [dots]
  | x :: y :: a, b => by
    have h := dots_blank (y :: a) b
    show dots (x :: y :: (a ++ 32 :: b)) = _
    rw [dots]
    simp only [List.cons_append] at h
    rw [h, dots]
    omega
theorem dots_one : ∀ {t : Txt}, onePt t = true → dots t = 0
  | [], _ => rfl
  | [_], _ => rfl
  | c :: e :: r, h => by
    simp only [onePt, Bool.and_eq_true] at h
    rw [dots, dots_one h.2]
    have h1 := h.1
    simp at h1
    have : ¬ (c = 46 ∧ e = 46) := by
      rintro ⟨rfl, rfl⟩
      simp at h1
    rw [if_neg this]
theorem dots_points : ∀ (a b : Txt), onePt a = true → (∀ c r, b = c :: r → c ≠ 46) → dots (a ++ 46 :: 46 :: b) = 1 + dots b
  | [], [], _, _ => rfl
  | [], c :: b, _, h => by
    have hc := h c b rfl
    show dots (46 :: 46 :: c :: b) = _
    rw [dots, dots]
    simp [hc]
  | [x], b, h, hb => by
    have hx : ¬ x = 46 := by simpa [onePt] using h
    have h2 := dots_points [] b rfl hb
    simp only [List.nil_append] at h2
    show dots (x :: 46 :: 46 :: b) = _
    rw [dots, h2]
    simp [hx]
  | x :: y :: a, b, h, hb => by
    simp only [onePt, Bool.and_eq_true] at h
    have h2 := dots_points (y :: a) b h.2 hb
    simp only [List.cons_append] at h2
    show dots (x :: y :: (a ++ 46 :: 46 :: b)) = _
    rw [dots, h2]
    have h1 := h.1
    simp at h1
    have : ¬ (x = 46 ∧ y = 46) := by
      rintro ⟨rfl, rfl⟩
      simp at h1
    rw [if_neg this]
    omega
theorem print_no_point (n : Int) : ∀ c r, printL n = c :: r → c ≠ 46 := by
  intro c r e
  unfold printL at e
  split at e
  · cases e; decide
  · obtain ⟨c', r', e', hd⟩ := printU_head n.natAbs
    rw [e'] at e
    cases e
    exact (dig_ne hd).1
theorem dots_span (s : Sp) : dots (spanT s) = 1 := by
  unfold spanT
  rw [dots_points _ _ (onePt_print _) (print_no_point _), dots_one (onePt_print _)]
theorem dots_spans (b : Bx) (z : Txt) : ∀ k i, dots (spansT b k i z) = k + dots z
  | 0, _ => by simp [spansT]
  | k + 1, i => by
    rw [spansT, dots_blank, dots_span, dots_spans b z k (i + 1)]
    omega
theorem dots_dg (n : Int) : dots (dg n) = 0 := dots_one (onePt_digs _ (dd_dig _))
theorem dots_ask {q : Qy} {d : Nat} (h : TellsQ q d) : dots (askT q d) = d := by
  rw [ask_text h]
  have h0 : dots (kIn ++ 32 :: spansT q.rg d 0 (kBudget ++ 32 :: dg q.bu)) = d := by
    rw [dots_blank, dots_spans, dots_blank, dots_dg]
    have e1 : dots kIn = 0 := by decide
    have e2 : dots kBudget = 0 := by decide
    omega
  have k1 : dots kRange = 0 := by decide
  have k2 : dots kFrom = 0 := by decide
  have k3 : dots kTo = 0 := by decide
  have k4 : dots kBest = 0 := by decide
  have k5 : dots kBy = 0 := by decide
  have k6 : dots (wayT q.fa) = 0 := by cases q.fa <;> decide
  unfold headT
  repeat' split
  · simp only [dots_blank, dots_dg, k1, k2, k3, dots_one (onePt_print _), h0]
    omega
  · simp only [dots_blank, dots_dg, k4, h0]
    omega
  · simp only [dots_blank, dots_dg, k5, k6, h0]
    omega
/-- the word of a query's kind, with its blank -/
def wordK (q : Qy) : Txt := if q.kd = 2 then [98, 101, 115, 116, 32] else if q.kd = 3 then (if q.fa = true then [102, 97, 108, 108, 115, 32] else [114, 105, 115, 101, 115, 32]) else [114, 97, 110, 103, 101, 32]
theorem head_word {q : Qy} {d : Nat} (h : TellsQ q d) : ∃ r, askT q d = wordK q ++ r ∧ r ≠ [] := by
  rw [ask_text h]
  unfold headT wordK
  rcases kind_some h.kd with h | ⟨h, h'⟩ | ⟨h, h', h''⟩
  · rw [if_pos h, if_neg (by omega), if_neg (by omega)]
    exact ⟨_, rfl, by simp⟩
  · rw [if_neg h, if_pos h', if_pos h']
    exact ⟨_, rfl, by simp⟩
  · rw [if_neg h, if_neg h', if_neg h', if_pos h'']
    cases q.fa
    · exact ⟨_, rfl, by simp⟩
    · exact ⟨_, rfl, by simp⟩
end Go.Proofs.YtjpffempmlfoeaaDoor
