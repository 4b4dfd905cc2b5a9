/- The law AskRuns of chapter 11 (its runs) answers true. Conditions: what the statement itself says of the library's variables ('Env'). -/
import Derived.Test.YtjpffempmlfoeaaDoorAskX
namespace Go.Proofs.YtjpffempmlfoeaaDoor
open Go.RowKit M

/-! the run's query and its text -/
def runQ : Qy := ⟨1, 0, ⟨⟨0, 128⟩, ⟨0, 0⟩, ⟨0, 0⟩, ⟨0, 0⟩, ⟨0, 0⟩⟩, 256, 512, 0, false, 9⟩
def runS : Txt := [114, 97, 110, 103, 101, 32, 48, 32, 102, 114, 111, 109, 32, 49, 32, 116, 111, 32, 50, 32, 105, 110, 32, 48, 46, 46, 48, 46, 53, 32, 98, 117, 100, 103, 101, 116, 32, 57]
theorem runQ_ok : runQ.ok := ⟨⟨by decide, by decide⟩, ⟨by decide, by decide⟩, ⟨⟨⟨by decide, by decide⟩, ⟨by decide, by decide⟩⟩, ⟨⟨by decide, by decide⟩, ⟨by decide, by decide⟩⟩, ⟨⟨by decide, by decide⟩, ⟨by decide, by decide⟩⟩, ⟨⟨by decide, by decide⟩, ⟨by decide, by decide⟩⟩, ⟨⟨by decide, by decide⟩, ⟨by decide, by decide⟩⟩⟩, ⟨by decide, by decide⟩, ⟨by decide, by decide⟩, ⟨by decide, by decide⟩, ⟨by decide, by decide⟩⟩
theorem run_tells : TellsQ runQ ((1 : Nat) : Int) := by decide
theorem p256 : printL 256 = [49] := by
  unfold printL printU
  rw [if_neg (by decide), show (256 : Int).natAbs / 256 = 1 by decide, Lib.decDigits_one (by decide)]
  rfl
theorem p512 : printL 512 = [50] := by
  unfold printL printU
  rw [if_neg (by decide), show (512 : Int).natAbs / 256 = 2 by decide, Lib.decDigits_one (by decide)]
  rfl
theorem p128 : printL 128 = [48, 46, 53] := by
  unfold printL printU
  rw [if_neg (by decide), show (128 : Int).natAbs / 256 = 0 by decide, Lib.decDigits_one (by decide)]
  rfl
theorem g0 : dg 0 = [48] := by
  unfold dg
  rw [show (0 : Int).toNat = 0 by decide, Lib.decDigits_one (by decide)]
  rfl
theorem g9 : dg 9 = [57] := by
  unfold dg
  rw [show (9 : Int).toNat = 9 by decide, Lib.decDigits_one (by decide)]
  rfl
theorem run_text : askT runQ 1 = runS := by
  have e : askT runQ 1 = Lib.join [kRange, dg 0, kFrom, printL 256, kTo, printL 512, kIn, printL 0 ++ (46 :: 46 :: printL 128), kBudget, dg 9] [32] := rfl
  rw [e, g0, g9, p256, p512, print_0, p128]
  rfl
theorem run_print : printQ runQ 1 = runS := by
  have h : TellsQ runQ 1 := run_tells
  rw [printQ_yes h]
  exact run_text
theorem run_parse : parseF runS = (runQ, 1, true) := by
  have h := read_back run_tells runQ_ok
  rw [run_text] at h
  unfold parseF
  rw [h, if_neg (fun e => e.elim (by decide) fun e => e run_print)]
  rfl
/-- a text ends in a digit of its budget -/
def EndsB (z t : Txt) : Prop := ∃ p, t = p ++ z
theorem EndsB.app {z t : Txt} (h : EndsB z t) (a : Txt) : EndsB z (a ++ 32 :: t) := by
  obtain ⟨p, rfl⟩ := h
  exact ⟨a ++ 32 :: p, by simp⟩
theorem ends_spans (b : Bx) (z y : Txt) (h : EndsB z y) : ∀ (k i : Nat), EndsB z (spansT b k i y)
  | 0, _ => h
  | k + 1, i => (ends_spans b z y h k (i + 1)).app _
theorem ask_ends {q : Qy} {d : Nat} (h : TellsQ q d) : EndsB (dg q.bu) (askT q d) := by
  rw [ask_text h]
  have h0 : EndsB (dg q.bu) (kIn ++ 32 :: spansT q.rg d 0 (kBudget ++ 32 :: dg q.bu)) := (ends_spans _ _ _ (EndsB.app ⟨[], rfl⟩ _) _ _).app _
  unfold headT
  repeat' split
  · exact (((((h0.app _).app _).app _).app _).app _).app _
  · exact (h0.app _).app _
  · exact (((h0.app _).app _).app _).app _
theorem ask_last {q : Qy} {d : Nat} (h : TellsQ q d) (t : Txt) : askT q d ≠ t ++ [32] := fun e => by
  obtain ⟨p, hp⟩ := ask_ends h
  have hd : (dg q.bu).all isDig = true := dd_dig _
  have hne : dg q.bu ≠ [] := dd_ne _
  have h1 : (askT q d).getLast? = some 32 := by rw [e]; simp
  rw [hp, List.getLast?_append, List.getLast?_eq_some_getLast hne] at h1
  simp at h1
  have h2 := List.all_eq_true.1 hd _ (List.getLast_mem hne)
  rw [h1] at h2
  exact absurd h2 (by decide)
theorem run_none : (parseF (runS ++ [32])).2.2 = false := by
  cases hb : (parseF (runS ++ [32])).2.2
  · rfl
  · obtain ⟨h1, h2, _⟩ := (parseF_is (runS ++ [32])).1 hb
    rw [printQ_yes h1] at h2
    obtain ⟨k, hk⟩ := Int.eq_ofNat_of_zero_le (show 0 ≤ (parseF (runS ++ [32])).2.1 by have := h1.d1; omega)
    rw [hk] at h1 h2
    exact absurd h2 (ask_last h1 runS)
theorem sum_blank (t : Txt) : (⟨t.toArray⟩ : ByteArray) ++ (⟨#[32]⟩ : ByteArray) = ⟨(t ++ [32]).toArray⟩ := by
  apply ByteArray.ext
  simp

set_option maxRecDepth 100000 in
set_option maxHeartbeats 3200000 in
theorem runsA_ans {wb : World} (hL : LibA wb) : AnsW wb 3 #[] (.bool true) := fun w hw => by
  have J := rules8
  have HP1 := hid ((parse_ans hL runS (by decide)).at hw)
  have HP2 := hid ((parse_ans hL (runS ++ [32]) (by decide)).at hw)
  have HPr := hid ((print_ans hL runQ runQ_ok 1).at hw)
  rw [run_parse] at HP1
  rw [run_none] at HP2
  rw [run_print] at HPr
  generalize (parseF (runS ++ [32])).1 = q2 at HP2
  generalize (parseF (runS ++ [32])).2.1 = d2 at HP2
  obtain ⟨k0, k1, ⟨⟨r0, r1⟩, ⟨r2, r3⟩, ⟨r4, r5⟩, ⟨r6, r7⟩, ⟨r8, r9⟩⟩, k2, k3, k4, k5, k6⟩ := q2
  have hsum := sum_blank runS
  obtain ⟨S2, hS2⟩ : ∃ z, runS ++ [32] = z := ⟨_, rfl⟩
  rw [hS2] at HP2 hsum
  have hlen : runS.length ≤ 100 := by decide
  have E := eq_qy (a := runQ) (b := runQ) (r := true) (iff_of_true rfl rfl)
  simp only [queryV, runQ] at HP1 HP2 HPr E
  obtain ⟨w1, hw1⟩ : ∃ w1, w.alloc (.cells #[.int .i64 1, .int .i64 0, .int .i64 0, .int .i64 128, .int .i64 0, .int .i64 0, .int .i64 0, .int .i64 0, .int .i64 0, .int .i64 0, .int .i64 0, .int .i64 0, .int .i64 256, .int .i64 512, .int .i64 0, .bool false, .int .i64 9] 27) = w1 := ⟨_, rfl⟩
  have HJ1 : Hid (Jk w w1) := hw1 ▸ (Jk.refl w).alloc _
  have HQ1 : Hid (QyB w1 w.heap.size ⟨1, 0, ⟨⟨0, 128⟩, ⟨0, 0⟩, ⟨0, 0⟩, ⟨0, 0⟩, ⟨0, 0⟩⟩, 256, 512, 0, false, 9⟩) := by
    rw [← hw1]
    exact QyB.laid w ⟨1, 0, ⟨⟨0, 128⟩, ⟨0, 0⟩, ⟨0, 0⟩, ⟨0, 0⟩, ⟨0, 0⟩⟩, 256, 512, 0, false, 9⟩
  clear hw hL hS2
  go_enter Tryd.func3, Tryd.ntmps3
  go_upto_region 2 with fail
  go_cut [2] (fun v wc => v = tx runS ∧ wc = w1)
  case first =>
    go_wp2
    go_meet
    case rel => exact ⟨rfl, rfl⟩
  case rest =>
    obtain ⟨rfl, hw⟩ := hcut
    obtain ⟨w2, rfl⟩ : ∃ z, z = wc := ⟨_, rfl⟩
    obtain rfl := hw.symm
    clear hw1
    generalize runS = S at HP1 HPr hsum hlen ⊢
    go_upto_region 4 with (go_at_call 8; refine (HP1.out _ HJ1.out).mono ?_; rintro e w3 ⟨rfl, hj3⟩; have HJ3 := hid hj3; clear hj3)
    have HQ4 : Hid (QyB (w3.alloc (.cells #[.int .i64 1, .int .i64 0, .int .i64 0, .int .i64 128, .int .i64 0, .int .i64 0, .int .i64 0, .int .i64 0, .int .i64 0, .int .i64 0, .int .i64 0, .int .i64 0, .int .i64 256, .int .i64 512, .int .i64 0, .bool false, .int .i64 9] 27)) w3.heap.size ⟨1, 0, ⟨⟨0, 128⟩, ⟨0, 0⟩, ⟨0, 0⟩, ⟨0, 0⟩, ⟨0, 0⟩⟩, 256, 512, 0, false, 9⟩) := QyB.laid w3 ⟨1, 0, ⟨⟨0, 128⟩, ⟨0, 0⟩, ⟨0, 0⟩, ⟨0, 0⟩, ⟨0, 0⟩⟩, 256, 512, 0, false, 9⟩
    have HJ4 : Hid (Jk w1 (w3.alloc (.cells #[.int .i64 1, .int .i64 0, .int .i64 0, .int .i64 128, .int .i64 0, .int .i64 0, .int .i64 0, .int .i64 0, .int .i64 0, .int .i64 0, .int .i64 0, .int .i64 0, .int .i64 256, .int .i64 512, .int .i64 0, .bool false, .int .i64 9] 27))) := HJ3.out.alloc _
    generalize hw4 : w3.alloc (.cells #[.int .i64 1, .int .i64 0, .int .i64 0, .int .i64 128, .int .i64 0, .int .i64 0, .int .i64 0, .int .i64 0, .int .i64 0, .int .i64 0, .int .i64 0, .int .i64 0, .int .i64 256, .int .i64 512, .int .i64 0, .bool false, .int .i64 9] 27) = w4 at HQ4 HJ4 ⊢
    clear hw4
    go_upto_region 5 with (go_at_call 8; refine (HP2.out _ (HJ1.out.trans HJ4.out)).mono ?_; rintro e w5 ⟨rfl, hj5⟩; have HJ5 := hid hj5; clear hj5)
    have HJ6 : Hid (Jk w4 (w5.alloc (.cells #[.int .i64 k0, .int .i64 k1, .int .i64 r0, .int .i64 r1, .int .i64 r2, .int .i64 r3, .int .i64 r4, .int .i64 r5, .int .i64 r6, .int .i64 r7, .int .i64 r8, .int .i64 r9, .int .i64 k2, .int .i64 k3, .int .i64 k4, .bool k5, .int .i64 k6] 27))) := HJ5.out.alloc _
    generalize hw6 : w5.alloc (.cells #[.int .i64 k0, .int .i64 k1, .int .i64 r0, .int .i64 r1, .int .i64 r2, .int .i64 r3, .int .i64 r4, .int .i64 r5, .int .i64 r6, .int .i64 r7, .int .i64 r8, .int .i64 r9, .int .i64 k2, .int .i64 k3, .int .i64 k4, .bool k5, .int .i64 k6] 27) = w6 at HJ6 ⊢
    clear hw6
    have HQ6 := hid ((HQ1.out.jk HJ4.out).jk HJ6.out)
    have HX6 := hid (HQ4.out.jk HJ6.out)
    have HJw6 := hid ((HJ1.out.trans HJ4.out).trans HJ6.out)
    have HJc := hid (Jk.refl w6)
    have hSS : (S == S) = true := by simp
    refine wp_region_lit ?_
    refine listp_loadQ rfl _ rfl (HQ6.out.jk HJc.out) rfl ?_
    simp only [Act.put, List.setIfInBounds_toArray, List.set_cons_succ, List.set_cons_zero]
    refine wpList_plain rfl fun K hK => ?_
    go_simp
    go_at_call 9
    refine (HPr.out _ (HJw6.out.trans HJc.out)).mono ?_
    rintro e z0 ⟨rfl, hj⟩
    have HJn := hid (HJc.out.trans hj)
    clear hj HJc
    have HJc := HJn
    clear HJn
    go_simp
    refine hK _ _ ?_
    clear hK K
    refine wpList_plain rfl fun K hK => ?_
    go_simp
    refine hK _ _ ?_
    clear hK K
    refine wpList_plain rfl fun K hK => ?_
    go_simp
    refine hK _ _ ?_
    clear hK K
    refine wpList_plain rfl fun K hK => ?_
    go_simp
    refine hK _ _ ?_
    clear hK K
    refine listw_loadQ rfl _ rfl (HX6.out.jk HJc.out) rfl ?_
    simp only [Act.put, List.setIfInBounds_toArray, List.set_cons_succ, List.set_cons_zero]
    refine listw_loadQ rfl _ rfl (HQ6.out.jk HJc.out) rfl ?_
    simp only [Act.put, List.setIfInBounds_toArray, List.set_cons_succ, List.set_cons_zero]
    refine wpList_one rfl fun K hK => ?_
    go_simp
    refine hK _ _ ?_
    clear hK K
    refine wpList_plain rfl fun K hK => ?_
    go_simp
    refine hK _ _ ?_
    clear hK K
    refine wpList_plain rfl fun K hK => ?_
    go_simp
    refine hK _ _ ?_
    clear hK K
    refine wpList_one rfl fun K hK => ?_
    go_simp
    refine hK _ _ ?_
    clear hK K
    refine wpList_one rfl fun K hK => ?_
    go_simp
    refine hK _ _ ?_
    clear hK K
    refine wpList_plain rfl fun K hK => ?_
    go_simp
    refine hK _ _ ?_
    clear hK K
    refine wpList_plain rfl fun K hK => ?_
    go_simp
    refine hK _ _ ?_
    clear hK K
    refine wpList_one rfl fun K hK => ?_
    go_simp
    refine hK _ _ ?_
    clear hK K
    refine wpList_plain rfl fun K hK => ?_
    go_simp
    refine hK _ _ ?_
    clear hK K
    refine wpList_plain rfl fun K hK => ?_
    go_simp
    refine hK _ _ ?_
    clear hK K
    refine wpList_one rfl fun K hK => ?_
    go_simp
    refine hK _ _ ?_
    clear hK K
    refine wpList_one rfl fun K hK => ?_
    go_simp
    refine hK _ _ ?_
    clear hK K
    refine wpList_plain rfl fun K hK => ?_
    go_simp
    refine hK _ _ ?_
    clear hK K
    refine wpList_plain rfl fun K hK => ?_
    go_simp
    refine hK _ _ ?_
    clear hK K
    refine wpList_nil ?_
    go_wp2
    go_ret
    exact ⟨rfl, HJw6.out.trans HJc.out⟩
theorem askRuns_walk (w : World) (hE : Env w) : Calls Tryd.prog 3 #[] w fun e w' => e = .returned (.bool true) ∧ Jk w w' := runsA_ans (lib_a hE) w (Jk.refl w)
end Go.Proofs.YtjpffempmlfoeaaDoor
