/- The law AskKinds of chapter 11 answers true: its walk through the Go text, by the contracts of package ask. Conditions: what the statement itself says of the library's variables ('Env'). -/
import Derived.Test.YtjpffempmlfoeaaDoorRunsA
import Derived.Test.YtjpffempmlfoeaaDoorStartQ
import Derived.Test.YtjpffempmlfoeaaDoorHeld
namespace Go.Proofs.YtjpffempmlfoeaaDoor
open Go.RowKit M

theorem text_extK (l : Txt) (i j : Nat) : (⟨l.toArray⟩ : ByteArray).extract i j = ⟨((l.drop i).take (j - i)).toArray⟩ := by
  rw [Lib.extract_eq]
theorem tells_not0 {q : Qy} : ¬ TellsQ q 0 := fun h => by have := h.d1; omega

theorem run_cut2 (s : ByteArray) (l h : Int) (h0 : 0 ≤ l) (h1 : l ≤ h) (h2 : h ≤ s.size) (w : World) : (Instr.slice 9 (.string s) (some (.int .i64 l)) (some (.int .i64 h)) none).run Tryd.prog w = .ok (.string (s.extract l.toNat h.toNat)) w := by
  have eh : (h.toNat : Int) = h := Int.toNat_of_nonneg (by omega)
  simp [Instr.slice, run_underlying Tryd.underlying9, Instr.sliceBounds, run_sliceBound, *, (by omega : 0 ≤ h)]
set_option maxRecDepth 100000 in
set_option maxHeartbeats 12800000 in
theorem askKinds_walk0 (f : Fo) (a : Ak) (by' : Int) (w : World) (hL : LibA w) (hf : f.ok w) (ha : a.ok w) (hb : FitI by') : Calls Tryd.prog 7 #[forestV f, askV a, .int .i64 by'] w fun e w' => e = .returned (.bool true) ∧ Jk w w' := by
  have J := rules8
  have HL := hid hL
  have HBf := hid hb
  clear hL hb
  obtain ⟨wv0, hwv0⟩ : ∃ z, w.alloc (.cells #[.int .i64 f.d, .int .i64 f.k, .slice f.ba f.bn f.bc, .slice f.sa f.sn f.sc] 35) = z := ⟨_, rfl⟩
  have hswv0 : wv0.heap.size = w.heap.size + 1 := by rw [← hwv0]; simp
  have HJwv0 : Hid (Jk w wv0) := hwv0 ▸ (Jk.refl w).alloc _
  have HB0wv0 : Hid (FoIn wv0 w.heap.size f) := hwv0 ▸ FoIn.laid w f _
  obtain ⟨w0, hw0⟩ : ∃ z, wv0.alloc (.cells #[.int .i64 a.kd, .int .i64 a.cl, .int .i64 a.lo, .int .i64 a.sz, .int .i64 a.f, .int .i64 a.bu, .bool a.fa, .slice a.sa a.sn a.sc] 37) = z := ⟨_, rfl⟩
  have hsw0 : w0.heap.size = w.heap.size + 1 + 1 := by rw [← hw0]; simp [hswv0]
  have HJw0 : Hid (Jk w w0) := HJwv0.out.trans (hw0 ▸ (Jk.refl wv0).alloc _)
  have HB1w0 : Hid (AkIn w0 (w.heap.size + 1) a) := hswv0 ▸ hw0 ▸ AkIn.laid wv0 a _
  have HB0w0 : Hid (FoIn w0 w.heap.size f) := HB0wv0.out.jk (hw0 ▸ (Jk.refl wv0).alloc _)
  clear HB0wv0
  have HM : Hid (Calls Tryd.prog 10 #[forestV f] w0 fun e w' => GotM w0 e w') := model_any f w0 (hf.jk HJw0.out)
  have ha0 := hid (ha.jk HJw0.out)
  have HAk : Hid (∀ m : Md, RightM m → AnsW w0 11 #[askV a, modelV m] (queryV (queryI a m.d m.k))) := fun m hr => ask_ans ha0.out hr.d1 hr.d4 hr.k1 hr.k3
  obtain ⟨fi0, fi1, fi2, fi3, fi4⟩ := HB0w0.out
  clear hf ha ha0
  obtain ⟨d, k, ba, bn, bc, bz, sa, sn, sc, ss⟩ := f
  simp only [forestV] at *
  go_enter Tryd.func7, Tryd.ntmps7
  go_upto_region 1 with fail
  go_cut [7] (fun v wc => ∃ w1 h m, v = .pointer (some ⟨h, 0, none⟩) ∧ Made w0 w1 wc h m)
  case first =>
    go_wp2_with (first | (go_at_call 10; refine HM.out.mono ?_; rintro e w1 ⟨m, rfl, hr, h3, h4, hfr, hj⟩; have HMd := hid (GotM.made hr h3 h4 hfr hj); clear hr h3 h4 hfr hj))
    go_meet
    case rel => exact ⟨w1, _, m, rfl, HMd.out⟩
  case rest =>
  obtain ⟨w1, h, m, rfl, hMd⟩ := hcut
  obtain ⟨w2, rfl⟩ : ∃ z, z = wc := ⟨_, rfl⟩
  have HMd := hid hMd
  have HJ2 : Hid (Jk w0 w2) := hMd.2.2.2.2.2.2.1.trans hMd.2.2.2.2.2.2.2
  clear hMd fi0 fi1 fi2 fi3 fi4
  go_upto_region 2 with fail
  go_cut [8] (fun v wc => ∃ g q, v = .pointer (some ⟨g, 0, none⟩) ∧ q = queryI a m.d m.k ∧ MadeQ w0 w1 wc h g m q)
  case first =>
    refine wp_region_lit ?_
    obtain ⟨al, a0, a1, a2, a3, a4, a5, a6, a7⟩ := HB1w0.out.jk HJ2.out
    refine wpList_one rfl fun K hK => ?_
    go_simp
    refine hK _ _ ?_
    clear hK K
    refine listw_loadM rfl _ rfl HMd.out.1 rfl ?_
    simp only [Act.put, List.setIfInBounds_toArray, List.set_cons_succ, List.set_cons_zero]
    refine wpList_one rfl fun K hK => ?_
    go_simp
    go_at_call 11
    refine ((HAk.out m HMd.out.2.2.1).on _ HJ2.out).mono ?_
    rintro e w3 ⟨rfl, hj3⟩
    have HJ3 := hid hj3
    clear hj3
    go_simp
    refine hK _ _ ?_
    clear hK K
    go_wp2
    go_meet
    case rel => exact ⟨_, queryI a m.d m.k, rfl, rfl, HMd.out.q (HJ3.out.trans ((Jk.refl _).alloc _)) (QyB.laid w3 (queryI a m.d m.k)) HJ3.out.below.size⟩
  case rest =>
  obtain ⟨g, q, rfl, hq, hMq⟩ := hcut
  obtain ⟨w4, rfl⟩ : ∃ z, z = wc := ⟨_, rfl⟩
  have HMq := hid hMq
  have hrq : RightQ m q := hq ▸ query_right a hMq.mr
  have HRq := hid hrq
  have hrr := hMq.mr
  have ht0 : TellsQ q m.d := hrq.tells
  have ho : q.ok := hq ▸ queryI_ok a hMq.mr
  have HL4 := hid (HL.out.at ((HJw0.out.trans hMq.j0).trans hMq.j1))
  have HJw4 := hid ((HJw0.out.trans hMq.j0).trans hMq.j1)
  clear hrr
  obtain ⟨md, mk, mb0, mb1, mb2, ma, mn, mc, mts⟩ := m
  have ht : TellsQ q md := ht0
  have h1d := ht.d1
  have h4d := ht.d4
  obtain ⟨D, hD⟩ := Int.eq_ofNat_of_zero_le (show 0 ≤ md by omega)
  subst hD
  -- the numbers of another query
  have AQ := within_q (n := by') (lo := 0) (hi := 99) rfl HBf.out (by omega) (by omega) (by omega)
  have hNb := within_bd by' 0 99 (by omega)
  obtain ⟨N, hN⟩ : ∃ R, withinI by' 0 99 = R := ⟨_, rfl⟩
  rw [hN] at AQ hNb
  have HAQ := hid AQ
  have HP := hid (print_ans HL4.out q ho (D : Int))
  have HP0 := hid (print_ans HL4.out q ho 0)
  rw [printQ_no tells_not0] at HP0
  have HP5 := hid (print_ans HL4.out q ho (5 + N))
  rw [printQ_no fun h => by have := h.d4; omega] at HP5
  have HPr := hid (print_ans HL4.out { q with kd := 4 + N } ⟨⟨by simp only; omega, by simp only; omega⟩, ho.cl, ho.rg, ho.lo, ho.hi, ho.f, ho.bu⟩ (D : Int))
  rw [printQ_no fun h => by have h' := h.kd; unfold kindZ at h'; simp only at h'; omega] at HPr
  have HPt := hid (print_ans HL4.out { q with cl := -1 - N } ⟨ho.kd, ⟨by simp only; omega, by simp only; omega⟩, ho.rg, ho.lo, ho.hi, ho.f, ho.bu⟩ (D : Int))
  rw [printQ_no fun h => by have h' := h.cl; unfold smallN at h'; simp only at h'; omega] at HPt
  have HRn := hid (runsA_ans HL4.out)
  -- the text
  have hln : (printQ q (D : Int)).length ≤ 600 := by rw [printQ_yes ht]; simp only [Int.toNat_natCast]; exact ask_len ht ho
  have hds : dots (printQ q (D : Int)) = D := by rw [printQ_yes ht]; simp only [Int.toNat_natCast]; exact dots_ask ht
  obtain ⟨rest, hrest, hrne⟩ : ∃ r, printQ q (D : Int) = wordK q ++ r ∧ r ≠ [] := by rw [printQ_yes ht]; simp only [Int.toNat_natCast]; exact head_word ht
  obtain ⟨S, hS⟩ : ∃ z, printQ q (D : Int) = z := ⟨_, rfl⟩
  rw [hS] at HP hln hds hrest
  obtain ⟨W, hW⟩ : ∃ z, wordK q = z := ⟨_, rfl⟩
  have HWk := hid hW
  rw [hW] at hrest
  have hWS : W.length < S.length := by rw [hrest]; have := List.length_pos_iff.2 hrne; simp; omega
  have hWt : S.take W.length = W := by rw [hrest]; simp
  have hkz := ht.kd
  have HKz : Hid (q.kd = 1 ∨ q.kd = 2 ∨ q.kd = 3) := by
    rcases hkz with h | h | h
    · exact .inl h.1
    · exact .inr (.inl h.1)
    · exact .inr (.inr h.1)
  have HMq4 := hid hMq
  have HDs : Hid (∀ n, S.length = n + 1 → dotsTo S n = D) := fun n hn => (dots_all hn).trans hds
  have HLn := hid hln
  have HWS := hid hWS
  have HWt := hid hWt
  clear hq hMq hrq ht ht0 ho AQ hN hS hrest hrne hds hW hkz HMd HAk HRq HM HL h1d h4d hln hWS hWt
  go_upto_region 3 with fail
  have HJc := hid (Jk.refl w4)
  obtain ⟨ml, m0, m1, m2, m3, m4, m5⟩ := HMq4.out.mb.in
  simp only at m0
  refine wp_region_lit ?_
  refine listp_loadQ rfl _ rfl (HMq4.out.qb.jk HJc.out) rfl ?_
  simp only [Act.put, List.setIfInBounds_toArray, List.set_cons_succ, List.set_cons_zero]
  refine wpList_plain rfl fun K hK => ?_
  go_simp
  refine hK _ _ ?_
  clear hK K
  refine wpList_plain rfl fun K hK => ?_
  go_simp
  refine hK _ _ ?_
  clear hK K
  refine wpList_plain rfl fun K hK => ?_
  go_simp
  go_at_call 9
  refine (HP.out _ HJc.out).mono ?_
  rintro e z0 ⟨rfl, hj⟩
  have HJn := hid (HJc.out.trans hj)
  clear hj HJc
  have HJc := HJn
  clear HJn
  go_simp
  refine hK _ _ ?_
  clear hK K
  refine wpList_plain rfl fun K hK => ?_
  go_simp
  refine hK _ _ ?_
  clear hK K
  refine wpList_nil ?_
  clear m0 m1 m2 m3 m4 m5 ml
  have HM5 := hid (HMq4.out.mb.jk HJc.out)
  have HQ5 := hid (HMq4.out.qb.jk HJc.out)
  have HJ5 := hid HJc.out
  clear HJc HMq4 HP
  obtain ⟨w5, rfl⟩ : ∃ z, z = z0 := ⟨_, rfl⟩
  obtain ⟨kd, cl, ⟨⟨ra, rb⟩, ⟨rc, rd⟩, ⟨re, rf⟩, ⟨rg, rh⟩, ⟨ri, rj⟩⟩, lo, hi, ff, fa, bu⟩ := q
  simp only [queryV] at HP0 HP5 HPr HPt
  simp only at HKz
  go_upto_region 4 with fail
  go_cut [10] (fun v wc => v = .string ⟨#[114, 97, 110, 103, 101, 32]⟩ ∧ Hid (w5 = wc))
  case first =>
    go_wp2
    go_meet
    case rel => exact ⟨rfl, hid rfl⟩
  case rest =>
  obtain ⟨rfl, hw5⟩ := hcut
  obtain rfl := hw5.out
  clear hw5
  go_step
  go_step
  go_cut [10] (fun v wc => v = .string ⟨W.toArray⟩ ∧ Hid (w5 = wc))
  case first =>
    as_aux_lemma =>
    have hWk := HWk.out
    obtain ⟨q0, q1, q2, q3, q4, q5, q6, q7, q8, q9, q10, q11, q12, q13, q14, q15, q16⟩ := HQ5.out.in
    have ql := HQ5.out.lt
    simp only at q0 q15
    clear q1 q2 q3 q4 q5 q6 q7 q8 q9 q10 q11 q12 q13 q14 q16
    rcases HKz.out with rfl | rfl | rfl
    · have hw : W = [114, 97, 110, 103, 101, 32] := hWk.symm
      clear hWk
      subst hw
      go_wp2
      go_meet
      case rel => exact ⟨rfl, hid rfl⟩
    · have hw : W = [98, 101, 115, 116, 32] := hWk.symm
      clear hWk
      subst hw
      go_wp2
      go_meet
      case rel => exact ⟨rfl, hid rfl⟩
    · cases fa
      · have hw : W = [114, 105, 115, 101, 115, 32] := hWk.symm
        clear hWk
        subst hw
        go_wp2
        go_meet
        case rel => exact ⟨rfl, hid rfl⟩
      · have hw : W = [102, 97, 108, 108, 115, 32] := hWk.symm
        clear hWk
        subst hw
        go_wp2
        go_meet
        case rel => exact ⟨rfl, hid rfl⟩
  case rest =>
  obtain ⟨rfl, hw5⟩ := hcut
  obtain rfl := hw5.out
  clear hw5 HWk HKz
  -- the double points are counted
  obtain ⟨s, hs⟩ : ∃ s : ByteArray, s = ⟨S.toArray⟩ := ⟨_, rfl⟩
  have hsz : s.size = S.length := by rw [hs]; exact text_size S
  have HExt : Hid (∀ i j, s.extract i j = ⟨((S.drop i).take (j - i)).toArray⟩) := fun i j => by rw [hs]; exact text_extK S i j
  have HZs := hid hs
  obtain ⟨n, hn⟩ : ∃ n, S.length = n + 1 := ⟨S.length - 1, by have := HWS.out; omega⟩
  have HDn := hid (HDs.out n hn)
  have hn6 : n ≤ 600 := by have := HLn.out; omega
  simp only [tx]
  rw [← hs]
  have HSn := hid hn
  have hsz2 : s.size = n + 1 := hsz.trans hn
  clear hs hsz HDs hn
  go_upto_region 13 with fail
  go_loopg [11, 12] n (fun r sp i wr => ∃ j : Nat, i = .int .i64 (j : Int) ∧ j + r = n ∧ sp = .int .i64 ((dotsTo S j : Nat) : Int) ∧ Hid (dotsTo S j ≤ j) ∧ Hid (Jk w5 wr))
  case atStart => exact ⟨0, rfl, by omega, rfl, hid (Nat.le_refl _), hid (Jk.refl w5)⟩
  case round =>
    obtain ⟨j, rfl, hj, rfl, HDj, HJr⟩ := hrel
    have hjw : IntKind.i64.wrap ((j : Int) + 1) = (j : Int) + 1 := i64_in (by omega) (by omega)
    by_cases hk : gk = 0
    · subst hk
      obtain rfl : j = n := by omega
      have hlt : ¬ (j : Int) + 1 < ((j + 1 : Nat) : Int) := by omega
      rw [HDn.out]
      have HM6 := hid (HM5.out.jk HJr.out)
      have HQ6 := hid (HQ5.out.jk HJr.out)
      have HJw6 := hid ((HJw4.out.trans HJ5.out).trans HJr.out)
      have HJ46 := hid (HJ5.out.trans HJr.out)
      obtain ⟨w6, rfl⟩ : ∃ z, z = wr := ⟨_, rfl⟩
      clear HM5 HQ5 HDj HDn HJr
      -- two other queries
      go_upto_region 18 with (go_at_call 12; refine (HAQ.out.on _).mono ?_; rintro e w' ⟨rfl, hw⟩; obtain rfl := hw.symm)
      clear hlt hjw hn6 HLn
      refine wp_region_lit ?_
      refine list_loadQ rfl _ rfl HQ6.out rfl ?_
      have hw4N : IntKind.i64.wrap (4 + N) = 4 + N := i64_in (by omega) (by omega)
      have hw1N : IntKind.i64.wrap (-1 - N) = -1 - N := i64_in (by omega) (by omega)
      have hw5N : IntKind.i64.wrap (5 + N) = 5 + N := i64_in (by omega) (by omega)
      go_upto_region 19 with fail
      have HR7 : Hid (QyB (w6.alloc (.cells #[.int .i64 kd, .int .i64 cl, .int .i64 ra, .int .i64 rb, .int .i64 rc, .int .i64 rd, .int .i64 re, .int .i64 rf, .int .i64 rg, .int .i64 rh, .int .i64 ri, .int .i64 rj, .int .i64 lo, .int .i64 hi, .int .i64 ff, .bool fa, .int .i64 bu] 27)) w6.heap.size ⟨kd, cl, ⟨⟨ra, rb⟩, ⟨rc, rd⟩, ⟨re, rf⟩, ⟨rg, rh⟩, ⟨ri, rj⟩⟩, lo, hi, ff, fa, bu⟩) := QyB.laid w6 ⟨kd, cl, ⟨⟨ra, rb⟩, ⟨rc, rd⟩, ⟨re, rf⟩, ⟨rg, rh⟩, ⟨ri, rj⟩⟩, lo, hi, ff, fa, bu⟩
      have HJ7 : Hid (Jk w6 (w6.alloc (.cells #[.int .i64 kd, .int .i64 cl, .int .i64 ra, .int .i64 rb, .int .i64 rc, .int .i64 rd, .int .i64 re, .int .i64 rf, .int .i64 rg, .int .i64 rh, .int .i64 ri, .int .i64 rj, .int .i64 lo, .int .i64 hi, .int .i64 ff, .bool fa, .int .i64 bu] 27))) := (Jk.refl w6).alloc _
      generalize hw7 : w6.alloc (.cells #[.int .i64 kd, .int .i64 cl, .int .i64 ra, .int .i64 rb, .int .i64 rc, .int .i64 rd, .int .i64 re, .int .i64 rf, .int .i64 rg, .int .i64 rh, .int .i64 ri, .int .i64 rj, .int .i64 lo, .int .i64 hi, .int .i64 ff, .bool fa, .int .i64 bu] 27) = w7 at HR7 HJ7 ⊢
      clear hw7
      obtain ⟨x0, x1, x2, x3, x4, x5, x6, x7, x8, x9, x10, x11, x12, x13, x14, x15, x16⟩ := HR7.out.in
      have xl := HR7.out.lt
      have xf := HR7.out.frozen
      simp only at x0
      clear x1 x2 x3 x4 x5 x6 x7 x8 x9 x10 x11 x12 x13 x14 x15 x16
      go_upto_region 20 with fail
      have HR8 := hid (HR7.out.setKd (4 + N))
      have HJ8 := hid ((HJ7.out).grown (grown_set w7 w6.heap.size 0 (.int .i64 (4 + N))) (fun k hk => by cases hk; exact Nat.le_refl _))
      generalize w7.setCell ⟨w6.heap.size, 0, none⟩ (.int .i64 (4 + N)) = w8 at HR8 HJ8 ⊢
      simp only at HR8
      clear x0 xl xf HR7 HJ7
      refine wp_region_lit ?_
      refine list_loadQ rfl _ rfl (HQ6.out.jk HJ8.out) rfl ?_
      go_upto_region 21 with fail
      have HT9 : Hid (QyB (w8.alloc (.cells #[.int .i64 kd, .int .i64 cl, .int .i64 ra, .int .i64 rb, .int .i64 rc, .int .i64 rd, .int .i64 re, .int .i64 rf, .int .i64 rg, .int .i64 rh, .int .i64 ri, .int .i64 rj, .int .i64 lo, .int .i64 hi, .int .i64 ff, .bool fa, .int .i64 bu] 27)) w8.heap.size ⟨kd, cl, ⟨⟨ra, rb⟩, ⟨rc, rd⟩, ⟨re, rf⟩, ⟨rg, rh⟩, ⟨ri, rj⟩⟩, lo, hi, ff, fa, bu⟩) := QyB.laid w8 ⟨kd, cl, ⟨⟨ra, rb⟩, ⟨rc, rd⟩, ⟨re, rf⟩, ⟨rg, rh⟩, ⟨ri, rj⟩⟩, lo, hi, ff, fa, bu⟩
      have HJ9 : Hid (Jk w8 (w8.alloc (.cells #[.int .i64 kd, .int .i64 cl, .int .i64 ra, .int .i64 rb, .int .i64 rc, .int .i64 rd, .int .i64 re, .int .i64 rf, .int .i64 rg, .int .i64 rh, .int .i64 ri, .int .i64 rj, .int .i64 lo, .int .i64 hi, .int .i64 ff, .bool fa, .int .i64 bu] 27))) := (Jk.refl w8).alloc _
      generalize hw9 : w8.alloc (.cells #[.int .i64 kd, .int .i64 cl, .int .i64 ra, .int .i64 rb, .int .i64 rc, .int .i64 rd, .int .i64 re, .int .i64 rf, .int .i64 rg, .int .i64 rh, .int .i64 ri, .int .i64 rj, .int .i64 lo, .int .i64 hi, .int .i64 ff, .bool fa, .int .i64 bu] 27) = w9 at HT9 HJ9 ⊢
      clear hw9
      obtain ⟨x0, x1, x2, x3, x4, x5, x6, x7, x8, x9, x10, x11, x12, x13, x14, x15, x16⟩ := HT9.out.in
      have xl := HT9.out.lt
      have xf := HT9.out.frozen
      simp only at x1
      clear x0 x2 x3 x4 x5 x6 x7 x8 x9 x10 x11 x12 x13 x14 x15 x16
      go_upto_region 22 with fail
      have HT10 := hid (HT9.out.setCl (-1 - N))
      have HJ10 := hid ((HJ9.out).grown (grown_set w9 w8.heap.size 1 (.int .i64 (-1 - N))) (fun k hk => by cases hk; exact Nat.le_refl _))
      generalize w9.setCell ⟨w8.heap.size, 1, none⟩ (.int .i64 (-1 - N)) = wa at HT10 HJ10 ⊢
      simp only at HT10
      clear x1 xl xf HT9 HJ9
      have HM10 := hid ((HM6.out.jk HJ8.out).jk HJ10.out)
      have HQ10 := hid ((HQ6.out.jk HJ8.out).jk HJ10.out)
      have HR10 := hid (HR8.out.jk HJ10.out)
      have HJw10 := hid ((HJw6.out.trans HJ8.out).trans HJ10.out)
      have HJ410 := hid ((HJ46.out.trans HJ8.out).trans HJ10.out)
      clear HM6 HQ6 HR8 HJw6 HJ46 HJ8 HJ10
      obtain ⟨ml, m0, m1, m2, m3, m4, m5⟩ := HM10.out.in
      simp only at m0
      clear m1 m2 m3 m4 m5
      have hWS := HWS.out
      have hg1 : (W.length : Int) < ((j + 1 : Nat) : Int) := by rw [HSn.out] at hWS; omega
      have hg2 := decide_eq_true hg1
      have hg3 : (0 : Int) ≤ (W.length : Int) := by omega
      have hg4 : (W.length : Int) ≤ ((j + 1 : Nat) : Int) := by omega
      have hg5 : W.length < j + 1 := by omega
      have hg6 := decide_eq_true hg5
      have hg7 : W.length ≤ j + 1 := by omega
      have hg8 : (W.length : Int) < (j : Int) + 1 := by omega
      have hg9 := decide_eq_true hg8
      have hga : (W.length : Int) ≤ (j : Int) + 1 := by omega
      have he0 : s.extract 0 W.length = ⟨W.toArray⟩ := by rw [HExt.out]; simp [HWt.out]
      have hWW : (W == W) = true := by simp
      have hDD : ((D : Int) == (D : Int)) = true := by simp
      clear HExt HZs HWS HWt HSn hWS
      have HJc := hid (Jk.refl wa)
      refine wp_region_lit ?_
      refine wpList_plain rfl fun K hK => ?_
      go_simp
      refine hK _ _ ?_
      clear hK K
      refine wpList_plain rfl fun K hK => ?_
      go_simp
      refine hK _ _ ?_
      clear hK K
      refine wpList_plain rfl fun K hK => ?_
      go_simp
      refine hK _ _ ?_
      clear hK K
      refine wpList_plain rfl fun K hK => ?_
      go_simp
      refine hK _ _ ?_
      clear hK K
      refine wpList_plain rfl fun K hK => ?_
      go_simp
      refine hK _ _ ?_
      clear hK K
      refine wpList_plain rfl fun K hK => ?_
      go_simp
      refine hK _ _ ?_
      clear hK K
      refine wpList_one rfl fun K hK => ?_
      go_simp
      refine hK _ _ ?_
      clear hK K
      refine wpList_one rfl fun K hK => ?_
      go_simp
      refine hK _ _ ?_
      clear hK K
      refine wpList_one rfl fun K hK => ?_
      go_simp
      refine hK _ _ ?_
      clear hK K
      refine wpList_one rfl fun K hK => ?_
      go_simp
      refine hK _ _ ?_
      clear hK K
      refine wpList_one rfl fun K hK => ?_
      go_simp
      refine hK _ _ ?_
      clear hK K
      refine wpList_one rfl fun K hK => ?_
      go_simp
      refine hK _ _ ?_
      clear hK K
      refine wpList_plain rfl fun K hK => ?_
      go_simp
      refine hK _ _ ?_
      clear hK K
      refine wpList_plain rfl fun K hK => ?_
      go_simp
      refine hK _ _ ?_
      clear hK K
      refine wpList_one rfl fun K hK => ?_
      go_simp
      refine hK _ _ ?_
      clear hK K
      refine wpList_one rfl fun K hK => ?_
      go_simp
      refine hK _ _ ?_
      clear hK K
      refine wpList_one rfl fun K hK => ?_
      go_simp
      refine hK _ _ ?_
      clear hK K
      refine wpList_one rfl fun K hK => ?_
      go_simp
      refine hK _ _ ?_
      clear hK K
      refine wpList_plain rfl fun K hK => ?_
      go_simp
      refine hK _ _ ?_
      clear hK K
      refine wpList_plain rfl fun K hK => ?_
      go_simp
      refine hK _ _ ?_
      clear hK K
      refine listw_loadQ rfl _ rfl (HQ10.out.jk HJc.out) rfl ?_
      simp only [Act.put, List.setIfInBounds_toArray, List.set_cons_succ, List.set_cons_zero]
      refine wpList_one rfl fun K hK => ?_
      go_simp
      go_at_call 9
      refine (HP0.out _ (HJ410.out.trans HJc.out)).mono ?_
      rintro e z0 ⟨rfl, hj⟩
      have HJn := hid (HJc.out.trans hj)
      clear hj HJc
      have HJc := HJn
      clear HJn
      go_simp
      refine hK _ _ ?_
      clear hK K
      refine wpList_one rfl fun K hK => ?_
      go_simp
      refine hK _ _ ?_
      clear hK K
      refine wpList_plain rfl fun K hK => ?_
      go_simp
      refine hK _ _ ?_
      clear hK K
      refine wpList_plain rfl fun K hK => ?_
      go_simp
      refine hK _ _ ?_
      clear hK K
      refine listw_loadQ rfl _ rfl (HQ10.out.jk HJc.out) rfl ?_
      simp only [Act.put, List.setIfInBounds_toArray, List.set_cons_succ, List.set_cons_zero]
      refine wpList_one rfl fun K hK => ?_
      go_simp
      refine hK _ _ ?_
      clear hK K
      refine wpList_one rfl fun K hK => ?_
      go_simp
      refine hK _ _ ?_
      clear hK K
      refine wpList_one rfl fun K hK => ?_
      go_simp
      go_at_call 9
      refine (HP5.out _ (HJ410.out.trans HJc.out)).mono ?_
      rintro e z1 ⟨rfl, hj⟩
      have HJn := hid (HJc.out.trans hj)
      clear hj HJc
      have HJc := HJn
      clear HJn
      go_simp
      refine hK _ _ ?_
      clear hK K
      refine wpList_one rfl fun K hK => ?_
      go_simp
      refine hK _ _ ?_
      clear hK K
      refine wpList_plain rfl fun K hK => ?_
      go_simp
      refine hK _ _ ?_
      clear hK K
      refine wpList_plain rfl fun K hK => ?_
      go_simp
      refine hK _ _ ?_
      clear hK K
      refine listw_loadQ rfl _ rfl (HR10.out.jk HJc.out) rfl ?_
      simp only [Act.put, List.setIfInBounds_toArray, List.set_cons_succ, List.set_cons_zero]
      refine wpList_one rfl fun K hK => ?_
      go_simp
      refine hK _ _ ?_
      clear hK K
      obtain ⟨ml, m0, m1, m2, m3, m4, m5⟩ := (HM10.out.jk HJc.out).in
      simp only at m0
      clear m1 m2 m3 m4 m5
      refine wpList_one rfl fun K hK => ?_
      go_simp
      refine hK _ _ ?_
      clear hK K
      refine wpList_one rfl fun K hK => ?_
      go_simp
      go_at_call 9
      refine (HPr.out _ (HJ410.out.trans HJc.out)).mono ?_
      rintro e z2 ⟨rfl, hj⟩
      have HJn := hid (HJc.out.trans hj)
      clear hj HJc
      have HJc := HJn
      clear HJn
      go_simp
      refine hK _ _ ?_
      clear hK K
      refine wpList_one rfl fun K hK => ?_
      go_simp
      refine hK _ _ ?_
      clear hK K
      refine wpList_plain rfl fun K hK => ?_
      go_simp
      refine hK _ _ ?_
      clear hK K
      refine wpList_plain rfl fun K hK => ?_
      go_simp
      refine hK _ _ ?_
      clear hK K
      refine listw_loadQ rfl _ rfl (HT10.out.jk HJc.out) rfl ?_
      simp only [Act.put, List.setIfInBounds_toArray, List.set_cons_succ, List.set_cons_zero]
      refine wpList_one rfl fun K hK => ?_
      go_simp
      refine hK _ _ ?_
      clear hK K
      obtain ⟨ml, m0, m1, m2, m3, m4, m5⟩ := (HM10.out.jk HJc.out).in
      simp only at m0
      clear m1 m2 m3 m4 m5
      refine wpList_one rfl fun K hK => ?_
      go_simp
      refine hK _ _ ?_
      clear hK K
      refine wpList_one rfl fun K hK => ?_
      go_simp
      go_at_call 9
      refine (HPt.out _ (HJ410.out.trans HJc.out)).mono ?_
      rintro e z3 ⟨rfl, hj⟩
      have HJn := hid (HJc.out.trans hj)
      clear hj HJc
      have HJc := HJn
      clear HJn
      go_simp
      refine hK _ _ ?_
      clear hK K
      refine wpList_one rfl fun K hK => ?_
      go_simp
      refine hK _ _ ?_
      clear hK K
      refine wpList_plain rfl fun K hK => ?_
      go_simp
      refine hK _ _ ?_
      clear hK K
      refine wpList_plain rfl fun K hK => ?_
      go_simp
      refine hK _ _ ?_
      clear hK K
      refine wpList_one rfl fun K hK => ?_
      go_simp
      go_at_call 3
      refine (HRn.out _ (HJ410.out.trans HJc.out)).mono ?_
      rintro e z4 ⟨rfl, hj⟩
      have HJn := hid (HJc.out.trans hj)
      clear hj HJc
      have HJc := HJn
      clear HJn
      go_simp
      refine hK _ _ ?_
      clear hK K
      refine wpList_plain rfl fun K hK => ?_
      go_simp
      refine hK _ _ ?_
      clear hK K
      refine wpList_plain rfl fun K hK => ?_
      go_simp
      refine hK _ _ ?_
      clear hK K
      refine wpList_nil ?_
      go_wp2
      go_ret
      exact ⟨rfl, HJw10.out.trans HJc.out⟩
    · obtain ⟨r, rfl⟩ : ∃ r, gk = r + 1 := ⟨gk - 1, by omega⟩
      have hlt : (j : Int) + 1 < ((n + 1 : Nat) : Int) := by omega
      have hj2 : IntKind.i64.wrap ((j : Int) + 2) = (j : Int) + 2 := i64_in (by omega) (by omega)
      have he : s.extract j (j + 2) = ⟨((S.drop j).take 2).toArray⟩ := by rw [HExt.out]; simp
      have hDs : dotsTo S (j + 1) = dotsTo S j + (if (S.drop j).take 2 = [46, 46] then 1 else 0) := rfl
      obtain ⟨X, hX⟩ : ∃ z, (S.drop j).take 2 = z := ⟨_, rfl⟩
      rw [hX] at he hDs
      have hsl : ∀ z : World, (Instr.slice 9 (.string s) (some (.int .i64 (j : Int))) (some (.int .i64 ((j : Int) + 2))) none).run Tryd.prog z = .ok (.string ⟨X.toArray⟩) z := fun z => by
        rw [run_cut2 s (j : Int) ((j : Int) + 2) (by omega) (by omega) (by rw [hsz2]; omega), show ((j : Int)).toNat = j by omega, show ((j : Int) + 2).toNat = j + 2 by omega, he]
      clear he
      have HDn1 := hid hDs
      obtain ⟨dj, hdj⟩ : ∃ z, dotsTo S j = z := ⟨_, rfl⟩
      rw [hdj] at HDj HDn1
      simp only [hdj]
      have hdb := HDj.out
      have hjd : IntKind.i64.wrap ((dj : Int) + 1) = (dj : Int) + 1 := i64_in (by omega) (by omega)
      clear hX hdj hDs
      by_cases hp : X = [46, 46]
      · subst hp
        have HN1 : Hid (dotsTo S (j + 1) = dj + 1) := by show _ = _; rw [HDn1.out]; simp
        go_wp2
        go_roundg r
        case measure => omega
        case rel => exact ⟨j + 1, by go_num, by omega, by rw [HN1.out]; go_num, hid (by rw [HN1.out]; omega), HJr⟩
      · have hpb := beq_false_of_ne hp
        have HN1 : Hid (dotsTo S (j + 1) = dj) := by show _ = _; rw [HDn1.out, if_neg hp]; rfl
        go_wp2
        go_roundg r
        case measure => omega
        case rel => exact ⟨j + 1, by go_num, by omega, by rw [HN1.out], hid (by rw [HN1.out]; omega), HJr⟩
theorem askKinds_walk (f : Fo) (a : Ak) (b : Int) (w : World) (hf : f.ok w) (ha : a.ok w) (hb : (Lit.int .i64 b).wf = true) (hE : Env w) : Calls Tryd.prog 7 #[forestV f, askV a, .int .i64 b] w fun e w' => e = .returned (.bool true) ∧ Jk w w' :=
  askKinds_walk0 f a b w (lib_a hE) hf ha (bdi hb)
end Go.Proofs.YtjpffempmlfoeaaDoor
