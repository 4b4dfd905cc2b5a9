/- The law AskOnly of chapter 11 answers true: its walk through the Go text, by the contracts of package ask. Conditions: what the statement itself says of the library's variables ('Env'). -/
import Derived.Test.YtjpffempmlfoeaaDoorRunsA
import Derived.Test.YtjpffempmlfoeaaDoorStartQ
import Derived.Test.YtjpffempmlfoeaaDoorHeld
namespace Go.Proofs.YtjpffempmlfoeaaDoor
open Go.RowKit M

theorem text_ext (l : Txt) (i j : Nat) : (⟨l.toArray⟩ : ByteArray).extract i j = ⟨((l.drop i).take (j - i)).toArray⟩ := by
  rw [Lib.extract_eq]
theorem fit_of {a : Int} (h : (Lit.int .i64 a).wf = true) : FitI a := by
  simp [Lit.wf, IntKind.min, IntKind.max, IntKind.signed, IntKind.bits] at h
  exact ⟨by omega, by omega⟩
theorem text_cat (a b : Txt) : ((⟨a.toArray⟩ : ByteArray) ++ (⟨b.toArray⟩ : ByteArray)) = ⟨(a ++ b).toArray⟩ := by
  apply ByteArray.ext
  rw [ByteArray.data_append]
  simp

set_option maxRecDepth 100000 in
set_option maxHeartbeats 12800000 in
theorem askOnly_walk0 (f : Fo) (a : Ak) (U : Txt) (p x o : Int) (w : World) (hL : LibA w) (hf : f.ok w) (ha : a.ok w) (hU : U.length ≤ 9223372036854775807) (hp : FitI p) (hx : 0 ≤ x ∧ x < 256) (hq : FitI o) : Calls Tryd.prog 5 #[forestV f, askV a, tx U, .int .i64 p, .int .u8 x, .int .i64 o] w fun e w' => e = .returned (.bool true) ∧ Jk w w' := by
  have J := rules8
  have HX := hid hx
  have HQ := hid hq
  have HPf := hid hp
  have HL := hid hL
  have HUl := hid hU
  clear hx hq hp hL hU
  obtain ⟨wv0, hwv0⟩ : ∃ z, w.alloc (.cells #[.int .i64 f.d, .int .i64 f.k, .slice f.ba f.bn f.bc, .slice f.sa f.sn f.sc] 35) = z := ⟨_, rfl⟩
  have hswv0 : wv0.heap.size = w.heap.size + 1 := by rw [← hwv0]; simp
  have HJwv0 : Hid (Jk w wv0) := hwv0 ▸ (Jk.refl w).alloc _
  have HB0wv0 : Hid (FoIn wv0 w.heap.size f) := hwv0 ▸ FoIn.laid w f _
  obtain ⟨w0, hw0⟩ : ∃ z, wv0.alloc (.cells #[.int .i64 a.kd, .int .i64 a.cl, .int .i64 a.lo, .int .i64 a.sz, .int .i64 a.f, .int .i64 a.bu, .bool a.fa, .slice a.sa a.sn a.sc] 37) = z := ⟨_, rfl⟩
  have hsw0 : w0.heap.size = w.heap.size + 1 + 1 := by rw [← hw0]; simp [hswv0]
  have HJw0 : Hid (Jk w w0) := HJwv0.out.trans (hw0 ▸ (Jk.refl wv0).alloc _)
  have HB1w0 : Hid (AkIn w0 (w.heap.size + 1) a) := hswv0 ▸ hw0 ▸ AkIn.laid wv0 a _
  have HB0w0 : Hid (FoIn w0 w.heap.size f) := HB0wv0.out.jk (hw0 ▸ (Jk.refl wv0).alloc _)
  clear HB0wv0
  have HM : Hid (Calls Tryd.prog 10 #[forestV f] w0 fun e w' => GotM w0 e w') := model_any f w0 (hf.jk HJw0.out)
  have ha0 := hid (ha.jk HJw0.out)
  have HAk : Hid (∀ m : Md, RightM m → AnsW w0 11 #[askV a, modelV m] (queryV (queryI a m.d m.k))) := fun m hr => ask_ans ha0.out hr.d1 hr.d4 hr.k1 hr.k3
  obtain ⟨fi0, fi1, fi2, fi3, fi4⟩ := HB0w0.out
  clear hf ha ha0
  obtain ⟨d, k, ba, bn, bc, bz, sa, sn, sc, ss⟩ := f
  simp only [forestV] at *
  go_enter Tryd.func5, Tryd.ntmps5
  go_upto_region 1 with fail
  go_cut [13] (fun v wc => ∃ w1 h m, v = .pointer (some ⟨h, 0, none⟩) ∧ Made w0 w1 wc h m)
  case first =>
    go_wp2_with (first | (go_at_call 10; refine HM.out.mono ?_; rintro e w1 ⟨m, rfl, hr, h3, h4, hfr, hj⟩; have HMd := hid (GotM.made hr h3 h4 hfr hj); clear hr h3 h4 hfr hj))
    go_meet
    case rel => exact ⟨w1, _, m, rfl, HMd.out⟩
  case rest =>
  obtain ⟨w1, h, m, rfl, hMd⟩ := hcut
  obtain ⟨w2, rfl⟩ : ∃ z, z = wc := ⟨_, rfl⟩
  have HMd := hid hMd
  have HJ2 : Hid (Jk w0 w2) := hMd.2.2.2.2.2.2.1.trans hMd.2.2.2.2.2.2.2
  clear hMd fi0 fi1 fi2 fi3 fi4
  have hr := HMd.out.2.2.1
  obtain ⟨q, hq⟩ : ∃ z, queryI a m.d m.k = z := ⟨_, rfl⟩
  have ht : TellsQ q m.d := hq ▸ (query_right a hr).tells
  have ho : q.ok := hq ▸ queryI_ok a hr
  have HL2 := hid (HL.out.at (HJw0.out.trans HJ2.out))
  have HQc := hid ((HAk.out m hr).at HJ2.out)
  have HPc := hid (print_ans HL2.out q ho m.d)
  rw [hq] at HQc
  have hln : (printQ q m.d).length ≤ 600 := by
    rw [printQ_yes ht]
    have h1 := ht.d1
    obtain ⟨k, hk⟩ := Int.eq_ofNat_of_zero_le (show 0 ≤ m.d by omega)
    rw [hk] at ht ⊢
    exact ask_len ht ho
  have hpos : 0 < (printQ q m.d).length := List.length_pos_iff.2 (printQ_ne.2 ht)
  obtain ⟨S, hS⟩ : ∃ z, printQ q m.d = z := ⟨_, rfl⟩
  rw [hS] at HPc hln hpos
  obtain ⟨al, a0, a1, a2, a3, a4, a5, a6, a7⟩ := HB1w0.out.jk HJ2.out
  obtain ⟨ml, m0, m1, m2, m3, m4, m5⟩ := HMd.out.1.in
  clear hr hq ht ho hS HAk HM HL
  go_upto_region 2 with fail
  refine region_junk (by kernel_rfl) (by kernel_rfl) ?_
  repeat (go_big_quiet_step (first | (go_at_call 11; exact AnsW.junk (by with_reducible exact HQc.out) _) | (go_at_call 9; exact AnsW.junk (by with_reducible exact HPc.out) _) | exact rfl))
  refine wpQuiet_nil ?_
  rintro _ ⟨X, rfl⟩
  have HJ3 : Hid (Jk w2 (junk w2 X)) := ⟨X, rfl⟩
  generalize junk w2 X = w3 at HJ3 ⊢
  clear al a0 a1 a2 a3 a4 a5 a6 a7 ml m0 m1 m2 m3 m4 m5 HQc HPc HMd
  obtain ⟨s, hs⟩ : ∃ s : ByteArray, s = ⟨S.toArray⟩ := ⟨_, rfl⟩
  have hsz : s.size = S.length := by rw [hs]; exact text_size S
  have HExt : Hid (∀ i j, s.extract i j = ⟨((S.drop i).take (j - i)).toArray⟩) := fun i j => by rw [hs]; exact text_ext S i j
  have HZs := hid hs
  obtain ⟨tb, htb⟩ : ∃ tb : ByteArray, tb = ⟨U.toArray⟩ := ⟨_, rfl⟩
  have htz : tb.size = U.length := by rw [htb]; exact text_size U
  have hext : tb.extract 0 60 = ⟨(U.take 60).toArray⟩ := by rw [htb, text_ext]; simp
  have HEx : Hid (U.length ≤ 60 → tb.extract 0 U.length = ⟨(U.take 60).toArray⟩) := fun h => by rw [htb, text_ext, List.take_of_length_le (by simp), List.drop_zero, List.take_of_length_le h]
  simp only [tx]
  rw [← hs, ← htb]
  have AK := within_q (n := p) (lo := 0) (hi := (S.length : Int) - 1) rfl HPf.out (by omega) (by omega) (by omega)
  have hKb := within_bd p 0 ((S.length : Int) - 1) (by omega)
  obtain ⟨K', hK'⟩ : ∃ K, withinI p 0 ((S.length : Int) - 1) = K := ⟨_, rfl⟩
  rw [hK'] at AK hKb
  obtain ⟨K, rfl⟩ := Int.eq_ofNat_of_zero_le (show 0 ≤ K' by omega)
  have AQ := within_q (n := o) (lo := 0) (hi := 4) rfl HQ.out (by omega) (by omega) (by omega)
  have hQb := within_bd o 0 4 (by omega)
  obtain ⟨R, hR⟩ : ∃ R, withinI o 0 4 = R := ⟨_, rfl⟩
  rw [hR] at AQ hQb
  have HAK := hid AK
  have HAQ := hid AQ
  have hw1 : IntKind.i64.wrap ((S.length : Int) - 1) = (S.length : Int) - 1 := i64_in (by omega) (by omega)
  have hKl : K < S.length := by omega
  have h1 : ¬ (S.length : Int) < 1 := by omega
  clear AK AQ hK' hR hs hKb htb
  go_upto_region 8 with (first | (go_at_call 12; refine (AnsP.on (by with_reducible first | exact HAK.out | exact HAQ.out) _).mono ?_; rintro e w' ⟨rfl, hw⟩; obtain rfl := hw.symm))
  obtain ⟨c, hc⟩ : ∃ c : UInt8, x = (c.toNat : Int) := ⟨UInt8.ofNat x.toNat, by have := HX.out; rw [UInt8.toNat_ofNat']; omega⟩
  subst hc
  have HCv : Hid (∀ z : World, z.cell? ⟨w3.heap.size, 0, none⟩ = some (.int .u8 (c.toNat : Int)) → (convert 46 9 (.slice (some ⟨w3.heap.size, 0, none⟩) 1 1)).run Tryd.prog z = .ok (.string ⟨#[c]⟩) z) := fun z hz => by
    refine run_convert_bytes_back z 46 9 5 ⟨w3.heap.size, 0, none⟩ 1 [c] Tryd.underlying46 Tryd.underlying5 Tryd.underlying9 fun j hj => ?_
    obtain rfl : j = 0 := by simpa using hj
    exact hz
  have hw2 : IntKind.i64.wrap ((K : Int) + 1) = (K : Int) + 1 := i64_in (by omega) (by omega)
  have hK0 : (0 : Int) ≤ (K : Int) := by omega
  have hK1 : (K : Int) ≤ (S.length : Int) := by omega
  have hK2 : (K : Int) + 1 ≤ (S.length : Int) := by omega
  have hK3 : (0 : Int) ≤ (K : Int) + 1 := by omega
  have e1 : s.extract 0 K = ⟨(S.take K).toArray⟩ := by rw [HExt.out 0 K]; simp
  have e2 : s.extract (K + 1) S.length = ⟨(S.drop (K + 1)).toArray⟩ := by
    rw [HExt.out (K + 1) S.length, List.take_of_length_le (by simp)]
  have e3 : s.extract K S.length = ⟨(S.drop K).toArray⟩ := by
    rw [HExt.out K S.length, List.take_of_length_le (by simp)]
  obtain ⟨A, hA⟩ : ∃ A, S.take K = A := ⟨_, rfl⟩
  obtain ⟨B, hB⟩ : ∃ B, S.drop (K + 1) = B := ⟨_, rfl⟩
  obtain ⟨C, hC⟩ : ∃ C, S.drop K = C := ⟨_, rfl⟩
  have hAl : A.length ≤ 600 := by rw [← hA]; simp; omega
  have hBl : B.length ≤ 600 := by rw [← hB]; simp; omega
  have hCl : C.length ≤ 600 := by rw [← hC]; simp; omega
  rw [hA] at e1
  rw [hB] at e2
  rw [hC] at e3
  have hcv2 := HCv.out (w3.alloc (.cells #[.int .u8 (c.toNat : Int)] 5)).drew (World.cell?_alloc_at _ _ _ _ rfl)
  have hr : R = 0 ∨ R = 1 ∨ R = 2 ∨ R = 3 ∨ R = 4 := by omega
  have hlim : ¬ 9223372036854775807 < A.length + 1 := by omega
  have HJa : Hid (Jk w3 (w3.alloc (.cells #[.int .u8 (c.toNat : Int)] 5)).drew) := ((Jk.refl w3).alloc _).drew
  clear hA hB hC HCv
  rcases hr with rfl | rfl | rfl | rfl | rfl
  case' inl =>
    go_upto_region 9 with fail
    refine region_mid 11 [0, 1, 2, 3, 7, 8, 9, 10] [4, 5, 6] #[true, true, true, true, true, true, true, true, true, true, true, false, false] (by kernel_rfl) (by kernel_rfl) (fun _ _ d _ _ h => by cases d <;> exact h) ?_
    dsimp only [opersAt, List.getElem?_cons_zero, List.getElem?_cons_succ]
    repeat (go_big_quiet_step (first | exact rfl))
    refine wpQuiet_nil ?_
    intro K5 hK5
    go_simp
    refine hK5 _ _ HJa.out ?_
    clear hK5 K5
    intro K6 hK6
    go_simp
    refine hK6 _ _ HJa.out ?_
    clear hK6 K6
    intro K7 hK7
    go_simp
    refine hK7 _ _ HJa.out ?_
    clear hK7 K7
    dsimp only [wpAlone, opersAt, List.drop]
    go_upto_region 16 with fail
    rw [show ((⟨A.toArray⟩ : ByteArray) ++ ⟨#[c]⟩ ++ ⟨B.toArray⟩) = ⟨(A ++ [c] ++ B).toArray⟩ from by rw [show (⟨#[c]⟩ : ByteArray) = ⟨([c] : Txt).toArray⟩ from rfl, text_cat, text_cat]]
    obtain ⟨T, hT⟩ : ∃ T, A ++ [c] ++ B = T := ⟨_, rfl⟩
    have hTl : T.length ≤ 50000 := by rw [← hT]; simp; omega
    rw [hT]
    clear hT
    have HJT := hid HJa.out
    generalize (w3.alloc (.cells #[.int .u8 (c.toNat : Int)] 5)).drew = wT at HJT ⊢
  case' inr.inl =>
    go_upto_region 11 with fail
    refine region_mid 10 [0, 1, 2, 3, 7, 8, 9] [4, 5, 6] #[true, true, true, true, true, true, true, true, true, true, false, false] (by kernel_rfl) (by kernel_rfl) (fun _ _ d _ _ h => by cases d <;> exact h) ?_
    dsimp only [opersAt, List.getElem?_cons_zero, List.getElem?_cons_succ]
    repeat (go_big_quiet_step (first | exact rfl))
    refine wpQuiet_nil ?_
    intro K5 hK5
    go_simp
    refine hK5 _ _ HJa.out ?_
    clear hK5 K5
    intro K6 hK6
    go_simp
    refine hK6 _ _ HJa.out ?_
    clear hK6 K6
    intro K7 hK7
    go_simp
    refine hK7 _ _ HJa.out ?_
    clear hK7 K7
    dsimp only [wpAlone, opersAt, List.drop]
    go_upto_region 16 with fail
    rw [show ((⟨A.toArray⟩ : ByteArray) ++ ⟨#[c]⟩ ++ ⟨C.toArray⟩) = ⟨(A ++ [c] ++ C).toArray⟩ from by rw [show (⟨#[c]⟩ : ByteArray) = ⟨([c] : Txt).toArray⟩ from rfl, text_cat, text_cat]]
    obtain ⟨T, hT⟩ : ∃ T, A ++ [c] ++ C = T := ⟨_, rfl⟩
    have hTl : T.length ≤ 50000 := by rw [← hT]; simp; omega
    rw [hT]
    clear hT
    have HJT := hid HJa.out
    generalize (w3.alloc (.cells #[.int .u8 (c.toNat : Int)] 5)).drew = wT at HJT ⊢
  case' inr.inr.inl =>
    go_upto_region 13 with fail
    refine region_junk (by kernel_rfl) (by kernel_rfl) ?_
    repeat (go_big_quiet_step (first | exact rfl))
    refine wpQuiet_nil ?_
    rintro _ ⟨X, rfl⟩
    go_upto_region 16 with fail
    rw [text_cat A B]
    obtain ⟨T, hT⟩ : ∃ T, A ++ B = T := ⟨_, rfl⟩
    have hTl : T.length ≤ 50000 := by rw [← hT]; simp; omega
    rw [hT]
    clear hT
    have HJT : Hid (Jk w3 (junk w3 X)) := (Jk.refl w3).junk X
    generalize junk w3 X = wT at HJT ⊢
  case' inr.inr.inr.inl =>
    go_upto_region 16 with fail
    obtain ⟨T, hT⟩ : ∃ T, T = A := ⟨_, rfl⟩
    have hTl : T.length ≤ 50000 := by rw [hT]; omega
    rw [← hT]
    clear hT
    obtain ⟨wT, hwT⟩ : ∃ z, z = w3 := ⟨_, rfl⟩
    have HJT : Hid (Jk w3 wT) := by rw [hwT]; exact Jk.refl w3
    rw [← hwT]
    clear hwT
  case' inr.inr.inr.inr =>
    have hUl := HUl.out
    by_cases h80 : (60 : Int) < (U.length : Int)
    case' pos =>
      have hmin : min (U.length : Int) 60 = 60 := by omega
      have h80' : (60 : Int) ≤ (U.length : Int) := by omega
      go_upto_region 16 with fail
      obtain ⟨T, hT⟩ : ∃ T, U.take 60 = T := ⟨_, rfl⟩
      have hTl : T.length ≤ 50000 := by rw [← hT]; simp; omega
      rw [hT]
      clear hT hUl
      obtain ⟨wT, hwT⟩ : ∃ z, z = w3 := ⟨_, rfl⟩
      have HJT : Hid (Jk w3 wT) := by rw [hwT]; exact Jk.refl w3
      rw [← hwT]
      clear hwT
    case' neg =>
      have hmin : min (U.length : Int) 60 = (U.length : Int) := by omega
      have h00 : (0 : Int) ≤ (U.length : Int) := by omega
      have hex := HEx.out (by omega)
      go_upto_region 16 with fail
      obtain ⟨T, hT⟩ : ∃ T, U.take 60 = T := ⟨_, rfl⟩
      have hTl : T.length ≤ 50000 := by rw [← hT]; simp; omega
      rw [hT]
      clear hT hUl
      obtain ⟨wT, hwT⟩ : ∃ z, z = w3 := ⟨_, rfl⟩
      have HJT : Hid (Jk w3 wT) := by rw [hwT]; exact Jk.refl w3
      rw [← hwT]
      clear hwT
  all_goals
    as_aux_lemma =>
    have HJwT : Hid (Jk w2 wT) := HJ3.out.trans HJT.out
    have HPs := hid (parse_ans HL2.out T (by omega))
    have HPq := hid (parseF_is T)
    have HOq := hid (parseF_ok T)
    have HRn := hid (runsA_ans HL2.out)
    obtain ⟨⟨q3, d3, ok⟩, hq3⟩ : ∃ z, parseF T = z := ⟨_, rfl⟩
    rw [hq3] at HPs HPq HOq
    simp only [tx] at HPs HPq HOq
    obtain ⟨kd, cl, ⟨⟨ra, rb⟩, ⟨rc, rd⟩, ⟨re, rf⟩, ⟨rg, rh⟩, ⟨ri, rj⟩⟩, lo, hi, ff, fa, bu⟩ := q3
    simp only [queryV] at HPs
    clear hq3 e1 e2 e3 hcv2 hlim HJa hAl hBl hCl hK0 hK1 hK2 hK3 HExt HZs hKl h1 hw1 hw2 HAK HAQ hext HEx htz hsz HJ3 HJT hQb hln hpos
    go_upto_region 17 with (go_at_call 8; refine (HPs.out _ HJwT.out).mono ?_; rintro e w5 ⟨rfl, hj5⟩; have HJ5 := hid hj5; clear hj5)
    have HY6 : Hid (QyB (w5.alloc (.cells #[.int .i64 kd, .int .i64 cl, .int .i64 ra, .int .i64 rb, .int .i64 rc, .int .i64 rd, .int .i64 re, .int .i64 rf, .int .i64 rg, .int .i64 rh, .int .i64 ri, .int .i64 rj, .int .i64 lo, .int .i64 hi, .int .i64 ff, .bool fa, .int .i64 bu] 27)) w5.heap.size ⟨kd, cl, ⟨⟨ra, rb⟩, ⟨rc, rd⟩, ⟨re, rf⟩, ⟨rg, rh⟩, ⟨ri, rj⟩⟩, lo, hi, ff, fa, bu⟩) := QyB.laid w5 ⟨kd, cl, ⟨⟨ra, rb⟩, ⟨rc, rd⟩, ⟨re, rf⟩, ⟨rg, rh⟩, ⟨ri, rj⟩⟩, lo, hi, ff, fa, bu⟩
    have HJ6 : Hid (Jk w2 (w5.alloc (.cells #[.int .i64 kd, .int .i64 cl, .int .i64 ra, .int .i64 rb, .int .i64 rc, .int .i64 rd, .int .i64 re, .int .i64 rf, .int .i64 rg, .int .i64 rh, .int .i64 ri, .int .i64 rj, .int .i64 lo, .int .i64 hi, .int .i64 ff, .bool fa, .int .i64 bu] 27))) := (HJwT.out.trans HJ5.out).alloc _
    generalize hw6 : w5.alloc (.cells #[.int .i64 kd, .int .i64 cl, .int .i64 ra, .int .i64 rb, .int .i64 rc, .int .i64 rd, .int .i64 re, .int .i64 rf, .int .i64 rg, .int .i64 rh, .int .i64 ri, .int .i64 rj, .int .i64 lo, .int .i64 hi, .int .i64 ff, .bool fa, .int .i64 bu] 27) = w6 at HY6 HJ6 ⊢
    clear hw6 HPs HJ5 HJwT hTl
    have HJw := hid ((HJw0.out.trans HJ2.out).trans HJ6.out)
    have HJc := hid (Jk.refl w6)
    cases ok
    · obtain ⟨hz, hd0, -⟩ := HPq.out.2 rfl
      simp only [Qy.nil, Bx.nil, Sp.nil, Qy.mk.injEq, Bx.mk.injEq, Sp.mk.injEq] at hz
      obtain ⟨rfl, rfl, ⟨⟨rfl, rfl⟩, ⟨rfl, rfl⟩, ⟨rfl, rfl⟩, ⟨rfl, rfl⟩, ⟨rfl, rfl⟩⟩, rfl, rfl, rfl, rfl, rfl⟩ := hz
      subst hd0
      have E := eq_qy (a := ⟨0, 0, Bx.nil, 0, 0, 0, false, 0⟩) (b := ⟨0, 0, Bx.nil, 0, 0, 0, false, 0⟩) (r := true) (iff_of_true rfl rfl)
      simp only [queryV, Bx.nil, Sp.nil] at E
      clear HPq HOq
      go_upto_region 19 with fail
      refine wp_region_lit ?_
      refine listp_loadQ rfl _ rfl (HY6.out.jk HJc.out) rfl ?_
      simp only [Act.put, List.setIfInBounds_toArray, List.set_cons_succ, List.set_cons_zero]
      refine wpList_plain rfl fun K hK => ?_
      go_simp
      refine hK _ _ ?_
      clear hK K
      refine wpList_plain rfl fun K hK => ?_
      go_simp
      refine hK _ _ ?_
      clear hK K
      refine wpList_plain rfl fun K hK => ?_
      go_simp
      refine hK _ _ ?_
      clear hK K
      refine wpList_one rfl fun K hK => ?_
      go_simp
      refine hK _ _ ?_
      clear hK K
      refine wpList_one rfl fun K hK => ?_
      go_simp
      refine hK _ _ ?_
      clear hK K
      refine wpList_plain rfl fun K hK => ?_
      go_simp
      refine hK _ _ ?_
      clear hK K
      refine wpList_plain rfl fun K hK => ?_
      go_simp
      refine hK _ _ ?_
      clear hK K
      refine wpList_one rfl fun K hK => ?_
      go_simp
      go_at_call 3
      refine (HRn.out _ (HJ6.out.trans HJc.out)).mono ?_
      rintro e z0 ⟨rfl, hj⟩
      have HJn := hid (HJc.out.trans hj)
      clear hj HJc
      have HJc := HJn
      clear HJn
      go_simp
      refine hK _ _ ?_
      clear hK K
      refine wpList_plain rfl fun K hK => ?_
      go_simp
      refine hK _ _ ?_
      clear hK K
      refine wpList_plain rfl fun K hK => ?_
      go_simp
      refine hK _ _ ?_
      clear hK K
      refine wpList_nil ?_
      go_wp2
      go_ret
      exact ⟨rfl, HJw.out.trans HJc.out⟩
    · obtain ⟨ht, hp, -⟩ := HPq.out.1 rfl
      have h1 : (1 : Int) ≤ d3 := ht.d1
      have h4 : d3 ≤ (4 : Int) := ht.d4
      have e1 := decide_eq_true h1
      have e4 := decide_eq_true h4
      have HPr := hid (print_ans HL2.out ⟨kd, cl, ⟨⟨ra, rb⟩, ⟨rc, rd⟩, ⟨re, rf⟩, ⟨rg, rh⟩, ⟨ri, rj⟩⟩, lo, hi, ff, fa, bu⟩ HOq.out d3)
      rw [hp] at HPr
      simp only [queryV] at HPr
      have htt : (T == T) = true := by simp
      clear HPq HOq ht hp
      go_upto_region 18 with fail
      refine wp_region_lit ?_
      refine listp_loadQ rfl _ rfl (HY6.out.jk HJc.out) rfl ?_
      simp only [Act.put, List.setIfInBounds_toArray, List.set_cons_succ, List.set_cons_zero]
      refine wpList_plain rfl fun K hK => ?_
      go_simp
      refine hK _ _ ?_
      clear hK K
      refine wpList_plain rfl fun K hK => ?_
      go_simp
      go_at_call 9
      refine (HPr.out _ (HJ6.out.trans HJc.out)).mono ?_
      rintro e z0 ⟨rfl, hj⟩
      have HJn := hid (HJc.out.trans hj)
      clear hj HJc
      have HJc := HJn
      clear HJn
      go_simp
      refine hK _ _ ?_
      clear hK K
      refine wpList_plain rfl fun K hK => ?_
      go_simp
      refine hK _ _ ?_
      clear hK K
      refine wpList_plain rfl fun K hK => ?_
      go_simp
      refine hK _ _ ?_
      clear hK K
      refine wpList_plain rfl fun K hK => ?_
      go_simp
      refine hK _ _ ?_
      clear hK K
      refine wpList_one rfl fun K hK => ?_
      go_simp
      refine hK _ _ ?_
      clear hK K
      refine wpList_one rfl fun K hK => ?_
      go_simp
      refine hK _ _ ?_
      clear hK K
      refine wpList_plain rfl fun K hK => ?_
      go_simp
      refine hK _ _ ?_
      clear hK K
      refine wpList_plain rfl fun K hK => ?_
      go_simp
      refine hK _ _ ?_
      clear hK K
      refine wpList_one rfl fun K hK => ?_
      go_simp
      refine hK _ _ ?_
      clear hK K
      refine wpList_one rfl fun K hK => ?_
      go_simp
      refine hK _ _ ?_
      clear hK K
      refine wpList_plain rfl fun K hK => ?_
      go_simp
      refine hK _ _ ?_
      clear hK K
      refine wpList_plain rfl fun K hK => ?_
      go_simp
      refine hK _ _ ?_
      clear hK K
      refine wpList_one rfl fun K hK => ?_
      go_simp
      go_at_call 3
      refine (HRn.out _ (HJ6.out.trans HJc.out)).mono ?_
      rintro e z1 ⟨rfl, hj⟩
      have HJn := hid (HJc.out.trans hj)
      clear hj HJc
      have HJc := HJn
      clear HJn
      go_simp
      refine hK _ _ ?_
      clear hK K
      refine wpList_plain rfl fun K hK => ?_
      go_simp
      refine hK _ _ ?_
      clear hK K
      refine wpList_plain rfl fun K hK => ?_
      go_simp
      refine hK _ _ ?_
      clear hK K
      refine wpList_nil ?_
      go_wp2
      go_ret
      exact ⟨rfl, HJw.out.trans HJc.out⟩

theorem askOnly_walk (f : Fo) (a : Ak) (t : ByteArray) (a1 a2 a3 : Int) (w : World) (hf : f.ok w) (ha : a.ok w) (ht : t.size ≤ maxLen) (h1 : (Lit.int .i64 a1).wf = true) (h2 : (Lit.int .u8 a2).wf = true) (h3 : (Lit.int .i64 a3).wf = true) (hE : Env w) : Calls Tryd.prog 5 #[forestV f, askV a, .string t, .int .i64 a1, .int .u8 a2, .int .i64 a3] w fun e w' => e = .returned (.bool true) ∧ Jk w w' := by
  obtain ⟨T, rfl⟩ : ∃ T : Txt, t = ⟨T.toArray⟩ := ⟨t.data.toList, by cases t; simp⟩
  exact askOnly_walk0 f a T a1 a2 a3 w (lib_a hE) hf ha (by rw [text_size] at ht; exact ht) (fit_of h1) (by simp [Lit.wf, IntKind.min, IntKind.max, IntKind.signed, IntKind.bits] at h2; omega) (fit_of h3)

end Go.Proofs.YtjpffempmlfoeaaDoor
