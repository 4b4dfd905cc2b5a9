/- The law TextOnly of chapter 9 answers true: its walk through the Go text, by the contracts of package text. Conditions: what the statement itself says of the library's variables ('Env'). -/
import Derived.Test.YtfabodbcdnmpmaaDoorLawTextBack
import Derived.Test.YtfabodbcdnmpmaaDoorForestF
namespace Go.Proofs.YtfabodbcdnmpmaaDoor
open Go.RowKit M

theorem text_ext (l : Txt) (i j : Nat) : (⟨l.toArray⟩ : ByteArray).extract i j = ⟨((l.drop i).take (j - i)).toArray⟩ := by
  rw [Lib.extract_eq]
theorem fit_of {a : Int} (h : (Lit.int .i64 a).wf = true) : FitI a := by
  simp [Lit.wf, IntKind.min, IntKind.max, IntKind.signed, IntKind.bits] at h
  exact ⟨by omega, by omega⟩
theorem text_cat (a b : Txt) : ((⟨a.toArray⟩ : ByteArray) ++ (⟨b.toArray⟩ : ByteArray)) = ⟨(a ++ b).toArray⟩ := by
  apply ByteArray.ext
  rw [ByteArray.data_append]
  simp

set_option maxRecDepth 100000 in
set_option maxHeartbeats 6400000 in
theorem textOnly_walk0 (f : Fo) (p x q : Int) (w : World) (hL : LibP w) (hf : f.ok w) (hp : FitI p) (hx : 0 ≤ x ∧ x < 256) (hq : FitI q) : Calls Tryd.prog 5 #[forestV f, .int .i64 p, .int .u8 x, .int .i64 q] w fun e w' => e = .returned (.bool true) ∧ Jk w w' := by
  have J := rules8
  obtain ⟨w0, hw0⟩ : ∃ w0, w.alloc (.cells #[.int .i64 f.d, .int .i64 f.k, .slice f.ba f.bn f.bc, .slice f.sa f.sn f.sc] 41) = w0 := ⟨_, rfl⟩
  have HJ0 : Hid (Jk w w0) := hw0 ▸ (Jk.refl w).alloc _
  have HFo : Hid (FoIn w0 w.heap.size f) := hw0 ▸ FoIn.laid w f _
  have HMf : Hid (∀ w', Jk w0 w' → Calls Tryd.prog 11 #[forestV f] w' fun e w'' => GotF f w' e w'') := fun w' hj => model_is f w' (hf.jk (HJ0.out.trans hj))
  have HL := hid (hL.at HJ0.out)
  have HX := hid hx
  have HQ := hid hq
  have HPf := hid hp
  clear hf hL hx hq hp
  obtain ⟨fi0, fi1, fi2, fi3, fi4⟩ := HFo.out
  obtain ⟨d, k, ba, bn, bc, bz, sa, sn, sc, ss⟩ := f
  obtain ⟨F, hF⟩ : ∃ F : Fo, F = ⟨d, k, ba, bn, bc, bz, sa, sn, sc, ss⟩ := ⟨_, rfl⟩
  simp only [forestV] at *
  rw [← hF] at HMf HFo
  have HFe := hid hF
  clear hF
  go_enter Tryd.func5, Tryd.ntmps5
  go_upto_region 1 with fail
  go_cut [9] (fun v wc => ∃ m : Md, v = tx (textM m.pm) ∧ RightM m ∧ ModelOf F m ∧ Jk w0 wc)
  case first =>
    go_wp2_with (first
      | (go_at_call 11; refine (HMf.out _ (Jk.refl _)).mono ?_; rintro e w1 ⟨m, rfl, hr, h3, h4, hfr, hj, hmo⟩; have HRm := hid hr; have HMo := hid hmo; have HJ1 := hid hj; have HP := hid (print_m (HL.out.at hj) (hr.mdok hfr)); rw [printM_yes (right_pm.2 hr)] at HP; clear hr h3 h4 hfr hj hmo)
      | (go_at_call 9; refine (HP.out.on _ (Jk.refl _)).mono ?_; rintro e w2 ⟨rfl, hj2⟩; have HJ2 := hid hj2; clear hj2))
    go_meet
    case rel => exact ⟨m, rfl, HRm.out, HMo.out, HJ1.out.trans HJ2.out⟩
  case rest =>
    obtain ⟨m, rfl, hr, hmo, hj1⟩ := hcut
    obtain ⟨w1, rfl⟩ : ∃ z, z = wc := ⟨_, rfl⟩
    have HJ1 := hid hj1
    have rp : RightP m.pm := right_pm.2 hr
    have hln := textM_len rp
    have hne := text_ne m.pm
    have HRp := hid rp
    have HMo : Hid (∀ m', ModelOf F m' → m'.pm = m.pm) := fun m' h => h.func hmo
    obtain ⟨P0, hP0⟩ : ∃ P, m.pm = P := ⟨_, rfl⟩
    rw [hP0] at HRp HMo hln hne ⊢
    obtain ⟨S, hS⟩ : ∃ S, textM P0 = S := ⟨_, rfl⟩
    have HS := hid hS
    rw [hS] at hln hne ⊢
    have hpos : 0 < S.length := List.length_pos_iff.2 hne
    clear hmo hr rp hP0 hS hj1 hne
    obtain ⟨s, hs⟩ : ∃ s : ByteArray, s = ⟨S.toArray⟩ := ⟨_, rfl⟩
    have hsz : s.size = S.length := by rw [hs]; exact text_size S
    have HExt : Hid (∀ i j, s.extract i j = ⟨((S.drop i).take (j - i)).toArray⟩) := fun i j => by rw [hs]; exact text_ext S i j
    have HZs := hid hs
    simp only [tx]
    rw [← hs]
    have AK := within_p (n := p) (lo := 0) (hi := (S.length : Int) - 1) rfl HPf.out (by omega) (by omega) (by omega)
    have hKb := within_bd p 0 ((S.length : Int) - 1) (by omega)
    obtain ⟨K', hK'⟩ : ∃ K, withinI p 0 ((S.length : Int) - 1) = K := ⟨_, rfl⟩
    rw [hK'] at AK hKb
    obtain ⟨K, rfl⟩ := Int.eq_ofNat_of_zero_le (show 0 ≤ K' by omega)
    have AQ := within_p (n := q) (lo := 0) (hi := 3) rfl HQ.out (by omega) (by omega) (by omega)
    have hQb := within_bd q 0 3 (by omega)
    obtain ⟨R, hR⟩ : ∃ R, withinI q 0 3 = R := ⟨_, rfl⟩
    rw [hR] at AQ hQb
    have HAK := hid AK
    have HAQ := hid AQ
    have hw1 : IntKind.i64.wrap ((S.length : Int) - 1) = (S.length : Int) - 1 := i64_in (by omega) (by omega)
    have hKl : K < S.length := by omega
    have h1 : ¬ (S.length : Int) < 1 := by omega
    clear AK AQ hK' hR hs hKb
    go_upto_region 8 with (first | (go_at_call 12; refine (AnsP.on (by with_reducible first | exact HAK.out | exact HAQ.out) _).mono ?_; rintro e w' ⟨rfl, hw⟩; obtain rfl := hw.symm))
    obtain ⟨c, hc⟩ : ∃ c : UInt8, x = (c.toNat : Int) := ⟨UInt8.ofNat x.toNat, by have := HX.out; rw [UInt8.toNat_ofNat']; omega⟩
    subst hc
    have HCv : Hid (∀ z : World, z.cell? ⟨w1.heap.size, 0, none⟩ = some (.int .u8 (c.toNat : Int)) → (convert 45 9 (.slice (some ⟨w1.heap.size, 0, none⟩) 1 1)).run Tryd.prog z = .ok (.string ⟨#[c]⟩) z) := fun z hz => by
      refine run_convert_bytes_back z 45 9 5 ⟨w1.heap.size, 0, none⟩ 1 [c] Tryd.underlying45 Tryd.underlying5 Tryd.underlying9 fun j hj => ?_
      obtain rfl : j = 0 := by simpa using hj
      exact hz
    have hw2 : IntKind.i64.wrap ((K : Int) + 1) = (K : Int) + 1 := i64_in (by omega) (by omega)
    have hK0 : (0 : Int) ≤ (K : Int) := by omega
    have hK1 : (K : Int) ≤ (S.length : Int) := by omega
    have hK2 : (K : Int) + 1 ≤ (S.length : Int) := by omega
    have hK3 : (0 : Int) ≤ (K : Int) + 1 := by omega
    have e1 : s.extract 0 K = ⟨(S.take K).toArray⟩ := by rw [HExt.out 0 K]; simp
    have e2 : s.extract (K + 1) S.length = ⟨(S.drop (K + 1)).toArray⟩ := by
      rw [HExt.out (K + 1) S.length, List.take_of_length_le (by simp)]
    have e3 : s.extract K S.length = ⟨(S.drop K).toArray⟩ := by
      rw [HExt.out K S.length, List.take_of_length_le (by simp)]
    obtain ⟨A, hA⟩ : ∃ A, S.take K = A := ⟨_, rfl⟩
    obtain ⟨B, hB⟩ : ∃ B, S.drop (K + 1) = B := ⟨_, rfl⟩
    obtain ⟨C, hC⟩ : ∃ C, S.drop K = C := ⟨_, rfl⟩
    have hAl : A.length ≤ 20000 := by rw [← hA]; simp; omega
    have hBl : B.length ≤ 20000 := by rw [← hB]; simp; omega
    have hCl : C.length ≤ 20000 := by rw [← hC]; simp; omega
    rw [hA] at e1
    rw [hB] at e2
    rw [hC] at e3
    have hcv2 := HCv.out (w1.alloc (.cells #[.int .u8 (c.toNat : Int)] 5)).drew (World.cell?_alloc_at _ _ _ _ rfl)
    have hr : R = 0 ∨ R = 1 ∨ R = 2 ∨ R = 3 := by omega
    have hlim : ¬ 9223372036854775807 < A.length + 1 := by omega
    have HJa : Hid (Jk w1 (w1.alloc (.cells #[.int .u8 (c.toNat : Int)] 5)).drew) := ((Jk.refl w1).alloc _).drew
    clear hA hB hC HCv
    rcases hr with rfl | rfl | rfl | rfl
    case' inl =>
      go_upto_region 9 with fail
      refine region_mid 11 [0, 1, 2, 3, 7, 8, 9, 10] [4, 5, 6] #[true, true, true, true, true, true, true, true, true, true, true, false, false] (by kernel_rfl) (by kernel_rfl) (fun _ _ d _ _ h => by cases d <;> exact h) ?_
      dsimp only [opersAt, List.getElem?_cons_zero, List.getElem?_cons_succ]
      repeat (go_big_quiet_step (first | exact rfl))
      refine wpQuiet_nil ?_
      intro K1 hK1
      go_simp
      refine hK1 _ _ HJa.out ?_
      clear hK1 K1
      intro K2 hK2
      go_simp
      refine hK2 _ _ HJa.out ?_
      clear hK2 K2
      intro K3 hK3
      go_simp
      refine hK3 _ _ HJa.out ?_
      clear hK3 K3
      dsimp only [wpAlone, opersAt, List.drop]
      go_upto_region 14 with fail
      rw [show ((⟨A.toArray⟩ : ByteArray) ++ ⟨#[c]⟩ ++ ⟨B.toArray⟩) = ⟨(A ++ [c] ++ B).toArray⟩ from by rw [show (⟨#[c]⟩ : ByteArray) = ⟨([c] : Txt).toArray⟩ from rfl, text_cat, text_cat]]
      obtain ⟨T, hT⟩ : ∃ T, A ++ [c] ++ B = T := ⟨_, rfl⟩
      have hTl : T.length ≤ 50000 := by rw [← hT]; simp; omega
      rw [hT]
      clear hT
      have HJT := hid HJa.out
      generalize (w1.alloc (.cells #[.int .u8 (c.toNat : Int)] 5)).drew = wT at HJT ⊢
    case' inr.inl =>
      go_upto_region 11 with fail
      refine region_mid 10 [0, 1, 2, 3, 7, 8, 9] [4, 5, 6] #[true, true, true, true, true, true, true, true, true, true, false, false] (by kernel_rfl) (by kernel_rfl) (fun _ _ d _ _ h => by cases d <;> exact h) ?_
      dsimp only [opersAt, List.getElem?_cons_zero, List.getElem?_cons_succ]
      repeat (go_big_quiet_step (first | exact rfl))
      refine wpQuiet_nil ?_
      intro K1 hK1
      go_simp
      refine hK1 _ _ HJa.out ?_
      clear hK1 K1
      intro K2 hK2
      go_simp
      refine hK2 _ _ HJa.out ?_
      clear hK2 K2
      intro K3 hK3
      go_simp
      refine hK3 _ _ HJa.out ?_
      clear hK3 K3
      dsimp only [wpAlone, opersAt, List.drop]
      go_upto_region 14 with fail
      rw [show ((⟨A.toArray⟩ : ByteArray) ++ ⟨#[c]⟩ ++ ⟨C.toArray⟩) = ⟨(A ++ [c] ++ C).toArray⟩ from by rw [show (⟨#[c]⟩ : ByteArray) = ⟨([c] : Txt).toArray⟩ from rfl, text_cat, text_cat]]
      obtain ⟨T, hT⟩ : ∃ T, A ++ [c] ++ C = T := ⟨_, rfl⟩
      have hTl : T.length ≤ 50000 := by rw [← hT]; simp; omega
      rw [hT]
      clear hT
      have HJT := hid HJa.out
      generalize (w1.alloc (.cells #[.int .u8 (c.toNat : Int)] 5)).drew = wT at HJT ⊢
    case' inr.inr.inl =>
      go_upto_region 13 with fail
      refine region_junk (by kernel_rfl) (by kernel_rfl) ?_
      repeat (go_big_quiet_step (first | exact rfl))
      refine wpQuiet_nil ?_
      rintro _ ⟨X, rfl⟩
      go_upto_region 14 with fail
      rw [text_cat A B]
      obtain ⟨T, hT⟩ : ∃ T, A ++ B = T := ⟨_, rfl⟩
      have hTl : T.length ≤ 50000 := by rw [← hT]; simp; omega
      rw [hT]
      clear hT
      have HJT : Hid (Jk w1 (junk w1 X)) := (Jk.refl w1).junk X
      generalize junk w1 X = wT at HJT ⊢
    case' inr.inr.inr =>
      go_upto_region 14 with fail
      obtain ⟨T, hT⟩ : ∃ T, T = A := ⟨_, rfl⟩
      have hTl : T.length ≤ 50000 := by rw [hT]; omega
      rw [← hT]
      clear hT
      obtain ⟨wT, hwT⟩ : ∃ z, z = w1 := ⟨_, rfl⟩
      have HJT : Hid (Jk w1 wT) := by rw [hwT]; exact Jk.refl w1
      rw [← hwT]
      clear hwT
    all_goals
      have HJ0T : Hid (Jk w0 wT) := HJ1.out.trans HJT.out
      have HPs := hid (parse_m HL.out T (by omega) HJ0T.out)
      have hs := HZs.out
      subst hs
      simp only [tx] at HPs
      clear e1 e2 e3 hcv2 hlim HJa hAl hBl hCl hK0 hK1 hK2 hK3 HExt HZs hKl h1 hw1 hw2 HAK HAQ
      go_upto_region 15 with (go_at_call 8; refine HPs.out.mono ?_; rintro e w3 ⟨⟨d3, k3, b30, b31, b32, a3, n3, c3, ts3⟩, ok, rfl, hok, hpp, hj3⟩; have HO3 := hid hok; have HPp := hid hpp; have HJ3 := hid (HJ0T.out.trans hj3); clear hok hpp hj3)
      have HJ4 : Hid (Jk w3 (w3.alloc (.cells #[.int .i64 d3, .int .i64 k3, .int .i64 b30, .int .i64 b31, .int .i64 b32, .slice a3 n3 c3] 32))) := (Jk.refl w3).alloc _
      have HM4 : Hid (MdB (w3.alloc (.cells #[.int .i64 d3, .int .i64 k3, .int .i64 b30, .int .i64 b31, .int .i64 b32, .slice a3 n3 c3] 32)) w3.heap.size ⟨d3, k3, b30, b31, b32, a3, n3, c3, ts3⟩) := MdB.laid w3 ⟨d3, k3, b30, b31, b32, a3, n3, c3, ts3⟩
      generalize w3.alloc (.cells #[.int .i64 d3, .int .i64 k3, .int .i64 b30, .int .i64 b31, .int .i64 b32, .slice a3 n3 c3] 32) = w4 at HJ4 HM4 ⊢
      generalize w3.heap.size = h4 at HM4 ⊢
      have HJ04 : Hid (Jk w0 w4) := HJ3.out.trans HJ4.out
      have HO4 := hid (HO3.out.jk HJ4.out)
      clear HPs HO3 HJ3 HJ4 HJT HJ0T hTl
      obtain ⟨al, y0, y1, y2, y3, y4, y5⟩ := HM4.out.in
      obtain ⟨bl, g0, g1, g2, g3⟩ := HFo.out.jk HJ04.out
      rw [HFe.out] at g0 g1 g2 g3
      simp only at y0 y1 y2 y3 y4 y5 g0 g1 g2 g3
      have HL4 := hid (HL.out.at HJ04.out)
      cases ok
      · have hne : T ≠ S := fun e => ParseP.other HRp.out HPp.out (by rw [HS.out]; exact e)
        have hnb : (T == S) = false := by simpa using hne
        have HMz := hid (models_ans (b := true) HO4.out (nil_ok w4) ⟨fun _ => (HPp.out.2 rfl).1, fun _ => rfl⟩)
        have HRn := hid (runs_ans HL4.out)
        simp only [modelV] at HMz
        go_wp2_with (first
          | (go_at_call 10; refine (HMz.out.on _ (by repeat (with_reducible first | exact Jk.refl _ | apply Jk.junk))).mono ?_; rintro e w9 ⟨rfl, X10, rfl⟩)
          | (go_at_call 3; refine (HRn.out.on _ (by repeat (with_reducible first | exact Jk.refl _ | apply Jk.junk))).mono ?_; rintro e w9 ⟨rfl, X11, rfl⟩))
        go_ret
        exact ⟨rfl, by repeat (with_reducible first | exact HJ0.out.trans HJ04.out | apply Jk.junk)⟩
      · have hR3 := (HPp.out.1 rfl).1
        have hT3 := (HPp.out.1 rfl).2
        have HPr := hid (print_m HL4.out HO4.out)
        rw [printM_yes hR3, hT3] at HPr
        obtain ⟨E, hE⟩ : ∃ E : Bool, E = true ↔ T = S := by
          classical exact ⟨decide (T = S), by simp⟩
        have HOn : Hid (∀ m', ModelOf F m' → (E = true ↔ Md.pm ⟨d3, k3, b30, b31, b32, a3, n3, c3, ts3⟩ = m'.pm)) := fun m' hm' => by
          rw [hE, HMo.out m' hm', ← ParseP.only HRp.out HPp.out, HS.out]
        have HSS : Hid (∀ z, Jk w4 z → (z.cell? ⟨h4, 0, none⟩ = some (.int .i64 d3) ∧ z.cell? ⟨h4, 1, none⟩ = some (.int .i64 k3) ∧ z.cell? ⟨h4, 2, none⟩ = some (.int .i64 b30) ∧ z.cell? ⟨h4, 3, none⟩ = some (.int .i64 b31) ∧ z.cell? ⟨h4, 4, none⟩ = some (.int .i64 b32) ∧ z.cell? ⟨h4, 5, none⟩ = some (.slice a3 n3 c3) ∧ z.cell? ⟨w.heap.size, 0, none⟩ = some (.int .i64 d) ∧ z.cell? ⟨w.heap.size, 1, none⟩ = some (.int .i64 k) ∧ z.cell? ⟨w.heap.size, 2, none⟩ = some (.slice ba bn bc) ∧ z.cell? ⟨w.heap.size, 3, none⟩ = some (.slice sa sn sc))) := fun z hz => by
          have q1 := fun i => hz.below.cell (p := ⟨h4, i, none⟩) al
          have q2 := fun i => hz.below.cell (p := ⟨w.heap.size, i, none⟩) bl
          rw [q1, q1, q1, q1, q1, q1, q2, q2, q2, q2]
          exact ⟨y0, y1, y2, y3, y4, y5, g0, g1, g2, g3⟩
        have HMod : Hid (∀ z, Jk w4 z → Calls Tryd.prog 11 #[.agg #[.int .i64 d, .int .i64 k, .slice ba bn bc, .slice sa sn sc]] z fun e w' => ∃ v, e = .returned v ∧ Jk w4 w' ∧ ∀ z', Jk w' z' → Calls Tryd.prog 10 #[.agg #[.int .i64 d3, .int .i64 k3, .int .i64 b30, .int .i64 b31, .int .i64 b32, .slice a3 n3 c3], v] z' fun e w'' => e = .returned (.bool E) ∧ Jk w4 w'') := fun z hz => (HMf.out z (HJ04.out.trans hz)).mono fun e w' hG => by
          obtain ⟨m5, rfl, hr5, -, -, hfr5, hj5, hmo5⟩ := hG
          exact ⟨_, rfl, hz.trans hj5, fun z' hz' => (models_ans (HO4.out.jk (hz.trans hj5)) (hr5.mdok hfr5) (HOn.out _ hmo5) z' hz').mono fun e w'' h => ⟨h.1, (hz.trans hj5).trans (hz'.trans h.2)⟩⟩
        have HPr2 : Hid (∀ z, Jk w4 z → Calls Tryd.prog 9 #[.agg #[.int .i64 d3, .int .i64 k3, .int .i64 b30, .int .i64 b31, .int .i64 b32, .slice a3 n3 c3]] z fun e w' => e = .returned (.string ⟨T.toArray⟩) ∧ Jk w4 w') := fun z hz => (HPr.out z hz).mono fun e w'' h => ⟨h.1, hz.trans h.2⟩
        have HRn2 : Hid (∀ z, Jk w4 z → Calls Tryd.prog 3 #[] z fun e w' => e = .returned (.bool true) ∧ Jk w4 w') := fun z hz => (runs_ans HL4.out z hz).mono fun e w'' h => ⟨h.1, hz.trans h.2⟩
        clear hR3 hT3 HPr
        have HE := hid hE
        clear hE
        go_upto_region 16 with fail
        cases E
        case' false =>
          have hne : T ≠ S := fun e => by have := HE.out.2 e; cases this
          have hnb : (T == S) = false := by simpa using hne
        case' true =>
          obtain rfl : T = S := HE.out.1 rfl
        all_goals
          go_region_held3 (fun z => z.cell? ⟨h4, 0, none⟩ = some (.int .i64 d3) ∧ z.cell? ⟨h4, 1, none⟩ = some (.int .i64 k3) ∧ z.cell? ⟨h4, 2, none⟩ = some (.int .i64 b30) ∧ z.cell? ⟨h4, 3, none⟩ = some (.int .i64 b31) ∧ z.cell? ⟨h4, 4, none⟩ = some (.int .i64 b32) ∧ z.cell? ⟨h4, 5, none⟩ = some (.slice a3 n3 c3) ∧ z.cell? ⟨w.heap.size, 0, none⟩ = some (.int .i64 d) ∧ z.cell? ⟨w.heap.size, 1, none⟩ = some (.int .i64 k) ∧ z.cell? ⟨w.heap.size, 2, none⟩ = some (.slice ba bn bc) ∧ z.cell? ⟨w.heap.size, 3, none⟩ = some (.slice sa sn sc))
            (exact HSS.out _ (by repeat (with_reducible first | assumption | exact Jk.refl _ | apply Jk.drew)))
            (first
              | (go_at_call 9; refine (HPr2.out _ (by repeat (with_reducible first | assumption | exact Jk.refl _ | apply Jk.drew))).mono ?_; rintro e wP ⟨rfl, hjP⟩)
              | (go_at_call 11; refine (HMod.out _ (by repeat (with_reducible first | assumption | exact Jk.refl _ | apply Jk.drew))).mono ?_; rintro e wM ⟨v5, rfl, hjM, hms⟩; have HMs := hid hms; clear hms)
              | (go_at_call 10; refine (HMs.out _ (by repeat (with_reducible first | exact Jk.refl _ | apply Jk.drew))).mono ?_; rintro e wS ⟨rfl, hjS⟩)
              | (go_at_call 3; refine (HRn2.out _ (by repeat (with_reducible first | assumption | exact Jk.refl _ | apply Jk.drew))).mono ?_; rintro e wR ⟨rfl, hjR⟩))
          all_goals
            go_wp2_with fail
            go_ret
            exact ⟨rfl, HJ0.out.trans (HJ04.out.trans (by repeat (with_reducible first | assumption | exact Jk.refl _ | apply Jk.drew)))⟩

theorem textOnly_walk (f : Fo) (a1 a2 a3 : Int) (w : World) (hf : f.ok w) (h1 : (Lit.int .i64 a1).wf = true) (h2 : (Lit.int .u8 a2).wf = true) (h3 : (Lit.int .i64 a3).wf = true) (hE : Env w) : Calls Tryd.prog 5 #[forestV f, .int .i64 a1, .int .u8 a2, .int .i64 a3] w fun e w' => e = .returned (.bool true) ∧ Jk w w' :=
  textOnly_walk0 f a1 a2 a3 w (lib_p hE) hf (fit_of h1) (by simp [Lit.wf, IntKind.min, IntKind.max, IntKind.signed, IntKind.bits] at h2; omega) (fit_of h3)

end Go.Proofs.YtfabodbcdnmpmaaDoor
