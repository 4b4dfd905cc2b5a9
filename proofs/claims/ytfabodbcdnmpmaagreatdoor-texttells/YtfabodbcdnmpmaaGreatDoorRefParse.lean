/- What the document's own Parse of chapter 9 answers: the model that Print makes a text of, true; zero, false, if it makes it of none. -/
import Derived.Test.YtfabodbcdnmpmaaGreatDoorRefPrint
import Derived.Test.YtfabodbcdnmpmaaGreatDoorRowsP
import Derived.Test.YtfabodbcdnmpmaaGreatDoorTextX
import Derived.Test.YtfabodbcdnmpmaaGreatDoorHeldN
import Derived.Deep.RegionHeld3
namespace Go.Proofs.YtfabodbcdnmpmaaGreatDoor
open Go.RowKit M

theorem rscan_w (l : Txt) (hl : l.length ≤ 1000000) (w : World) : AnsW w 17 #[.string ⟨l.toArray⟩] (.tuple #[.int .i64 (scanN l), .bool (scanB l)]) := fun w1 _ =>
  (rscan_any l w1 (by omega)).mono fun _ _ ⟨e, hb⟩ => ⟨e, Jk.of_below hb⟩
theorem small_w (l : Txt) (hl : l.length ≤ 1000000) (w : World) : AnsW w 16 #[.string ⟨l.toArray⟩] (.int .i64 (smV l)) := fun w1 _ => small_any6 l w1 hl
theorem smV_bd (l : Txt) : -1 ≤ smV l ∧ smV l ≤ 99 := by
  unfold smV
  split
  · rename_i h
    simp only [smB, Bool.and_eq_true, decide_eq_true_eq] at h
    have := foldD_bd l h.2.2 h.1
    omega
  · omega
theorem wordsF_each : ∀ (l u : Txt) (x : Txt), x ∈ wordsF u l → x.length ≤ u.length + l.length
  | [], u, x, h => by
    simp [wordsF] at h
    subst h
    simp
  | c :: r, u, x, h => by
    rw [wordsF] at h
    split at h
    · rcases List.mem_cons.1 h with rfl | h
      · omega
      · have := wordsF_each r [] x h
        simp only [List.length_cons, List.length_nil] at this ⊢
        omega
    · have := wordsF_each r (u ++ [c]) x h
      simp only [List.length_append, List.length_cons, List.length_nil] at this ⊢
      omega
theorem wA_len {l u : Txt} (i : Nat) : (wA (wordsF u l) i).length ≤ u.length + l.length := by
  unfold wA
  by_cases h : i < (wordsF u l).length
  · rw [List.getD_eq_getElem?_getD, List.getElem?_eq_getElem h]
    exact wordsF_each l u _ (List.getElem_mem h)
  · rw [List.getD_eq_getElem?_getD, List.getElem?_eq_none (by omega)]
    simp
theorem refR_char {c : UInt8} {r : Txt} {st : Rs} (h : ¬ c = 10) : refR (c :: r) st = refR r ⟨st.m, st.left, st.at_, st.line ++ [c]⟩ := by rw [refR, if_neg h]
theorem refR_line {r : Txt} {st : Rs} {R : Option Rs} (h : refR (10 :: r) st = R) : (∀ m' L', lineF st.m st.left (st.at_ + 1) (wordsF [] st.line) = some (m', L') → refR r ⟨m', L', st.at_ + 1, []⟩ = R) ∧ (lineF st.m st.left (st.at_ + 1) (wordsF [] st.line) = none → R = none) := by
  rw [refR, if_pos rfl] at h
  constructor
  · intro m' L' e
    rw [e] at h
    exact h
  · intro e
    rw [e] at h
    exact h.symm
theorem no_of {s : Txt} (h : refR s Rs.init = none) : ParseP s Pm.nil false := ref_no fun x hx => by rw [h] at hx; cases hx

set_option maxRecDepth 100000 in
set_option maxHeartbeats 60000000 in
theorem rparse_m (s : Txt) (hl : s.length ≤ 800) (w : World) : Calls Tryz.prog 6 #[tx s] w fun e w' => GotP w s e w' := by
  have J := rules8
  obtain ⟨wz, hwz⟩ : ∃ wz, w.alloc (.cells #[.int .i64 0, .int .i64 0, .int .i64 0, .int .i64 0, .int .i64 0, .slice none 0 0] 25) = wz := ⟨_, rfl⟩
  obtain ⟨w1, hw1⟩ : ∃ w1, wz.alloc (.cells #[.int .i64 0, .int .i64 0, .int .i64 0, .int .i64 0, .int .i64 0, .slice none 0 0] 25) = w1 := ⟨_, rfl⟩
  have hzs : wz.heap.size = w.heap.size + 1 := by rw [← hwz]; simp
  have hs1 : w1.heap.size = w.heap.size + 1 + 1 := by rw [← hw1, World.size_alloc, hzs]
  have HJz : Hid (Jk w wz) := hwz ▸ (Jk.refl w).alloc _
  have HJ1 : Hid (Jk wz w1) := hw1 ▸ (Jk.refl wz).alloc _
  have HZ : Hid (MdB wz w.heap.size ⟨0, 0, 0, 0, 0, none, 0, 0, []⟩) := hwz ▸ MdB.laid w ⟨0, 0, 0, 0, 0, none, 0, 0, []⟩
  have HP1 : Hid (PS (w.heap.size + 1 + 1) w1 (w.heap.size + 1) ⟨0, 0, 0, 0, 0, none, 0, 0, []⟩) := by
    refine ⟨?_, by omega, by omega, OwnT.nil _ _, fun i hi => absurd hi (Nat.not_lt_zero i), fun i hi => absurd hi (Nat.not_lt_zero i), fun i hi => absurd hi (Nat.not_lt_zero _), ⟨fit_0, fit_0, fit_0, fit_0, fit_0⟩⟩
    rw [← hw1, ← hzs]
    exact MdB.laid wz ⟨0, 0, 0, 0, 0, none, 0, 0, []⟩
  have HZs : Hid (wz.heap.size = w.heap.size + 1) := hzs
  obtain ⟨sb, hsb⟩ : ∃ sb : ByteArray, sb = ⟨s.toArray⟩ := ⟨_, rfl⟩
  have HSz : Hid (sb.size = s.length) := by rw [hsb]; exact text_size s
  have HGet : Hid (∀ j, ∀ h : j < sb.size, sb[j] = byteAt s j) := fun j h => by subst hsb; exact text_byte s j h
  have HCut : Hid (∀ j, j < s.length → sb.extract j (j + 1) = ⟨#[byteAt s j]⟩) := fun j hj => by
    subst hsb
    rw [Lib.extract_eq]
    have e : (s.drop j).take (j + 1 - j) = [byteAt s j] := by
      rw [drop_byte s j hj, show j + 1 - j = 1 by omega]
      rfl
    simp only
    rw [e]
  have HSb := hid hsb
  simp only [tx]
  rw [← hsb]
  have hsz := HSz.out
  clear hsb
  go_enter Tryz.func6, Tryz.ntmps6
  go_upto_region 6 with fail
  go_loopg [8, 5, 6, 7] s.length (fun k i lv sv av wr => ∃ (j A : Nat) (L : Int) (u : Txt) (m : Md), i = .int .i64 (j : Int) ∧ lv = .int .i64 L ∧ sv = .string ⟨u.toArray⟩ ∧ av = .int .i64 (A : Int) ∧ j + k = s.length ∧ Hid (PS (w.heap.size + 1 + 1) wr (w.heap.size + 1) m) ∧ Hid (Jk wz wr) ∧ Hid (refR (s.drop j) ⟨m.pm, L, A, u⟩ = refR s Rs.init) ∧ u.length ≤ j ∧ A ≤ j ∧ (-1 ≤ L ∧ L ≤ 99) ∧ m.n ≤ j ∧ Hid (∀ i, i < m.n → (tA m.ts i).n ≤ j) ∧ Hid (0 < L → 0 < m.n))
  case atStart => exact ⟨0, 0, 0, [], ⟨0, 0, 0, 0, 0, none, 0, 0, []⟩, rfl, rfl, rfl, rfl, by omega, HP1, HJ1, hid rfl, by simp, by omega, by omega, Nat.le_refl 0, hid (fun i hi => absurd hi (Nat.not_lt_zero i)), hid (fun h => absurd h (by decide))⟩
  case round =>
    obtain ⟨j, A, L, u, m, rfl, rfl, rfl, rfl, hj, HP, HJ, HR, hu, hA, hL, hn, HTn, HLn⟩ := hrel
    clear HP1 HJ1
    obtain ⟨d, k, b0, b1, b2, a, n, c, ts⟩ := m
    simp only at hn HTn HLn
    by_cases hk : gk = 0
    · subst hk
      obtain rfl : j = s.length := by omega
      have HR0 : Hid (refR s Rs.init = some ⟨Md.pm ⟨d, k, b0, b1, b2, a, n, c, ts⟩, L, A, u⟩) := by
        have := HR.out
        rw [List.drop_length, refR] at this
        exact this.symm
      clear HR
      by_cases hyes : L = 0 ∧ 2 ≤ A
      · obtain ⟨rfl, hA2⟩ := hyes
        have h0 : ¬ (A : Int) < 2 := by omega
        have HPw := hid (rprint_m HP.out.ok)
        obtain ⟨T, hT⟩ : ∃ T, printM (Md.pm ⟨d, k, b0, b1, b2, a, n, c, ts⟩) = T := ⟨_, rfl⟩
        rw [hT] at HPw
        have HT := hid hT
        obtain ⟨ml, m0, m1, m2, m3, m4, m5⟩ := HP.out.box.in
        simp only at m0 m1 m2 m3 m4 m5
        have hsb := HSb.out
        subst hsb
        clear hT hsz
        simp only [tx] at HPw
        by_cases he : T = s
        · subst he
          have HY : Hid (ParseP T (Md.pm ⟨d, k, b0, b1, b2, a, n, c, ts⟩) true) := ref_yes HR0.out hA2 HT.out
          go_upto_region 37 with (go_at_call 8; refine (HPw.out.on _ (Jk.refl _)).mono ?_; rintro e w4 ⟨rfl, hj4⟩; have HJ4 := hid (HJ.out.trans hj4); have HP4 := hid (HP.out.jk hj4); clear hj4)
          have HZ4 := hid (HZ.out.jk HJ4.out)
          clear ml m0 m1 m2 m3 m4 m5
          obtain ⟨ml, m0, m1, m2, m3, m4, m5⟩ := HP4.out.box.in
          simp only at m0 m1 m2 m3 m4 m5
          have HE := hid ((((((HZ4.out.setD d).setK k).setB0 b0).setB1 b1).setB2 b2).setT a n c ts)
          have hww : w.heap.size ≤ w.heap.size := Nat.le_refl _
          have HJf := hid (((((((HJz.out.trans HJ4.out).set (p := ⟨w.heap.size, 0, none⟩) hww (.int .i64 d)).set (p := ⟨w.heap.size, 1, none⟩) hww (.int .i64 k)).set (p := ⟨w.heap.size, 2, none⟩) hww (.int .i64 b0)).set (p := ⟨w.heap.size, 3, none⟩) hww (.int .i64 b1)).set (p := ⟨w.heap.size, 4, none⟩) hww (.int .i64 b2)).set (p := ⟨w.heap.size, 5, none⟩) hww (.slice a n c))
          have HGw : Hid (World.grownBy w4 ((((((w4.setCell ⟨w.heap.size, 0, none⟩ (.int .i64 d)).setCell ⟨w.heap.size, 1, none⟩ (.int .i64 k)).setCell ⟨w.heap.size, 2, none⟩ (.int .i64 b0)).setCell ⟨w.heap.size, 3, none⟩ (.int .i64 b1)).setCell ⟨w.heap.size, 4, none⟩ (.int .i64 b2)).setCell ⟨w.heap.size, 5, none⟩ (.slice a n c)) (some w.heap.size)) := (((((grown_set w4 w.heap.size 0 _).trans (grown_set _ w.heap.size 1 _)).trans (grown_set _ w.heap.size 2 _)).trans (grown_set _ w.heap.size 3 _)).trans (grown_set _ w.heap.size 4 _)).trans (grown_set _ w.heap.size 5 _)
          obtain ⟨-, y0, y1, y2, y3, y4, y5⟩ := HE.out.in
          obtain ⟨hzl, z0, z1, z2, z3, z4, z5⟩ := HZ4.out.in
          have hzf := HZ4.out.frozen
          simp only at y0 y1 y2 y3 y4 y5 z0 z1 z2 z3 z4 z5
          go_wp2
          exact bodyPost_ret (v := .tuple #[modelV ⟨d, k, b0, b1, b2, a, n, c, ts⟩, .bool true]) (by simp [results, Tryz.results6, go_sem, y0, y1, y2, y3, y4, y5]) rfl ⟨⟨d, k, b0, b1, b2, a, n, c, ts⟩, true, rfl, HP4.out.ok_far HGw.out (by omega), HY.out, HJf.out⟩
        · have he' : (T == s) = false := by simpa using he
          have he2 : (T != s) = true := by simpa using he
          have HNo0 : Hid (ParseP s Pm.nil false) := ref_no fun x hx => by
            rw [HR0.out] at hx
            cases hx
            exact .inr (.inr (by rw [HT.out]; exact he))
          go_upto_region 36 with (go_at_call 8; refine (HPw.out.on _ (Jk.refl _)).mono ?_; rintro e w4 ⟨rfl, hj4⟩; have HJ4 := hid (HJ.out.trans hj4); clear hj4)
          have HZr := hid (HZ.out.jk HJ4.out)
          have HE := hid ((((((HZr.out.setD 0).setK 0).setB0 0).setB1 0).setB2 0).setT none 0 0 [])
          have hww : w.heap.size ≤ w.heap.size := Nat.le_refl _
          have HJf := hid (((((((HJz.out.trans HJ4.out).set (p := ⟨w.heap.size, 0, none⟩) hww (.int .i64 0)).set (p := ⟨w.heap.size, 1, none⟩) hww (.int .i64 0)).set (p := ⟨w.heap.size, 2, none⟩) hww (.int .i64 0)).set (p := ⟨w.heap.size, 3, none⟩) hww (.int .i64 0)).set (p := ⟨w.heap.size, 4, none⟩) hww (.int .i64 0)).set (p := ⟨w.heap.size, 5, none⟩) hww (.slice none 0 0))
          obtain ⟨-, y0, y1, y2, y3, y4, y5⟩ := HE.out.in
          obtain ⟨hzl, z0, z1, z2, z3, z4, z5⟩ := HZr.out.in
          have hzf := HZr.out.frozen
          simp only at y0 y1 y2 y3 y4 y5 z0 z1 z2 z3 z4 z5
          have HNo : Hid (ParseP s (Md.pm ⟨0, 0, 0, 0, 0, none, 0, 0, []⟩) false) := HNo0.out
          go_wp2
          exact bodyPost_ret (v := .tuple #[modelV ⟨0, 0, 0, 0, 0, none, 0, 0, []⟩, .bool false]) (by simp [results, Tryz.results6, go_sem, y0, y1, y2, y3, y4, y5]) rfl ⟨⟨0, 0, 0, 0, 0, none, 0, 0, []⟩, false, rfl, nil_ok _, HNo.out, HJf.out⟩
      · have HNo0 : Hid (ParseP s Pm.nil false) := ref_no fun x hx => by
          rw [HR0.out] at hx
          cases hx
          by_cases h : L = 0
          · exact .inr (.inl (by simp only; omega))
          · exact .inl h
        by_cases hL0 : L = 0
        · subst hL0
          have hA2 : (A : Int) < 2 := by omega
          have HZr := hid (HZ.out.jk HJ.out)
          have HE := hid ((((((HZr.out.setD 0).setK 0).setB0 0).setB1 0).setB2 0).setT none 0 0 [])
          have hww : w.heap.size ≤ w.heap.size := Nat.le_refl _
          have HJf := hid (((((((HJz.out.trans HJ.out).set (p := ⟨w.heap.size, 0, none⟩) hww (.int .i64 0)).set (p := ⟨w.heap.size, 1, none⟩) hww (.int .i64 0)).set (p := ⟨w.heap.size, 2, none⟩) hww (.int .i64 0)).set (p := ⟨w.heap.size, 3, none⟩) hww (.int .i64 0)).set (p := ⟨w.heap.size, 4, none⟩) hww (.int .i64 0)).set (p := ⟨w.heap.size, 5, none⟩) hww (.slice none 0 0))
          obtain ⟨-, y0, y1, y2, y3, y4, y5⟩ := HE.out.in
          obtain ⟨hzl, z0, z1, z2, z3, z4, z5⟩ := HZr.out.in
          have hzf := HZr.out.frozen
          simp only at y0 y1 y2 y3 y4 y5 z0 z1 z2 z3 z4 z5
          have HNo : Hid (ParseP s (Md.pm ⟨0, 0, 0, 0, 0, none, 0, 0, []⟩) false) := HNo0.out
          go_wp2
          exact bodyPost_ret (v := .tuple #[modelV ⟨0, 0, 0, 0, 0, none, 0, 0, []⟩, .bool false]) (by simp [results, Tryz.results6, go_sem, y0, y1, y2, y3, y4, y5]) rfl ⟨⟨0, 0, 0, 0, 0, none, 0, 0, []⟩, false, rfl, nil_ok _, HNo.out, HJf.out⟩

        · have hL1 : (L == 0) = false := by simpa using hL0
          have hL2 : (L != 0) = true := by simpa using hL0
          have HZr := hid (HZ.out.jk HJ.out)
          have HE := hid ((((((HZr.out.setD 0).setK 0).setB0 0).setB1 0).setB2 0).setT none 0 0 [])
          have hww : w.heap.size ≤ w.heap.size := Nat.le_refl _
          have HJf := hid (((((((HJz.out.trans HJ.out).set (p := ⟨w.heap.size, 0, none⟩) hww (.int .i64 0)).set (p := ⟨w.heap.size, 1, none⟩) hww (.int .i64 0)).set (p := ⟨w.heap.size, 2, none⟩) hww (.int .i64 0)).set (p := ⟨w.heap.size, 3, none⟩) hww (.int .i64 0)).set (p := ⟨w.heap.size, 4, none⟩) hww (.int .i64 0)).set (p := ⟨w.heap.size, 5, none⟩) hww (.slice none 0 0))
          obtain ⟨-, y0, y1, y2, y3, y4, y5⟩ := HE.out.in
          obtain ⟨hzl, z0, z1, z2, z3, z4, z5⟩ := HZr.out.in
          have hzf := HZr.out.frozen
          simp only at y0 y1 y2 y3 y4 y5 z0 z1 z2 z3 z4 z5
          have HNo : Hid (ParseP s (Md.pm ⟨0, 0, 0, 0, 0, none, 0, 0, []⟩) false) := HNo0.out
          go_wp2
          exact bodyPost_ret (v := .tuple #[modelV ⟨0, 0, 0, 0, 0, none, 0, 0, []⟩, .bool false]) (by simp [results, Tryz.results6, go_sem, y0, y1, y2, y3, y4, y5]) rfl ⟨⟨0, 0, 0, 0, 0, none, 0, 0, []⟩, false, rfl, nil_ok _, HNo.out, HJf.out⟩
    · have hjl : j < s.length := by omega
      have hlt : (j : Int) < (s.length : Int) := by omega
      have hg := HGet.out j (by omega)
      have hcut := HCut.out j hjl
      have HRj : Hid (refR (byteAt s j :: s.drop (j + 1)) ⟨Md.pm ⟨d, k, b0, b1, b2, a, n, c, ts⟩, L, A, u⟩ = refR s Rs.init) := by
        rw [← drop_byte s j hjl]
        exact HR.out
      obtain ⟨b, hb⟩ : ∃ b, byteAt s j = b := ⟨_, rfl⟩
      rw [hb] at hg hcut HRj
      clear hb HR
      by_cases hc : b = 10
      · subst hc
        clear hcut
        have HLy : Hid (∀ m' L', lineF (Md.pm ⟨d, k, b0, b1, b2, a, n, c, ts⟩) L (A + 1) (wordsF [] u) = some (m', L') → refR (s.drop (j + 1)) ⟨m', L', A + 1, []⟩ = refR s Rs.init) := (refR_line HRj.out).1
        have HLno : Hid (lineF (Md.pm ⟨d, k, b0, b1, b2, a, n, c, ts⟩) L (A + 1) (wordsF [] u) = none → refR s Rs.init = none) := (refR_line HRj.out).2
        have HWl := hid (fun i => wA_len (l := u) (u := []) i)
        obtain ⟨W, hW⟩ : ∃ W, wordsF [] u = W := ⟨_, rfl⟩
        have hWn := wordsF_len u []
        have HWs := hid (words_any u wr (by omega))
        rw [hW] at HLy HLno HWl hWn HWs
        simp only [tx] at HWs
        clear hW HRj
        go_upto_region 14 with (go_at_call 15; refine HWs.out.mono ?_; rintro e w2 ⟨g, cw, rfl, hat, hgl, hgB, hWc, hcm, hj2⟩; have HAt := hid hat; have HJ2 := hid (HJ.out.trans hj2); have HP2 := hid (HP.out.jk hj2); have HGB : Hid (w.heap.size + 1 + 1 ≤ g) := Nat.le_trans HP.out.sz hgB; have HGT : Hid ((Value.slice a n c).ownBlock ≠ some g) := (fun e => by have h5 := (World.ownsRow.lt HP.out.own.2 g e).2; omega); have HGU : Hid (∀ i, i < n → (wv (tA ts i)).ownBlock ≠ some g) := (fun i hi e => by have h5 := (World.ownsRow.lt (HP.out.each i hi).2 g e).2; omega); clear hat hj2 hgB)
        clear HWs HP HJ
        obtain ⟨ml, m0, m1, m2, m3, m4, m5⟩ := HP2.out.box.in
        have hmf := HP2.out.box.frozen
        simp only at m0 m1 m2 m3 m4 m5
        have hzz := HZs.out
        obtain ⟨nW, hnW⟩ : ∃ n, W.length = n := ⟨_, rfl⟩
        have HnW := hid hnW
        rw [hnW] at hWn hWc ⊢
        clear hnW
        rcases (show A = 0 ∨ A = 1 ∨ 2 ≤ A by omega) with rfl | rfl | hA2
        · by_cases h3 : nW = 3
          · subst h3
            have HN1 : Hid (refR (s.drop (j + 1)) ⟨⟨smV (wA W 1), smV (wA W 2), b0, b1, b2, ts.map Tr.pt⟩, L, 0 + 1, []⟩ = refR s Rs.init) := HLy.out _ _ (by unfold lineF; rw [if_pos ⟨rfl, HnW.out⟩]; exact rfl)
            have c1 : w2.cell? ⟨g, 1, none⟩ = some (.string ⟨(wA W 1).toArray⟩) := by
              have := HAt.out 1 (by have := HnW.out; omega)
              rwa [Nat.zero_add] at this
            have c2 : w2.cell? ⟨g, 2, none⟩ = some (.string ⟨(wA W 2).toArray⟩) := by
              have := HAt.out 2 (by have := HnW.out; omega)
              rwa [Nat.zero_add] at this
            have hl1 := HWl.out 1
            have hl2 := HWl.out 2
            obtain ⟨t1, ht1⟩ : ∃ t, wA W 1 = t := ⟨_, rfl⟩
            obtain ⟨t2, ht2⟩ : ∃ t, wA W 2 = t := ⟨_, rfl⟩
            rw [ht1] at c1 hl1 HN1
            rw [ht2] at c2 hl2 HN1
            have HS1 := hid (small_w t1 (by simp at hl1; omega) w2)
            have HS2 := hid (small_w t2 (by simp at hl2; omega) w2)
            have hv1 := smV_bd t1
            have hv2 := smV_bd t2
            obtain ⟨p1, hp1⟩ : ∃ p, smV t1 = p := ⟨_, rfl⟩
            obtain ⟨p2, hp2⟩ : ∃ p, smV t2 = p := ⟨_, rfl⟩
            rw [hp1] at HS1 HN1 hv1
            rw [hp2] at HS2 HN1 hv2
            have hgh : g ≠ w.heap.size + 1 := by have := HGB.out; omega
            have HSS : Hid (∀ z, Jk w2 z → (z.cell? ⟨g, 1, none⟩ = some (.string ⟨t1.toArray⟩) ∧ z.cell? ⟨g, 2, none⟩ = some (.string ⟨t2.toArray⟩))) := fun z hz => by
              have q := fun i => hz.below.cell (p := ⟨g, i, none⟩) hgl
              rw [q, q]
              exact ⟨c1, c2⟩
            have HST : Hid (∀ z i x, Jk w2 z → ((z.setCell ⟨w.heap.size + 1, i, none⟩ x).cell? ⟨g, 1, none⟩ = some (.string ⟨t1.toArray⟩) ∧ (z.setCell ⟨w.heap.size + 1, i, none⟩ x).cell? ⟨g, 2, none⟩ = some (.string ⟨t2.toArray⟩))) := fun z i x hz => by
              have q := fun o => cell_same (o := o) (Below.heap_setCell z ⟨w.heap.size + 1, i, none⟩ x g (by simpa using hgh))
              rw [q, q]
              exact HSS.out z hz
            have HST2 : Hid (∀ z i x i' x', Jk w2 z → (((z.setCell ⟨w.heap.size + 1, i, none⟩ x).setCell ⟨w.heap.size + 1, i', none⟩ x').cell? ⟨g, 1, none⟩ = some (.string ⟨t1.toArray⟩) ∧ ((z.setCell ⟨w.heap.size + 1, i, none⟩ x).setCell ⟨w.heap.size + 1, i', none⟩ x').cell? ⟨g, 2, none⟩ = some (.string ⟨t2.toArray⟩))) := fun z i x i' x' hz => by
              have q := fun o => cell_same (o := o) (Below.heap_setCell (z.setCell ⟨w.heap.size + 1, i, none⟩ x) ⟨w.heap.size + 1, i', none⟩ x' g (by simpa using hgh))
              rw [q, q]
              exact HST.out z i x hz
            clear ht1 ht2 hp1 hp2 HnW HLy HLno HWl hl1 hl2
            go_upto_region 15 with fail
            go_region_held3 (fun z => z.cell? ⟨g, 1, none⟩ = some (.string ⟨t1.toArray⟩) ∧ z.cell? ⟨g, 2, none⟩ = some (.string ⟨t2.toArray⟩))
              (first | (refine HST2.out _ _ _ _ _ ?_; assumption) | (refine HST.out _ _ _ ?_; assumption) | (refine HSS.out _ ?_; repeat (with_reducible first | assumption | exact Jk.refl _ | apply Jk.drew)))
              (first
                | (go_at_call 16; refine (AnsW.on (by with_reducible first | exact HS1.out | exact HS2.out) _ (by repeat (with_reducible first | assumption | exact Jk.refl _ | apply Jk.drew))).mono ?_; rintro e wq ⟨rfl, hjq⟩; have hJq : Jk w2 wq := Jk.trans (by repeat (with_reducible first | assumption | exact Jk.refl _ | apply Jk.drew)) hjq; clear hjq; have HPq := hid (HP2.out.jk hJq); have HJq := hid (HJ2.out.trans hJq); obtain ⟨ql, q0, q1, q2, q3, q4, q5⟩ := HPq.out.box.in; have qf := HPq.out.box.frozen; simp only at q0 q1 q2 q3 q4 q5))
            all_goals
              go_wp2
              go_roundg (gk - 1)
              case measure => omega
              case rel =>
                refine ⟨j + 1, 1, L, [], ⟨p1, p2, b0, b1, b2, a, n, c, ts⟩, by go_num, rfl, rfl, rfl, by omega, hid (HPq.out.put ((grown_set _ _ 0 _).trans (grown_set _ _ 1 _)) ((HPq.out.box.setD p1).setK p2) rfl rfl rfl rfl ⟨⟨by simp only; omega, by simp only; omega⟩, ⟨by simp only; omega, by simp only; omega⟩, HPq.out.fit.2.2.1, HPq.out.fit.2.2.2.1, HPq.out.fit.2.2.2.2⟩), hid ((HJq.out.set (by have := HZs.out; simp only; omega) _).set (by have := HZs.out; simp only; omega) _), HN1, by simp, by omega, hL, by simp only; omega, hid (fun i hi => Nat.le_succ_of_le (HTn.out i hi)), HLn⟩
          · have h3' : ¬ (nW : Int) = 3 := by omega
            have h3b : ((nW : Int) == 3) = false := by simpa using h3'
            have HNf : Hid (lineF (Md.pm ⟨d, k, b0, b1, b2, a, n, c, ts⟩) L (0 + 1) W = none) := by
              have := HnW.out
              unfold lineF
              rw [if_neg (by omega), if_neg (by omega), if_neg (by omega), if_neg (by omega)]
              exact rfl
            have HZr := hid (HZ.out.jk HJ2.out)
            have HE := hid ((((((HZr.out.setD 0).setK 0).setB0 0).setB1 0).setB2 0).setT none 0 0 [])
            have hww : w.heap.size ≤ w.heap.size := Nat.le_refl _
            have HJf := hid (((((((HJz.out.trans HJ2.out).set (p := ⟨w.heap.size, 0, none⟩) hww (.int .i64 0)).set (p := ⟨w.heap.size, 1, none⟩) hww (.int .i64 0)).set (p := ⟨w.heap.size, 2, none⟩) hww (.int .i64 0)).set (p := ⟨w.heap.size, 3, none⟩) hww (.int .i64 0)).set (p := ⟨w.heap.size, 4, none⟩) hww (.int .i64 0)).set (p := ⟨w.heap.size, 5, none⟩) hww (.slice none 0 0))
            obtain ⟨-, y0, y1, y2, y3, y4, y5⟩ := HE.out.in
            obtain ⟨hzl, z0, z1, z2, z3, z4, z5⟩ := HZr.out.in
            have hzf := HZr.out.frozen
            simp only at y0 y1 y2 y3 y4 y5 z0 z1 z2 z3 z4 z5
            have HNo : Hid (ParseP s (Md.pm ⟨0, 0, 0, 0, 0, none, 0, 0, []⟩) false) := by rw [show Md.pm ⟨0, 0, 0, 0, 0, none, 0, 0, []⟩ = Pm.nil from rfl]; exact no_of (HLno.out HNf.out)
            go_wp2
            exact bodyPost_ret (v := .tuple #[modelV ⟨0, 0, 0, 0, 0, none, 0, 0, []⟩, .bool false]) (by simp [results, Tryz.results6, go_sem, y0, y1, y2, y3, y4, y5]) rfl ⟨⟨0, 0, 0, 0, 0, none, 0, 0, []⟩, false, rfl, nil_ok _, HNo.out, HJf.out⟩
        · by_cases hyes : (1 ≤ k ∧ k ≤ 3) ∧ (nW : Int) = 1 + k
          · obtain ⟨hk13, hnk⟩ := hyes
            obtain ⟨K, rfl⟩ := Int.eq_ofNat_of_zero_le (show 0 ≤ k by omega)
            have hKn : nW = 1 + K := by omega
            subst hKn
            have hk1' : 1 ≤ (K : Int) := hk13.1
            have hk3' : (K : Int) ≤ 3 := hk13.2
            have hnb : (((1 + K : Nat) : Int) == 1 + (K : Int)) = true := by simp
            have hne : ((1 + K : Nat) : Int) = 1 + (K : Int) := by omega
            have HN1 : Hid (refR (s.drop (j + 1)) ⟨⟨d, (K : Int), scanN (wA W 1), if 2 ≤ (K : Int) then scanN (wA W 2) else b1, if 3 ≤ (K : Int) then scanN (wA W 3) else b2, ts.map Tr.pt⟩, L, 1 + 1, []⟩ = refR s Rs.init) := HLy.out _ _ (by
              unfold lineF
              rw [if_neg (by omega), if_pos ⟨rfl, hk13, by rw [HnW.out]; exact hne⟩]
              exact rfl)
            have HW1 := hid HWl.out
            have hwk : IntKind.i64.wrap (1 + (K : Int)) = 1 + (K : Int) := i64_in (by omega) (by omega)
            clear HLy HLno hnk hk13
            have hKc : K = 1 ∨ K = 2 ∨ K = 3 := by omega
            obtain ⟨G, rfl⟩ : ∃ G, gk = G + 1 := ⟨gk - 1, by omega⟩
            go_upto_region 18 with fail
            go_loopg [76] K (fun r i wr => ∃ (q : Nat), i = .int .i64 (q : Int) ∧ q + r = K ∧ Hid (PS (w.heap.size + 1 + 1) wr (w.heap.size + 1) ⟨d, K, if 0 < q then scanN (wA W 1) else b0, if 1 < q then scanN (wA W 2) else b1, if 2 < q then scanN (wA W 3) else b2, a, n, c, ts⟩) ∧ Hid (Jk wz wr) ∧ Hid (AtS wr g 0 W ∧ g < wr.heap.size))
            case atStart => exact ⟨0, rfl, by omega, HP2, HJ2, hid ⟨HAt.out, hgl⟩⟩
            case round =>
              obtain ⟨q, rfl, hq, HPq, HJq, HAq⟩ := hrel
              clear HP2 HJ2 HAt hgl ml m0 m1 m2 m3 m4 m5 hmf
              by_cases hkq : gk = 0
              · subst hkq
                obtain rfl : q = K := by omega
                obtain ⟨ml, m0, m1, m2, m3, m4, m5⟩ := HPq.out.box.in
                simp only at m0 m1 m2 m3 m4 m5
                go_wp2
                go_roundg G
                case measure => omega
                case rel =>
                  refine ⟨j + 1, 2, L, [], _, by go_num, rfl, rfl, rfl, by omega, HPq, HJq, ?_, by simp, by omega, hL, by simp only; omega, hid (fun i hi => Nat.le_succ_of_le (HTn.out i hi)), HLn⟩
                  rcases hKc with rfl | rfl | rfl <;> exact HN1
              · obtain ⟨r, rfl⟩ : ∃ r, gk = r + 1 := ⟨gk - 1, by omega⟩
                have hqlt : (q : Int) < (K : Int) := by omega
                have hq3 : q = 0 ∨ q = 1 ∨ q = 2 := by omega
                have cq : wr.cell? ⟨g, 1 + q, none⟩ = some (.string ⟨(wA W (1 + q)).toArray⟩) := by
                  have := HAq.out.1 (1 + q) (by rw [HnW.out]; omega)
                  rwa [Nat.zero_add] at this
                have hgr := HAq.out.2
                have htl := HW1.out (1 + q)
                have HX : Hid (scanN (wA W (1 + q)) = scanN (wA W (1 + q))) := rfl
                have hx := scanN_bd (wA W (1 + q))
                have HSc := hid (rscan_w (wA W (1 + q)) (by simp at htl; omega) wr)
                obtain ⟨x, hxe⟩ : ∃ x, scanN (wA W (1 + q)) = x := ⟨_, rfl⟩
                obtain ⟨y, hye⟩ : ∃ y, scanB (wA W (1 + q)) = y := ⟨_, rfl⟩
                have HXe := hid hxe
                rw [hxe] at hx HSc
                rw [hye] at HSc
                obtain ⟨t, ht⟩ : ∃ t, wA W (1 + q) = t := ⟨_, rfl⟩
                rw [ht] at cq HSc
                clear hxe hye ht htl HX
                obtain ⟨ml, m0, m1, m2, m3, m4, m5⟩ := HPq.out.box.in
                have hmf := HPq.out.box.frozen
                simp only at m0 m1 m2 m3 m4 m5
                rcases hq3 with rfl | rfl | rfl
                · have cq' : wr.cell? ⟨g, 1, none⟩ = some (.string ⟨t.toArray⟩) := cq
                  have HXq : Hid (scanN (wA W 1) = x) := HXe.out
                  clear cq
                  go_wp2_with (go_at_call 17; refine (HSc.out.on _ (Jk.refl _)).mono ?_; rintro e w3 ⟨rfl, hj3⟩; have HJ3 := hid (HJq.out.trans hj3); have HP3 := hid (HPq.out.jk hj3); have HA3 : Hid (AtS w3 g 0 W ∧ g < w3.heap.size) := ⟨HAq.out.1.jk hj3 HAq.out.2, Nat.lt_of_lt_of_le HAq.out.2 hj3.below.size⟩; obtain ⟨ql, q0, q1, q2, q3, q4, q5⟩ := HP3.out.box.in; have qf := HP3.out.box.frozen; simp only at q0 q1 q2 q3 q4 q5; clear hj3)
                  go_roundg r
                  case measure => omega
                  case rel =>
                    have hgh : g ≠ w.heap.size + 1 := by have := HGB.out; omega
                    refine ⟨1, by go_num, by omega, ?_, hid (HJ3.out.set (by have := HZs.out; simp only; omega) _), hid ⟨fun i hi => (cell_same (Below.heap_setCell w3 ⟨w.heap.size + 1, 2, none⟩ _ g (by simpa using hgh))).trans (HA3.out.1 i hi), by simpa [World.setCell] using HA3.out.2⟩⟩
                    have hput := HP3.out.put (grown_set w3 (w.heap.size + 1) 2 (.int .i64 x)) (HP3.out.box.setB0 x) rfl rfl rfl rfl ⟨HP3.out.fit.1, HP3.out.fit.2.1, ⟨hx.1, hx.2⟩, HP3.out.fit.2.2.2.1, HP3.out.fit.2.2.2.2⟩
                    rw [HXq.out]
                    exact hid hput
                · have cq' : wr.cell? ⟨g, 2, none⟩ = some (.string ⟨t.toArray⟩) := cq
                  have HXq : Hid (scanN (wA W 2) = x) := HXe.out
                  clear cq
                  go_wp2_with (go_at_call 17; refine (HSc.out.on _ (Jk.refl _)).mono ?_; rintro e w3 ⟨rfl, hj3⟩; have HJ3 := hid (HJq.out.trans hj3); have HP3 := hid (HPq.out.jk hj3); have HA3 : Hid (AtS w3 g 0 W ∧ g < w3.heap.size) := ⟨HAq.out.1.jk hj3 HAq.out.2, Nat.lt_of_lt_of_le HAq.out.2 hj3.below.size⟩; obtain ⟨ql, q0, q1, q2, q3, q4, q5⟩ := HP3.out.box.in; have qf := HP3.out.box.frozen; simp only at q0 q1 q2 q3 q4 q5; clear hj3)
                  go_roundg r
                  case measure => omega
                  case rel =>
                    have hgh : g ≠ w.heap.size + 1 := by have := HGB.out; omega
                    refine ⟨2, by go_num, by omega, ?_, hid (HJ3.out.set (by have := HZs.out; simp only; omega) _), hid ⟨fun i hi => (cell_same (Below.heap_setCell w3 ⟨w.heap.size + 1, 3, none⟩ _ g (by simpa using hgh))).trans (HA3.out.1 i hi), by simpa [World.setCell] using HA3.out.2⟩⟩
                    have hput := HP3.out.put (grown_set w3 (w.heap.size + 1) 3 (.int .i64 x)) (HP3.out.box.setB1 x) rfl rfl rfl rfl ⟨HP3.out.fit.1, HP3.out.fit.2.1, HP3.out.fit.2.2.1, ⟨hx.1, hx.2⟩, HP3.out.fit.2.2.2.2⟩
                    rw [HXq.out]
                    exact hid hput
                · have cq' : wr.cell? ⟨g, 3, none⟩ = some (.string ⟨t.toArray⟩) := cq
                  have HXq : Hid (scanN (wA W 3) = x) := HXe.out
                  clear cq
                  go_wp2_with (go_at_call 17; refine (HSc.out.on _ (Jk.refl _)).mono ?_; rintro e w3 ⟨rfl, hj3⟩; have HJ3 := hid (HJq.out.trans hj3); have HP3 := hid (HPq.out.jk hj3); have HA3 : Hid (AtS w3 g 0 W ∧ g < w3.heap.size) := ⟨HAq.out.1.jk hj3 HAq.out.2, Nat.lt_of_lt_of_le HAq.out.2 hj3.below.size⟩; obtain ⟨ql, q0, q1, q2, q3, q4, q5⟩ := HP3.out.box.in; have qf := HP3.out.box.frozen; simp only at q0 q1 q2 q3 q4 q5; clear hj3)
                  go_roundg r
                  case measure => omega
                  case rel =>
                    have hgh : g ≠ w.heap.size + 1 := by have := HGB.out; omega
                    refine ⟨3, by go_num, by omega, ?_, hid (HJ3.out.set (by have := HZs.out; simp only; omega) _), hid ⟨fun i hi => (cell_same (Below.heap_setCell w3 ⟨w.heap.size + 1, 4, none⟩ _ g (by simpa using hgh))).trans (HA3.out.1 i hi), by simpa [World.setCell] using HA3.out.2⟩⟩
                    have hput := HP3.out.put (grown_set w3 (w.heap.size + 1) 4 (.int .i64 x)) (HP3.out.box.setB2 x) rfl rfl rfl rfl ⟨HP3.out.fit.1, HP3.out.fit.2.1, HP3.out.fit.2.2.1, HP3.out.fit.2.2.2.1, ⟨hx.1, hx.2⟩⟩
                    rw [HXq.out]
                    exact hid hput
          · have HNf : Hid (lineF (Md.pm ⟨d, k, b0, b1, b2, a, n, c, ts⟩) L (1 + 1) W = none) := by
              have := HnW.out
              unfold lineF
              simp only [Md.pm]
              rw [if_neg (by omega), if_neg (by omega), if_neg (by omega), if_neg (by omega)]
              exact rfl
            by_cases hk1 : k < 1
            · have hk1' : ¬ 1 ≤ k := by omega
              have HZr := hid (HZ.out.jk HJ2.out)
              have HE := hid ((((((HZr.out.setD 0).setK 0).setB0 0).setB1 0).setB2 0).setT none 0 0 [])
              have hww : w.heap.size ≤ w.heap.size := Nat.le_refl _
              have HJf := hid (((((((HJz.out.trans HJ2.out).set (p := ⟨w.heap.size, 0, none⟩) hww (.int .i64 0)).set (p := ⟨w.heap.size, 1, none⟩) hww (.int .i64 0)).set (p := ⟨w.heap.size, 2, none⟩) hww (.int .i64 0)).set (p := ⟨w.heap.size, 3, none⟩) hww (.int .i64 0)).set (p := ⟨w.heap.size, 4, none⟩) hww (.int .i64 0)).set (p := ⟨w.heap.size, 5, none⟩) hww (.slice none 0 0))
              obtain ⟨-, y0, y1, y2, y3, y4, y5⟩ := HE.out.in
              obtain ⟨hzl, z0, z1, z2, z3, z4, z5⟩ := HZr.out.in
              have hzf := HZr.out.frozen
              simp only at y0 y1 y2 y3 y4 y5 z0 z1 z2 z3 z4 z5
              have HNo : Hid (ParseP s (Md.pm ⟨0, 0, 0, 0, 0, none, 0, 0, []⟩) false) := by rw [show Md.pm ⟨0, 0, 0, 0, 0, none, 0, 0, []⟩ = Pm.nil from rfl]; exact no_of (HLno.out HNf.out)
              go_wp2
              exact bodyPost_ret (v := .tuple #[modelV ⟨0, 0, 0, 0, 0, none, 0, 0, []⟩, .bool false]) (by simp [results, Tryz.results6, go_sem, y0, y1, y2, y3, y4, y5]) rfl ⟨⟨0, 0, 0, 0, 0, none, 0, 0, []⟩, false, rfl, nil_ok _, HNo.out, HJf.out⟩
            · have hk1' : 1 ≤ k := by omega
              by_cases hk3 : 3 < k
              · have hk3' : ¬ k ≤ 3 := by omega
                have HZr := hid (HZ.out.jk HJ2.out)
                have HE := hid ((((((HZr.out.setD 0).setK 0).setB0 0).setB1 0).setB2 0).setT none 0 0 [])
                have hww : w.heap.size ≤ w.heap.size := Nat.le_refl _
                have HJf := hid (((((((HJz.out.trans HJ2.out).set (p := ⟨w.heap.size, 0, none⟩) hww (.int .i64 0)).set (p := ⟨w.heap.size, 1, none⟩) hww (.int .i64 0)).set (p := ⟨w.heap.size, 2, none⟩) hww (.int .i64 0)).set (p := ⟨w.heap.size, 3, none⟩) hww (.int .i64 0)).set (p := ⟨w.heap.size, 4, none⟩) hww (.int .i64 0)).set (p := ⟨w.heap.size, 5, none⟩) hww (.slice none 0 0))
                obtain ⟨-, y0, y1, y2, y3, y4, y5⟩ := HE.out.in
                obtain ⟨hzl, z0, z1, z2, z3, z4, z5⟩ := HZr.out.in
                have hzf := HZr.out.frozen
                simp only at y0 y1 y2 y3 y4 y5 z0 z1 z2 z3 z4 z5
                have HNo : Hid (ParseP s (Md.pm ⟨0, 0, 0, 0, 0, none, 0, 0, []⟩) false) := by rw [show Md.pm ⟨0, 0, 0, 0, 0, none, 0, 0, []⟩ = Pm.nil from rfl]; exact no_of (HLno.out HNf.out)
                go_wp2
                exact bodyPost_ret (v := .tuple #[modelV ⟨0, 0, 0, 0, 0, none, 0, 0, []⟩, .bool false]) (by simp [results, Tryz.results6, go_sem, y0, y1, y2, y3, y4, y5]) rfl ⟨⟨0, 0, 0, 0, 0, none, 0, 0, []⟩, false, rfl, nil_ok _, HNo.out, HJf.out⟩
              · have hk3' : k ≤ 3 := by omega
                have h1k : ¬ (nW : Int) = 1 + k := by omega
                have h1b : ((nW : Int) == 1 + k) = false := by simpa using h1k
                have hwk : IntKind.i64.wrap (1 + k) = 1 + k := i64_in (by omega) (by omega)
                have HZr := hid (HZ.out.jk HJ2.out)
                have HE := hid ((((((HZr.out.setD 0).setK 0).setB0 0).setB1 0).setB2 0).setT none 0 0 [])
                have hww : w.heap.size ≤ w.heap.size := Nat.le_refl _
                have HJf := hid (((((((HJz.out.trans HJ2.out).set (p := ⟨w.heap.size, 0, none⟩) hww (.int .i64 0)).set (p := ⟨w.heap.size, 1, none⟩) hww (.int .i64 0)).set (p := ⟨w.heap.size, 2, none⟩) hww (.int .i64 0)).set (p := ⟨w.heap.size, 3, none⟩) hww (.int .i64 0)).set (p := ⟨w.heap.size, 4, none⟩) hww (.int .i64 0)).set (p := ⟨w.heap.size, 5, none⟩) hww (.slice none 0 0))
                obtain ⟨-, y0, y1, y2, y3, y4, y5⟩ := HE.out.in
                obtain ⟨hzl, z0, z1, z2, z3, z4, z5⟩ := HZr.out.in
                have hzf := HZr.out.frozen
                simp only at y0 y1 y2 y3 y4 y5 z0 z1 z2 z3 z4 z5
                have HNo : Hid (ParseP s (Md.pm ⟨0, 0, 0, 0, 0, none, 0, 0, []⟩) false) := by rw [show Md.pm ⟨0, 0, 0, 0, 0, none, 0, 0, []⟩ = Pm.nil from rfl]; exact no_of (HLno.out HNf.out)
                go_wp2
                exact bodyPost_ret (v := .tuple #[modelV ⟨0, 0, 0, 0, 0, none, 0, 0, []⟩, .bool false]) (by simp [results, Tryz.results6, go_sem, y0, y1, y2, y3, y4, y5]) rfl ⟨⟨0, 0, 0, 0, 0, none, 0, 0, []⟩, false, rfl, nil_ok _, HNo.out, HJf.out⟩
        · have hA11 : ¬ (A : Int) + 1 = 1 := by omega
          have hA12 : ¬ (A : Int) + 1 = 2 := by omega
          have hA1b : ((A : Int) + 1 == 1) = false := by simpa using hA11
          have hA2b : ((A : Int) + 1 == 2) = false := by simpa using hA12
          have hA3 : 2 < (A : Int) + 1 := by omega
          by_cases hL0 : L = 0
          · subst hL0
            by_cases h3 : nW = 3
            · subst h3
              have HN1 : Hid (refR (s.drop (j + 1)) ⟨⟨d, k, b0, b1, b2, ts.map Tr.pt ++ [⟨smV (wA W 1), []⟩]⟩, smV (wA W 2), A + 1, []⟩ = refR s Rs.init) := HLy.out _ _ (by unfold lineF; rw [if_neg (by omega), if_neg (by omega), if_pos ⟨by omega, rfl, HnW.out⟩]; exact rfl)
              have c1 : w2.cell? ⟨g, 1, none⟩ = some (.string ⟨(wA W 1).toArray⟩) := by
                have := HAt.out 1 (by have := HnW.out; omega)
                rwa [Nat.zero_add] at this
              have c2 : w2.cell? ⟨g, 2, none⟩ = some (.string ⟨(wA W 2).toArray⟩) := by
                have := HAt.out 2 (by have := HnW.out; omega)
                rwa [Nat.zero_add] at this
              have hl1 := HWl.out 1
              have hl2 := HWl.out 2
              obtain ⟨t1, ht1⟩ : ∃ t, wA W 1 = t := ⟨_, rfl⟩
              obtain ⟨t2, ht2⟩ : ∃ t, wA W 2 = t := ⟨_, rfl⟩
              rw [ht1] at c1 hl1 HN1
              rw [ht2] at c2 hl2 HN1
              have HS1 := hid (small_w t1 (by simp at hl1; omega) w2)
              have HS2 := hid (small_w t2 (by simp at hl2; omega) w2)
              have hv1 := smV_bd t1
              have hv2 := smV_bd t2
              have HTl2 : Hid (t2.length ≤ 800) := by simp at hl2; show _ ≤ _; omega
              obtain ⟨p1, hp1⟩ : ∃ p, smV t1 = p := ⟨_, rfl⟩
              obtain ⟨p2, hp2⟩ : ∃ p, smV t2 = p := ⟨_, rfl⟩
              rw [hp1] at HS1 HN1 hv1
              rw [hp2] at HS2 HN1 hv2
              have HP2e : Hid (smV t2 = p2) := hp2
              have hgh : g ≠ w.heap.size + 1 := by have := HGB.out; omega
              clear ht1 ht2 hp1 hp2 HnW HLy HLno HWl hl1 hl2
              go_upto_region 23 with fail
              refine region_mid 8 [0, 1, 2, 3, 4] [5, 6, 7] #[true, true, true, true, true, true, true, true, false, false, false] (by kernel_rfl) (by kernel_rfl) (fun _ _ d _ _ h => by cases d <;> exact h) ?_
              dsimp only [opersAt, List.getElem?_cons_zero, List.getElem?_cons_succ]
              repeat (go_big_quiet_step (first | exact rfl))
              refine wpQuiet_nil ?_
              intro K1 hK1
              go_simp
              go_at_call 16
              refine (HS1.out.on _ ((Jk.refl w2).drew)).mono ?_
              rintro e w3 ⟨rfl, hj3⟩
              have HJ3 : Hid (Jk w2 w3) := ((Jk.refl w2).drew).trans hj3
              clear hj3
              go_simp
              refine hK1 _ _ HJ3.out ?_
              clear hK1 K1
              intro K2 hK2
              go_simp
              refine hK2 _ _ HJ3.out ?_
              clear hK2 K2
              intro K3 hK3
              go_simp
              have HJ4 : Hid (Jk w2 (w3.alloc (.cells #[.int .i64 p1, .slice none 0 0] 44))) := HJ3.out.alloc _
              refine hK3 _ _ HJ4.out ?_
              clear hK3 K3
              have HP4 := hid (HP2.out.jk HJ4.out)
              refine list_appT (ys := [⟨p1, none, 0, 0, []⟩]) rfl (.tmp 105) (.tmp 111) rfl HP4.out.own HP4.out.sz rfl (some ⟨w3.heap.size, 0, none⟩) 1 1 rfl rfl (by decide) ⟨_, _, rfl, new_tree w3 _ _ _ _ _ rfl⟩ (by simp only; omega) (n + 1) rfl ?_
              intro g6 c6 w6 hO6 hG6 hg6
              have HB6 := hid (HP4.out.box_app hG6)
              have HAdd : Hid (∀ wz', w6.setCell ⟨w.heap.size + 1, 5, none⟩ (.slice (some ⟨g6, 0, none⟩) (n + 1) c6) = wz' → (PS (w.heap.size + 1 + 1) wz' (w.heap.size + 1) ⟨d, k, b0, b1, b2, some ⟨g6, 0, none⟩, n + 1, c6, ts ++ [⟨p1, none, 0, 0, []⟩]⟩ ∧ Jk wz wz' ∧ wz'.cell? ⟨g, 2, none⟩ = some (.string ⟨t2.toArray⟩) ∧ g < wz'.heap.size)) := fun wz' e => by
                have hj6 : Jk wz w6 := (HJ2.out.trans HJ4.out).grown hG6 (fun k hk => by have := HP4.out.own.base k hk; have := HZs.out; omega)
                have hg4 := Nat.lt_of_lt_of_le hgl HJ4.out.below.size
                refine ⟨HP4.out.add hO6 hG6 ⟨by omega, by omega⟩ e, e ▸ hj6.set (by have := HZs.out; simp only; omega) _, ?_, ?_⟩
                · rw [← e, cell_same (Below.heap_setCell w6 ⟨w.heap.size + 1, 5, none⟩ _ g (by simpa using hgh)), cell_same (hG6.block g hg4 (fun e2 => HGT.out e2.symm)), HJ4.out.below.cell (p := ⟨g, 2, none⟩) hgl]
                  exact c2
                · rw [← e]
                  have := hG6.size
                  simp [World.setCell]
                  omega
              obtain ⟨zl, z0, z1, z2, z3, z4, z5⟩ := HB6.out.in
              have zf := HB6.out.frozen
              simp only at z0 z1 z2 z3 z4 z5
              clear hO6 hG6 hg6 ml m0 m1 m2 m3 m4 m5 hmf c1 c2
              go_upto_region 24 with fail
              have hadd := HAdd.out _ rfl
              generalize w6.setCell ⟨w.heap.size + 1, 5, none⟩ (.slice (some ⟨g6, 0, none⟩) (n + 1) c6) = w7 at hadd ⊢
              have HP7 := hid hadd.1
              have HJ7 := hid hadd.2.1
              have c7 := hadd.2.2.1
              have g7 := hadd.2.2.2
              have HS7 := hid (small_w t2 (by have := HTl2.out; omega) w7)
              rw [HP2e.out] at HS7
              clear hadd HAdd zl z0 z1 z2 z3 z4 z5 zf HB6
              go_wp2_with (go_at_call 16; refine (HS7.out.on _ (Jk.refl _)).mono ?_; rintro e w8 ⟨rfl, hj8⟩; have HJ8 := hid (HJ7.out.trans hj8); have HP8 := hid (HP7.out.jk hj8); clear hj8)
              go_roundg (gk - 1)
              case measure => omega
              case rel =>
                refine ⟨j + 1, A + 1, p2, [], ⟨d, k, b0, b1, b2, some ⟨g6, 0, none⟩, n + 1, c6, ts ++ [⟨p1, none, 0, 0, []⟩]⟩, by go_num, rfl, rfl, by go_num, by omega, HP8, HJ8, hid ?_, by simp, by omega, hv2, by simp only; omega, hid (fun i hi => ?_), hid (fun _ => Nat.succ_pos n)⟩
                · have := HN1.out
                  simpa [Md.pm, Tr.pt] using this
                · have hl := HP2.out.own.1
                  simp only at hl hi ⊢
                  by_cases h : i < n
                  · rw [tA_append_left _ _ _ (by omega)]
                    exact Nat.le_succ_of_le (HTn.out i h)
                  · rw [tA_append_right _ _ _ (by omega), show i - ts.length = 0 by omega]
                    exact Nat.zero_le _
            · have h3' : ¬ (nW : Int) = 3 := by omega
              have h3b : ((nW : Int) == 3) = false := by simpa using h3'
              have HNf : Hid (lineF (Md.pm ⟨d, k, b0, b1, b2, a, n, c, ts⟩) 0 (A + 1) W = none) := by
                have := HnW.out
                unfold lineF
                rw [if_neg (by omega), if_neg (by omega), if_neg (by omega), if_neg (by omega)]
                exact rfl
              have HZr := hid (HZ.out.jk HJ2.out)
              have HE := hid ((((((HZr.out.setD 0).setK 0).setB0 0).setB1 0).setB2 0).setT none 0 0 [])
              have hww : w.heap.size ≤ w.heap.size := Nat.le_refl _
              have HJf := hid (((((((HJz.out.trans HJ2.out).set (p := ⟨w.heap.size, 0, none⟩) hww (.int .i64 0)).set (p := ⟨w.heap.size, 1, none⟩) hww (.int .i64 0)).set (p := ⟨w.heap.size, 2, none⟩) hww (.int .i64 0)).set (p := ⟨w.heap.size, 3, none⟩) hww (.int .i64 0)).set (p := ⟨w.heap.size, 4, none⟩) hww (.int .i64 0)).set (p := ⟨w.heap.size, 5, none⟩) hww (.slice none 0 0))
              obtain ⟨-, y0, y1, y2, y3, y4, y5⟩ := HE.out.in
              obtain ⟨hzl, z0, z1, z2, z3, z4, z5⟩ := HZr.out.in
              have hzf := HZr.out.frozen
              simp only at y0 y1 y2 y3 y4 y5 z0 z1 z2 z3 z4 z5
              have HNo : Hid (ParseP s (Md.pm ⟨0, 0, 0, 0, 0, none, 0, 0, []⟩) false) := by rw [show Md.pm ⟨0, 0, 0, 0, 0, none, 0, 0, []⟩ = Pm.nil from rfl]; exact no_of (HLno.out HNf.out)
              go_wp2
              exact bodyPost_ret (v := .tuple #[modelV ⟨0, 0, 0, 0, 0, none, 0, 0, []⟩, .bool false]) (by simp [results, Tryz.results6, go_sem, y0, y1, y2, y3, y4, y5]) rfl ⟨⟨0, 0, 0, 0, 0, none, 0, 0, []⟩, false, rfl, nil_ok _, HNo.out, HJf.out⟩
          · have hL1 : (L == 0) = false := by simpa using hL0
            by_cases hLp : 0 < L
            · by_cases h28 : nW = 2 ∨ nW = 8
              · have hn0 : 0 < n := HLn.out hLp
                have hln : ts.length = n := HP2.out.own.1
                obtain ⟨ts0, t, hts, hl0, hta⟩ := last_of (ts := ts) (by rw [hln]; exact hn0)
                obtain ⟨N, hN⟩ : ∃ N, ts0.length = N := ⟨_, rfl⟩
                obtain rfl : n = N + 1 := by omega
                subst hts
                have HN0 := hid hN
                have HTa : Hid (tA (ts0 ++ [t]) N = t) := by
                  have := hta
                  rwa [hln, Nat.add_sub_cancel] at this
                have HN1 : Hid (refR (s.drop (j + 1)) ⟨⟨d, k, b0, b1, b2, addLast ((ts0 ++ [t]).map Tr.pt) (lineNd W).pack⟩, L - 1, A + 1, []⟩ = refR s Rs.init) := HLy.out _ _ (by
                  have := HnW.out
                  unfold lineF
                  rw [if_neg (by omega), if_neg (by omega), if_neg (by omega), if_pos ⟨by omega, hLp, by omega⟩]
                  exact rfl)
                obtain ⟨bb, e, hbb⟩ : ∃ bb, a = some ⟨bb, 0, none⟩ ∧ w.heap.size + 1 + 1 ≤ bb := by
                  obtain ⟨a', c', e, q1, q2, q3⟩ := row_form HP2.out.own.2
                  simp only [Value.slice.injEq, true_and] at e
                  obtain ⟨bb, h1, h2, h3⟩ := q3 (Nat.succ_pos N)
                  exact ⟨bb, e.1.trans h1, h2⟩
                subst e
                have HBB := hid hbb
                have hwL : IntKind.i64.wrap (L - 1) = L - 1 := i64_in (by omega) (by omega)
                have hwN : IntKind.i64.wrap (((N + 1 : Nat) : Int) - 1) = (N : Int) := by rw [i64_in (by omega) (by omega)]; omega
                clear hta hl0 hln hN hbb HLy HLno
                rcases h28 with rfl | rfl
                case' inl =>
                  have hN2 : lineNd W = ⟨true, scanN (wA W 1), 0, 0, 0, 0⟩ := by unfold lineNd; rw [if_pos HnW.out]
                  rw [hN2] at HN1
                  clear hN2
                  have c1 : w2.cell? ⟨g, 1, none⟩ = some (.string ⟨(wA W 1).toArray⟩) := by
                    have := HAt.out 1 (by have := HnW.out; omega)
                    rwa [Nat.zero_add] at this
                  have hl1 := HWl.out 1
                  obtain ⟨t1, ht1⟩ : ∃ t, wA W 1 = t := ⟨_, rfl⟩
                  rw [ht1] at c1 hl1 HN1
                  have HS1 := hid (rscan_w t1 (by simp at hl1; omega) w2)
                  obtain ⟨p1, hp1⟩ : ∃ p, scanN t1 = p := ⟨_, rfl⟩
                  obtain ⟨o1, ho1⟩ : ∃ p, scanB t1 = p := ⟨_, rfl⟩
                  rw [hp1] at HS1 HN1
                  rw [ho1] at HS1
                  clear ht1 hp1 ho1
                  clear HWl HnW hl1
                  go_upto_region 28 with fail
                  have HJN : Hid (Jk w2 (w2.alloc (.cells #[.bool false, .int .i64 0, .int .i64 0, .int .i64 0, .int .i64 0, .int .i64 0] 53))) := (Jk.refl w2).alloc _
                  have HNN : Hid (NdB (w2.alloc (.cells #[.bool false, .int .i64 0, .int .i64 0, .int .i64 0, .int .i64 0, .int .i64 0] 53)) w2.heap.size Nd.nil) := NdB.laid w2 Nd.nil
                  generalize w2.alloc (.cells #[.bool false, .int .i64 0, .int .i64 0, .int .i64 0, .int .i64 0, .int .i64 0] 53) = wN at HJN HNN ⊢
                  obtain ⟨nb, hnbe⟩ : ∃ nb, w2.heap.size = nb := ⟨_, rfl⟩
                  rw [hnbe] at HNN ⊢
                  have hnb : w2.heap.size ≤ nb := by omega
                  clear hnbe
                  obtain ⟨n0, n1, n2, n3, n4, n5⟩ := HNN.out.cells
                  have nf := HNN.out.frozen
                  have nlt := HNN.out.lt
                  simp only at n0 n1 n2 n3 n4 n5
                  have HNM : Hid (NdB (wN.setCell ⟨nb, 0, none⟩ (.bool true)) nb ⟨true, 0, 0, 0, 0, 0⟩) := HNN.out.set0 true
                  have HJM : Hid (Jk w2 (wN.setCell ⟨nb, 0, none⟩ (.bool true))) := HJN.out.set hnb _
                  go_upto_region 29 with fail
                  generalize wN.setCell ⟨nb, 0, none⟩ (.bool true) = wM at HNM HJM ⊢
                  have cM : wM.cell? ⟨g, 1, none⟩ = some (.string ⟨t1.toArray⟩) := (HJM.out.below.cell (p := ⟨g, 1, none⟩) hgl).trans c1
                  have gM : g < wM.heap.size := Nat.lt_of_lt_of_le hgl HJM.out.below.size
                  have HSM := hid (HS1.out.at HJM.out)
                  clear n0 n1 n2 n3 n4 n5 nf nlt HNN HJN c1
                  go_upto_region 32 with (go_at_call 17; refine (HSM.out.on _ (Jk.refl _)).mono ?_; rintro e w4 ⟨rfl, hj4⟩; have HJ4 := hid (HJM.out.trans hj4); have HN4 := hid (HNM.out.jk' hj4); obtain ⟨n0, n1, n2, n3, n4, n5⟩ := HN4.out.cells; have nf := HN4.out.frozen; have nlt := HN4.out.lt; simp only at n0 n1 n2 n3 n4 n5; clear hj4)
                  have HN5 : Hid (NdB (w4.setCell ⟨nb, 1, none⟩ (.int .i64 p1)) nb ⟨true, p1, 0, 0, 0, 0⟩) := HN4.out.set1 p1
                  have HJ5 : Hid (Jk w2 (w4.setCell ⟨nb, 1, none⟩ (.int .i64 p1))) := HJ4.out.set hnb _
                  generalize w4.setCell ⟨nb, 1, none⟩ (.int .i64 p1) = w5 at HN5 HJ5 ⊢
                  clear n0 n1 n2 n3 n4 n5 nf nlt HNM HJM HN4 HJ4 cM gM HSM HS1
                  obtain ⟨⟨lf, nv, ne, na, nl, nr⟩, hND⟩ : ∃ ND : Nd, ND = ⟨true, p1, 0, 0, 0, 0⟩ := ⟨_, rfl⟩
                  rw [← hND] at HN1 HN5
                  clear hND
                case' inr =>
                  have hN2 : lineNd W = ⟨false, 0, smV (wA W 1), scanN (wA W 3), smV (wA W 5), smV (wA W 7)⟩ := by unfold lineNd; rw [if_neg (by rw [HnW.out]; decide)]
                  rw [hN2] at HN1
                  clear hN2
                  have c1 : w2.cell? ⟨g, 1, none⟩ = some (.string ⟨(wA W 1).toArray⟩) := by
                    have := HAt.out 1 (by have := HnW.out; omega)
                    rwa [Nat.zero_add] at this
                  have hl1 := HWl.out 1
                  obtain ⟨t1, ht1⟩ : ∃ t, wA W 1 = t := ⟨_, rfl⟩
                  rw [ht1] at c1 hl1 HN1
                  have HS1 := hid (small_w t1 (by simp at hl1; omega) w2)
                  obtain ⟨p1, hp1⟩ : ∃ p, smV t1 = p := ⟨_, rfl⟩
                  rw [hp1] at HS1 HN1
                  clear ht1 hp1
                  have c3 : w2.cell? ⟨g, 3, none⟩ = some (.string ⟨(wA W 3).toArray⟩) := by
                    have := HAt.out 3 (by have := HnW.out; omega)
                    rwa [Nat.zero_add] at this
                  have hl3 := HWl.out 3
                  obtain ⟨t3, ht3⟩ : ∃ t, wA W 3 = t := ⟨_, rfl⟩
                  rw [ht3] at c3 hl3 HN1
                  have HS3 := hid (rscan_w t3 (by simp at hl3; omega) w2)
                  obtain ⟨p3, hp3⟩ : ∃ p, scanN t3 = p := ⟨_, rfl⟩
                  obtain ⟨o3, ho3⟩ : ∃ p, scanB t3 = p := ⟨_, rfl⟩
                  rw [hp3] at HS3 HN1
                  rw [ho3] at HS3
                  clear ht3 hp3 ho3
                  have c5 : w2.cell? ⟨g, 5, none⟩ = some (.string ⟨(wA W 5).toArray⟩) := by
                    have := HAt.out 5 (by have := HnW.out; omega)
                    rwa [Nat.zero_add] at this
                  have hl5 := HWl.out 5
                  obtain ⟨t5, ht5⟩ : ∃ t, wA W 5 = t := ⟨_, rfl⟩
                  rw [ht5] at c5 hl5 HN1
                  have HS5 := hid (small_w t5 (by simp at hl5; omega) w2)
                  obtain ⟨p5, hp5⟩ : ∃ p, smV t5 = p := ⟨_, rfl⟩
                  rw [hp5] at HS5 HN1
                  clear ht5 hp5
                  have c7 : w2.cell? ⟨g, 7, none⟩ = some (.string ⟨(wA W 7).toArray⟩) := by
                    have := HAt.out 7 (by have := HnW.out; omega)
                    rwa [Nat.zero_add] at this
                  have hl7 := HWl.out 7
                  obtain ⟨t7, ht7⟩ : ∃ t, wA W 7 = t := ⟨_, rfl⟩
                  rw [ht7] at c7 hl7 HN1
                  have HS7 := hid (small_w t7 (by simp at hl7; omega) w2)
                  obtain ⟨p7, hp7⟩ : ∃ p, smV t7 = p := ⟨_, rfl⟩
                  rw [hp7] at HS7 HN1
                  clear ht7 hp7
                  clear HWl HnW hl1 hl3 hl5 hl7
                  go_upto_region 30 with fail
                  have HJN : Hid (Jk w2 (w2.alloc (.cells #[.bool false, .int .i64 0, .int .i64 0, .int .i64 0, .int .i64 0, .int .i64 0] 53))) := (Jk.refl w2).alloc _
                  have HNN : Hid (NdB (w2.alloc (.cells #[.bool false, .int .i64 0, .int .i64 0, .int .i64 0, .int .i64 0, .int .i64 0] 53)) w2.heap.size Nd.nil) := NdB.laid w2 Nd.nil
                  generalize w2.alloc (.cells #[.bool false, .int .i64 0, .int .i64 0, .int .i64 0, .int .i64 0, .int .i64 0] 53) = wN at HJN HNN ⊢
                  obtain ⟨nb, hnbe⟩ : ∃ nb, w2.heap.size = nb := ⟨_, rfl⟩
                  rw [hnbe] at HNN ⊢
                  have hnb : w2.heap.size ≤ nb := by omega
                  clear hnbe
                  obtain ⟨n0, n1, n2, n3, n4, n5⟩ := HNN.out.cells
                  have nf := HNN.out.frozen
                  have nlt := HNN.out.lt
                  simp only at n0 n1 n2 n3 n4 n5
                  have HSS : Hid (∀ z, Jk w2 z → (z.cell? ⟨g, 1, none⟩ = some (.string ⟨t1.toArray⟩) ∧ z.cell? ⟨g, 5, none⟩ = some (.string ⟨t5.toArray⟩) ∧ z.cell? ⟨g, 7, none⟩ = some (.string ⟨t7.toArray⟩))) := fun z hz => by
                    have q := fun i => hz.below.cell (p := ⟨g, i, none⟩) hgl
                    rw [q, q, q]
                    exact ⟨c1, c5, c7⟩
                  have HC3 : Hid (∀ z, Jk w2 z → z.cell? ⟨g, 3, none⟩ = some (.string ⟨t3.toArray⟩) ∧ g < z.heap.size) := fun z hz => by
                    have q := fun i => hz.below.cell (p := ⟨g, i, none⟩) hgl
                    rw [q]
                    exact ⟨c3, Nat.lt_of_lt_of_le hgl hz.below.size⟩
                  have hjN := HJN.out
                  have hcN := HSS.out _ hjN
                  obtain ⟨cN1, cN5, cN7⟩ := hcN
                  have gN : g < wN.heap.size := (HC3.out _ hjN).2
                  go_region_held3 (fun z => z.cell? ⟨g, 1, none⟩ = some (.string ⟨t1.toArray⟩) ∧ z.cell? ⟨g, 5, none⟩ = some (.string ⟨t5.toArray⟩) ∧ z.cell? ⟨g, 7, none⟩ = some (.string ⟨t7.toArray⟩))
                    (first | (refine HSS.out _ ?_; repeat (with_reducible first | assumption | exact Jk.refl _ | apply Jk.drew | exact hnb | apply Jk.set)))
                    (first
                      | (go_at_call 16; refine (AnsW.on (by with_reducible first | exact HS1.out | exact HS5.out | exact HS7.out) _ (by repeat (with_reducible first | assumption | exact Jk.refl _ | apply Jk.drew))).mono ?_; rintro e wq ⟨rfl, hjq⟩; have HNq := hid (NdB.jk' (w' := wq) (by with_reducible first | exact HNq.out | exact HNN.out) (Jk.trans (by repeat (with_reducible first | exact Jk.refl _ | apply Jk.drew)) hjq)); have hjN : Jk w2 wq := Jk.trans (by repeat (with_reducible first | assumption | exact Jk.refl _ | apply Jk.drew)) hjq; clear hjq; obtain ⟨n0, n1, n2, n3, n4, n5⟩ := HNq.out.cells; have nf := HNq.out.frozen; simp only at n0 n1 n2 n3 n4 n5))
                  have HNM : Hid (NdB (((wq.setCell ⟨nb, 2, none⟩ (.int .i64 p1)).setCell ⟨nb, 4, none⟩ (.int .i64 p5)).setCell ⟨nb, 5, none⟩ (.int .i64 p7)) nb ⟨false, 0, p1, 0, p5, p7⟩) := ((HNq.out.set2 p1).set4 p5).set5 p7
                  have HJM : Hid (Jk w2 (((wq.setCell ⟨nb, 2, none⟩ (.int .i64 p1)).setCell ⟨nb, 4, none⟩ (.int .i64 p5)).setCell ⟨nb, 5, none⟩ (.int .i64 p7))) := ((hjN.set hnb _).set hnb _).set hnb _
                  go_upto_region 31 with fail
                  generalize ((wq.setCell ⟨nb, 2, none⟩ (.int .i64 p1)).setCell ⟨nb, 4, none⟩ (.int .i64 p5)).setCell ⟨nb, 5, none⟩ (.int .i64 p7) = wM at HNM HJM ⊢
                  have cM := (HC3.out _ HJM.out).1
                  have gM := (HC3.out _ HJM.out).2
                  have HSM := hid (HS3.out.at HJM.out)
                  clear n0 n1 n2 n3 n4 n5 nf nlt HNN HJN c1 c3 c5 c7 cN1 cN5 cN7 gN HNq hjN HSS HC3
                  go_upto_region 32 with (go_at_call 17; refine (HSM.out.on _ (Jk.refl _)).mono ?_; rintro e w4 ⟨rfl, hj4⟩; have HJ4 := hid (HJM.out.trans hj4); have HN4 := hid (HNM.out.jk' hj4); obtain ⟨n0, n1, n2, n3, n4, n5⟩ := HN4.out.cells; have nf := HN4.out.frozen; have nlt := HN4.out.lt; simp only at n0 n1 n2 n3 n4 n5; clear hj4)
                  have HN5 : Hid (NdB (w4.setCell ⟨nb, 3, none⟩ (.int .i64 p3)) nb ⟨false, 0, p1, p3, p5, p7⟩) := HN4.out.set3 p3
                  have HJ5 : Hid (Jk w2 (w4.setCell ⟨nb, 3, none⟩ (.int .i64 p3))) := HJ4.out.set hnb _
                  generalize w4.setCell ⟨nb, 3, none⟩ (.int .i64 p3) = w5 at HN5 HJ5 ⊢
                  clear n0 n1 n2 n3 n4 n5 nf nlt HNM HJM HN4 HJ4 cM gM HSM HS1 HS3 HS5 HS7
                  obtain ⟨⟨lf, nv, ne, na, nl, nr⟩, hND⟩ : ∃ ND : Nd, ND = ⟨false, 0, p1, p3, p5, p7⟩ := ⟨_, rfl⟩
                  rw [← hND] at HN1 HN5
                  clear hND
                all_goals
                  have HP5 := hid (HP2.out.jk HJ5.out)
                  have HJz5 := hid (HJ2.out.trans HJ5.out)
                  have hpk := Nd.pack_bd ⟨lf, nv, ne, na, nl, nr⟩
                  have HPk := hid (rpack_ans ⟨lf, nv, ne, na, nl, nr⟩)
                  obtain ⟨y, hy⟩ : ∃ y, Nd.pack ⟨lf, nv, ne, na, nl, nr⟩ = y := ⟨_, rfl⟩
                  rw [hy] at hpk HPk HN1
                  simp only [nodeV] at HPk
                  clear hy ml m0 m1 m2 m3 m4 m5 hmf
                  obtain ⟨tcl, ta, tn, tc, tw⟩ := t
                  have htb : tn ≤ 800 := by
                    have h1 := HTn.out N (Nat.lt_succ_self N)
                    rw [HTa.out] at h1
                    simp only at h1
                    omega
                  have hTc : w5.cell? ⟨bb, N * 2 + 1, none⟩ = some (.slice ta tn tc) := by
                    have h1 := (HP5.out.own.at N (by rw [HP5.out.own.1]; exact Nat.lt_succ_self N)).2
                    simp only at h1
                    rw [HTa.out, Nat.zero_add] at h1
                    exact h1
                  have hbl : bb < w5.heap.size := (World.ownsRow.lt HP5.out.own.2 bb rfl).2
                  obtain ⟨ml, m0, m1, m2, m3, m4, m5⟩ := HP5.out.box.in
                  obtain ⟨n0, n1, n2, n3, n4, n5⟩ := HN5.out.cells
                  have nlt := HN5.out.lt
                  simp only at m0 m1 m2 m3 m4 m5 n0 n1 n2 n3 n4 n5
                  have hNi : (N : Int) < ((N + 1 : Nat) : Int) := by omega
                  have hN0 : (0 : Int) ≤ (N : Int) := by omega
                  go_upto_region 33 with fail
                  have hq0 : ∀ q : NdC bb (N * 2 + 1) (.slice ta tn tc) nb ⟨lf, nv, ne, na, nl, nr⟩, q.w'.cell? ⟨bb, N * 2 + 1, none⟩ = some (.slice ta tn tc) := fun q => q.c
                  have hq1 : ∀ q : NdC bb (N * 2 + 1) (.slice ta tn tc) nb ⟨lf, nv, ne, na, nl, nr⟩, q.w'.cell? ⟨nb, 0, none⟩ = some (.bool lf) := fun q => q.n.cells.1
                  have hq2 : ∀ q : NdC bb (N * 2 + 1) (.slice ta tn tc) nb ⟨lf, nv, ne, na, nl, nr⟩, q.w'.cell? ⟨nb, 1, none⟩ = some (.int .i64 nv) := fun q => q.n.cells.2.1
                  have hq3 : ∀ q : NdC bb (N * 2 + 1) (.slice ta tn tc) nb ⟨lf, nv, ne, na, nl, nr⟩, q.w'.cell? ⟨nb, 2, none⟩ = some (.int .i64 ne) := fun q => q.n.cells.2.2.1
                  have hq4 : ∀ q : NdC bb (N * 2 + 1) (.slice ta tn tc) nb ⟨lf, nv, ne, na, nl, nr⟩, q.w'.cell? ⟨nb, 3, none⟩ = some (.int .i64 na) := fun q => q.n.cells.2.2.2.1
                  have hq5 : ∀ q : NdC bb (N * 2 + 1) (.slice ta tn tc) nb ⟨lf, nv, ne, na, nl, nr⟩, q.w'.cell? ⟨nb, 4, none⟩ = some (.int .i64 nl) := fun q => q.n.cells.2.2.2.2.1
                  have hq6 : ∀ q : NdC bb (N * 2 + 1) (.slice ta tn tc) nb ⟨lf, nv, ne, na, nl, nr⟩, q.w'.cell? ⟨nb, 5, none⟩ = some (.int .i64 nr) := fun q => q.n.cells.2.2.2.2.2
                  have HTk : Hid (∀ z, Jk w5 z → z.cell? ⟨bb, N * 2 + 1, none⟩ = some (.slice ta tn tc)) := fun z hz => (hz.below.cell (p := ⟨bb, N * 2 + 1, none⟩) hbl).trans hTc
                  refine region_midSN (T := NdC bb (N * 2 + 1) (.slice ta tn tc) nb ⟨lf, nv, ne, na, nl, nr⟩) (fun q => q.w') 9 [0, 1, 2, 3, 4, 5] [6, 7, 8] #[true, true, true, true, true, true, true, true, true, false, false, false] (by kernel_rfl) (by kernel_rfl) (fun _ _ d _ _ h => by cases d <;> exact h) ⟨⟨w5.drew, HTk.out _ (Jk.refl w5).drew, HN5.out.jk' (Jk.refl w5).drew⟩, rfl⟩ ?_
                  dsimp only [opersAt, List.getElem?_cons_zero, List.getElem?_cons_succ]
                  repeat (go_big_quiet_step (first | exact rfl))
                  refine wpQuiet_nil ?_
                  intro K1 hK1
                  go_simp
                  go_at_call 18
                  refine (HPk.out.on _).mono ?_
                  rintro e w6 ⟨rfl, hj6⟩
                  have HJ6 : Hid (Jk w5 w6) := ((Jk.refl w5).drew).trans hj6
                  clear hj6
                  go_simp
                  refine hK1 _ _ ⟨⟨w6, HTk.out _ HJ6.out, HN5.out.jk' HJ6.out⟩, rfl⟩ ?_
                  clear hK1 K1
                  intro K2 hK2
                  go_simp
                  have HJ7 : Hid (Jk w5 (w6.alloc (.cells #[.int .u64 y] 55))) := HJ6.out.alloc _
                  refine hK2 _ _ ⟨⟨_, HTk.out _ HJ7.out, HN5.out.jk' HJ7.out⟩, rfl⟩ ?_
                  clear hK2 K2
                  have HP7 := hid (HP5.out.jk HJ7.out)
                  have HTw : Hid (OwnU (w.heap.size + 1 + 1) (w6.alloc (.cells #[.int .u64 y] 55)) (.slice ta tn tc) tn tw) := by
                    have h1 := HP7.out.each N (Nat.lt_succ_self N)
                    simp only at h1
                    rw [HTa.out] at h1
                    exact h1
                  intro K3 hK3
                  refine wp_appW (ys := [y]) (.tmp 182) (.tmp 185) rfl HTw.out HP7.out.sz rfl w6.heap.size 0 1 1 rfl rfl (by decide) (fun i hi => (by simp at hi; subst hi; exact new_cells w6 #[.int .u64 y] _ _ rfl 0 _ rfl)) (by omega) (tn + 1) rfl ?_
                  intro g8 c8 w8 hO8 hG8 hg8
                  have HWd : Hid (∀ wz', w8.setCell ⟨bb, N * 2 + 1, none⟩ (.slice (some ⟨g8, 0, none⟩) (tn + 1) c8) = wz' → PS (w.heap.size + 1 + 1) wz' (w.heap.size + 1) ⟨d, k, b0, b1, b2, some ⟨bb, 0, none⟩, N + 1, c, ts0 ++ [⟨tcl, some ⟨g8, 0, none⟩, tn + 1, c8, tw ++ [y]⟩]⟩ ∧ Jk wz wz') := fun wz' e => by
                    have h1 := HP7.out.wordN (t := ⟨tcl, ta, tn, tc, tw⟩) rfl HN0.out rfl hO8 hG8 hg8 hpk e
                    refine ⟨h1.1, ?_⟩
                    have hj8 : Jk wz w8 := (HJz5.out.trans HJ7.out).grown hG8 (fun k hk => by have := HTw.out.base k hk; have := HZs.out; omega)
                    exact e ▸ hj8.set (by have := HZs.out; have := HBB.out; simp only; omega) _
                  have hcf := HP7.out.wordN (t := ⟨tcl, ta, tn, tc, tw⟩) rfl HN0.out rfl hO8 hG8 hg8 hpk rfl
                  have z1 := hcf.2.1
                  have z2 := hcf.2.2.1
                  have HN7 := hid (HN5.out.jk' HJ7.out)
                  have HN8 : Hid (NdB w8 nb ⟨lf, nv, ne, na, nl, nr⟩) := (hG8.block nb HN7.out.lt (fun e => own_nd HTw.out HN7.out e.symm)).trans HN7.out
                  refine hK3 _ _ ⟨⟨w8, z1, HN8.out⟩, rfl⟩ ?_
                  clear hK3 K3 hq0 hq1 hq2 hq3 hq4 hq5 hq6
                  dsimp only [wpAlone, opersAt, List.drop]
                  clear hcf hO8 hG8 hg8 ml m0 m1 m2 m3 m4 m5 n0 n1 n2 n3 n4 n5 nlt hTc hbl
                  go_upto_region 34 with fail
                  have hwd := HWd.out _ rfl
                  generalize w8.setCell ⟨bb, N * 2 + 1, none⟩ (.slice (some ⟨g8, 0, none⟩) (tn + 1) c8) = w9 at hwd ⊢
                  have HP9 := hid hwd.1
                  have HJ9 := hid hwd.2
                  clear hwd HWd z1 z2
                  go_wp2
                  go_roundg (gk - 1)
                  case measure => omega
                  case rel =>
                    refine ⟨j + 1, A + 1, L - 1, [], ⟨d, k, b0, b1, b2, some ⟨bb, 0, none⟩, N + 1, c, ts0 ++ [⟨tcl, some ⟨g8, 0, none⟩, tn + 1, c8, tw ++ [y]⟩]⟩, by go_num, by go_num, rfl, by go_num, by omega, HP9, HJ9, hid ?_, by simp, by omega, by omega, by simp only; omega, hid (fun i hi => ?_), hid (fun _ => Nat.succ_pos N)⟩
                    · have := HN1.out
                      simp only [List.map_append, List.map_cons, List.map_nil, addLast_app, Tr.pt] at this
                      simpa [Md.pm, Tr.pt] using this
                    · have hN := HN0.out
                      simp only at hi ⊢
                      by_cases h : i < N
                      · have h1 := HTn.out i (by omega)
                        rw [tA_append_left _ _ _ (by omega)] at h1 ⊢
                        exact Nat.le_succ_of_le h1
                      · have h1 := HTn.out N (by omega)
                        rw [HTa.out] at h1
                        simp only at h1
                        rw [tA_append_right _ _ _ (by omega), show i - ts0.length = 0 by omega]
                        show tn + 1 ≤ j + 1
                        omega
              · have h2' : ¬ (nW : Int) = 2 := by omega
                have h2b : ((nW : Int) == 2) = false := by simpa using h2'
                have h8' : ¬ (nW : Int) = 8 := by omega
                have h8b : ((nW : Int) == 8) = false := by simpa using h8'
                have HNf : Hid (lineF (Md.pm ⟨d, k, b0, b1, b2, a, n, c, ts⟩) L (A + 1) W = none) := by
                  have := HnW.out
                  unfold lineF
                  rw [if_neg (by omega), if_neg (by omega), if_neg (by omega), if_neg (by omega)]
                  exact rfl
                have HZr := hid (HZ.out.jk HJ2.out)
                have HE := hid ((((((HZr.out.setD 0).setK 0).setB0 0).setB1 0).setB2 0).setT none 0 0 [])
                have hww : w.heap.size ≤ w.heap.size := Nat.le_refl _
                have HJf := hid (((((((HJz.out.trans HJ2.out).set (p := ⟨w.heap.size, 0, none⟩) hww (.int .i64 0)).set (p := ⟨w.heap.size, 1, none⟩) hww (.int .i64 0)).set (p := ⟨w.heap.size, 2, none⟩) hww (.int .i64 0)).set (p := ⟨w.heap.size, 3, none⟩) hww (.int .i64 0)).set (p := ⟨w.heap.size, 4, none⟩) hww (.int .i64 0)).set (p := ⟨w.heap.size, 5, none⟩) hww (.slice none 0 0))
                obtain ⟨-, y0, y1, y2, y3, y4, y5⟩ := HE.out.in
                obtain ⟨hzl, z0, z1, z2, z3, z4, z5⟩ := HZr.out.in
                have hzf := HZr.out.frozen
                simp only at y0 y1 y2 y3 y4 y5 z0 z1 z2 z3 z4 z5
                have HNo : Hid (ParseP s (Md.pm ⟨0, 0, 0, 0, 0, none, 0, 0, []⟩) false) := by rw [show Md.pm ⟨0, 0, 0, 0, 0, none, 0, 0, []⟩ = Pm.nil from rfl]; exact no_of (HLno.out HNf.out)
                go_wp2
                exact bodyPost_ret (v := .tuple #[modelV ⟨0, 0, 0, 0, 0, none, 0, 0, []⟩, .bool false]) (by simp [results, Tryz.results6, go_sem, y0, y1, y2, y3, y4, y5]) rfl ⟨⟨0, 0, 0, 0, 0, none, 0, 0, []⟩, false, rfl, nil_ok _, HNo.out, HJf.out⟩
            · have HNf : Hid (lineF (Md.pm ⟨d, k, b0, b1, b2, a, n, c, ts⟩) L (A + 1) W = none) := by
                unfold lineF
                rw [if_neg (by omega), if_neg (by omega), if_neg (by omega), if_neg (by omega)]
                exact rfl
              have HZr := hid (HZ.out.jk HJ2.out)
              have HE := hid ((((((HZr.out.setD 0).setK 0).setB0 0).setB1 0).setB2 0).setT none 0 0 [])
              have hww : w.heap.size ≤ w.heap.size := Nat.le_refl _
              have HJf := hid (((((((HJz.out.trans HJ2.out).set (p := ⟨w.heap.size, 0, none⟩) hww (.int .i64 0)).set (p := ⟨w.heap.size, 1, none⟩) hww (.int .i64 0)).set (p := ⟨w.heap.size, 2, none⟩) hww (.int .i64 0)).set (p := ⟨w.heap.size, 3, none⟩) hww (.int .i64 0)).set (p := ⟨w.heap.size, 4, none⟩) hww (.int .i64 0)).set (p := ⟨w.heap.size, 5, none⟩) hww (.slice none 0 0))
              obtain ⟨-, y0, y1, y2, y3, y4, y5⟩ := HE.out.in
              obtain ⟨hzl, z0, z1, z2, z3, z4, z5⟩ := HZr.out.in
              have hzf := HZr.out.frozen
              simp only at y0 y1 y2 y3 y4 y5 z0 z1 z2 z3 z4 z5
              have HNo : Hid (ParseP s (Md.pm ⟨0, 0, 0, 0, 0, none, 0, 0, []⟩) false) := by rw [show Md.pm ⟨0, 0, 0, 0, 0, none, 0, 0, []⟩ = Pm.nil from rfl]; exact no_of (HLno.out HNf.out)
              go_wp2
              exact bodyPost_ret (v := .tuple #[modelV ⟨0, 0, 0, 0, 0, none, 0, 0, []⟩, .bool false]) (by simp [results, Tryz.results6, go_sem, y0, y1, y2, y3, y4, y5]) rfl ⟨⟨0, 0, 0, 0, 0, none, 0, 0, []⟩, false, rfl, nil_ok _, HNo.out, HJf.out⟩
      · have hi1 : ¬ ((b.toNat : Int) = 10) := fun h => hc (UInt8.toNat_inj.1 (show b.toNat = 10 by omega))
        have hi2 : ((b.toNat : Int) == 10) = false := by simpa using hi1
        have hi3 : ((b.toNat : Int) != 10) = true := by simpa using hi1
        have HR2 : Hid (refR (s.drop (j + 1)) ⟨Md.pm ⟨d, k, b0, b1, b2, a, n, c, ts⟩, L, A, u ++ [b]⟩ = refR s Rs.init) := by
          have := HRj.out
          rw [refR_char hc] at this
          exact this
        go_wp2
        go_roundg (gk - 1)
        case measure => omega
        case rel => exact ⟨j + 1, A, L, u ++ [b], ⟨d, k, b0, b1, b2, a, n, c, ts⟩, by go_num, rfl, congrArg Value.string (text_app u [b]), rfl, by omega, HP, HJ, HR2, by simp; omega, by omega, hL, by simp only; omega, hid (fun i hi => Nat.le_succ_of_le (HTn.out i hi)), HLn⟩

end Go.Proofs.YtfabodbcdnmpmaaGreatDoor
