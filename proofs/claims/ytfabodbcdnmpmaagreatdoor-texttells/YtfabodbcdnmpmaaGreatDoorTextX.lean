/- What Parse of package text answers, for every text: the model that Print makes it of, true; zero, false, if it makes it of none. -/
import Derived.Test.YtfabodbcdnmpmaaGreatDoorTextW
namespace Go.Proofs.YtfabodbcdnmpmaaGreatDoor
open Go.RowKit M

/-- what a text is parsed to, in memory -/
def GotP (w : World) (s : Txt) (e : Ending) (w' : World) : Prop := ∃ (m : Md) (ok : Bool), e = .returned (.tuple #[modelV m, .bool ok]) ∧ m.ok w' ∧ ParseP s m.pm ok ∧ Jk w w'
theorem fit_0 : FitI 0 := ⟨by decide, by decide⟩
theorem nil_ok (w : World) : Md.ok w ⟨0, 0, 0, 0, 0, none, 0, 0, []⟩ := ⟨fit_0, fit_0, fit_0, fit_0, fit_0, ⟨rfl, Nat.le_refl _, Nat.zero_le _, fun i hi => absurd hi (Nat.not_lt_zero i), fun h => absurd h (Nat.lt_irrefl 0)⟩⟩

set_option maxRecDepth 100000 in
set_option maxHeartbeats 3200000 in
theorem parse_m {wb : World} (hL : LibP wb) (s : Txt) (hl : s.length ≤ 1000000) {w : World} (hw : Jk wb w) : Calls Tryz.prog 5 #[tx s] w fun e w' => GotP w s e w' := by
  have J := rules8
  obtain ⟨⟨P, s'⟩, hs⟩ : ∃ R, modelR (s, false) = R := ⟨_, rfl⟩
  have hyes : s'.2 = false → printM P = s → ParseP s P true := fun h1 h2 => by
    have := parse_yes (s := s) (by rw [hs]; exact h1) (by rw [hs]; exact h2)
    rwa [hs] at this
  have hno : s'.2 = true ∨ printM P ≠ s → ParseP s Pm.nil false := fun h => parse_no (by rw [hs]; exact h)
  have HY := hid hyes
  have HN := hid hno
  obtain ⟨w1, hw1⟩ : ∃ w1, (w.alloc (.cells #[.int .i64 0, .int .i64 0, .int .i64 0, .int .i64 0, .int .i64 0, .slice none 0 0] 25)).alloc (.cells #[.string ⟨#[]⟩, .bool false] 46) = w1 := ⟨_, rfl⟩
  have hj1 : Jk w w1 := hw1 ▸ ((Jk.refl w).alloc _).alloc _
  have hR1 : RdB w1 (w.heap.size + 1) [] false := by
    rw [← hw1]
    have := heap_alloc_new (w.alloc (.cells #[.int .i64 0, .int .i64 0, .int .i64 0, .int .i64 0, .int .i64 0, .slice none 0 0] 25)) (.cells #[.string ⟨#[]⟩, .bool false] 46)
    rwa [World.size_alloc] at this
  have hM1 : MdB w1 w.heap.size ⟨0, 0, 0, 0, 0, none, 0, 0, []⟩ := by
    rw [← hw1]
    exact ((Jk.refl _).alloc _).below.block _ (by simp) |>.trans (MdB.laid w ⟨0, 0, 0, 0, 0, none, 0, 0, []⟩)
  have HSz : Hid (w1.heap.size = w.heap.size + 1 + 1) := by rw [← hw1]; show _ = _; simp
  have HJ1 := hid hj1
  have c0 := hR1.c0
  have c1 := hR1.c1
  simp only [tx] at c0
  have cf := hR1.fr
  have cl := hR1.lt
  have hne : w.heap.size ≠ w.heap.size + 1 := by omega
  have HM1 : Hid (MdB ((w1.setCell ⟨w.heap.size + 1, 0, none⟩ (tx s)).setCell ⟨w.heap.size + 1, 1, none⟩ (.bool false)) w.heap.size ⟨0, 0, 0, 0, 0, none, 0, 0, []⟩) := hM1.by (grown_two w1 (w.heap.size + 1) (tx s) (.bool false)) hne
  have HJ2 : Hid (Jk w ((w1.setCell ⟨w.heap.size + 1, 0, none⟩ (tx s)).setCell ⟨w.heap.size + 1, 1, none⟩ (.bool false))) := (hj1.set (by simp) _).set (by simp) _
  have HRJ : Hid (RdJ wb (w.heap.size + 1) s false ((w1.setCell ⟨w.heap.size + 1, 0, none⟩ (tx s)).setCell ⟨w.heap.size + 1, 1, none⟩ (.bool false))) := ⟨hw.trans HJ2.out, Nat.le_succ_of_le hw.below.size, hR1.set s false⟩
  have HL := hid hL
  have HMd := hid (model_r hL (w.heap.size + 1) (s, false) hl hs _ HRJ.out)
  have HS2 : Hid (((w1.setCell ⟨w.heap.size + 1, 0, none⟩ (tx s)).setCell ⟨w.heap.size + 1, 1, none⟩ (.bool false)).heap.size = w.heap.size + 1 + 1) := by show _ = _; rw [← HSz.out]; simp
  have hwb := hw.below.size
  clear hyes hno hj1 hR1 hM1 hs hL hl hw HJ1
  go_enter Tryz.func5, Tryz.ntmps5
  go_upto_region 3 with (go_at_call 14; refine HMd.out.mono ?_; rintro e w2 ⟨⟨d, k, b0, b1, b2, a, n, c, ts⟩, rfl, hP, hok, hPr, hRd, hg⟩; simp only at hPr; have HP := hid hP; have HOk := hid hok; have HPr := hid hPr; have HRd := hid hRd; have HG := hid hg; clear hP hok hPr hRd hg)
  have HW3 : Hid (Jk w2 (w2.alloc (.cells #[.int .i64 d, .int .i64 k, .int .i64 b0, .int .i64 b1, .int .i64 b2, .slice a n c] 25))) := (Jk.refl w2).alloc _
  have HM3 : Hid (MdB (w2.alloc (.cells #[.int .i64 d, .int .i64 k, .int .i64 b0, .int .i64 b1, .int .i64 b2, .slice a n c] 25)) w2.heap.size ⟨d, k, b0, b1, b2, a, n, c, ts⟩) := MdB.laid w2 ⟨d, k, b0, b1, b2, a, n, c, ts⟩
  generalize w2.alloc (.cells #[.int .i64 d, .int .i64 k, .int .i64 b0, .int .i64 b1, .int .i64 b2, .slice a n c] 25) = w3 at HW3 HM3 ⊢
  have HR3 := hid (HRd.out.jk HW3.out)
  have HZ3 : Hid (MdB w3 w.heap.size ⟨0, 0, 0, 0, 0, none, 0, 0, []⟩) := (HM1.out.by HG.out hne).jk HW3.out
  have HJ3 : Hid (Jk w w3) := (HJ2.out.grown HG.out (fun k hk => by cases hk; omega)).trans HW3.out
  have HJb : Hid (Jk wb w3) := (HRJ.out.j.grown HG.out (fun k hk => by cases hk; exact HRJ.out.base)).trans HW3.out
  have HPw := hid (print_m (HL.out.at HJb.out) (HOk.out.jk HW3.out))
  have HPr3 : Hid (PRow (w.heap.size + 1 + 1) w3 (.slice a n c) n ts) := (HS2.out ▸ HPr.out).jk HW3.out
  rw [HP.out] at HPw
  have d1 := HR3.out.c1
  have dl := HR3.out.lt
  obtain ⟨ml, m0, m1, m2, m3, m4, m5⟩ := HM3.out.in
  simp only at m0 m1 m2 m3 m4 m5
  obtain ⟨q, f⟩ := s'
  try simp only at d1
  simp only at HY HN
  clear c0 c1 cf cl HM1 HRJ hw1 HSz HJ2 HMd HS2 HL HR3 HPr HRd HG HW3
  cases f
  · by_cases he : printM P = s
    · have HY2 : Hid (ParseP s (Md.pm ⟨d, k, b0, b1, b2, a, n, c, ts⟩) true) := by rw [HP.out]; exact HY.out rfl he
      rw [he] at HPw
      clear HY HN HP he
      go_upto_region 5 with (go_at_call 7; refine (HPw.out.on _ (Jk.refl _)).mono ?_; rintro e w4 ⟨rfl, hj4⟩; have HJ4 := hid (HJ3.out.trans hj4); have HZ4 := hid (HZ3.out.jk hj4); have HP4 := hid (HPr3.out.jk hj4); have HM4 := hid (HM3.out.jk hj4); clear hj4)
      clear ml m0 m1 m2 m3 m4 m5
      obtain ⟨ml, m0, m1, m2, m3, m4, m5⟩ := HM4.out.in
      simp only at m0 m1 m2 m3 m4 m5
      have HE := hid ((((((HZ4.out.setD d).setK k).setB0 b0).setB1 b1).setB2 b2).setT a n c ts)
      have hwz : w.heap.size ≤ w.heap.size := Nat.le_refl _
      have HJf := hid ((((((HJ4.out.set (p := ⟨w.heap.size, 0, none⟩) hwz (.int .i64 d)).set (p := ⟨w.heap.size, 1, none⟩) hwz (.int .i64 k)).set (p := ⟨w.heap.size, 2, none⟩) hwz (.int .i64 b0)).set (p := ⟨w.heap.size, 3, none⟩) hwz (.int .i64 b1)).set (p := ⟨w.heap.size, 4, none⟩) hwz (.int .i64 b2)).set (p := ⟨w.heap.size, 5, none⟩) hwz (.slice a n c))
      have hw' : w.heap.size < w.heap.size + 1 + 1 := by omega
      have HPf := hid ((((((HP4.out.kept hw' (grown_set _ w.heap.size 0 (.int .i64 d))).kept hw' (grown_set _ w.heap.size 1 (.int .i64 k))).kept hw' (grown_set _ w.heap.size 2 (.int .i64 b0))).kept hw' (grown_set _ w.heap.size 3 (.int .i64 b1))).kept hw' (grown_set _ w.heap.size 4 (.int .i64 b2))).kept hw' (grown_set _ w.heap.size 5 (.slice a n c)))
      obtain ⟨-, y0, y1, y2, y3, y4, y5⟩ := HE.out.in
      obtain ⟨hzl, z0, z1, z2, z3, z4, z5⟩ := HZ4.out.in
      have hzf := HZ4.out.frozen
      simp only at y0 y1 y2 y3 y4 y5 z0 z1 z2 z3 z4 z5
      go_wp2
      exact bodyPost_ret (v := .tuple #[modelV ⟨d, k, b0, b1, b2, a, n, c, ts⟩, .bool true]) (by simp [results, Tryz.results5, go_sem, y0, y1, y2, y3, y4, y5]) rfl ⟨⟨d, k, b0, b1, b2, a, n, c, ts⟩, true, rfl, ⟨HOk.out.fd, HOk.out.fk, HOk.out.f0, HOk.out.f1, HOk.out.f2, HPf.out.own.isT HPf.out.ok⟩, HY2.out, HJf.out⟩
    · have HN2 : Hid (ParseP s (Md.pm ⟨0, 0, 0, 0, 0, none, 0, 0, []⟩) false) := HN.out (.inr he)
      obtain ⟨t, ht⟩ : ∃ t, printM P = t := ⟨_, rfl⟩
      rw [ht] at HPw he
      have he' : (t == s) = false := by simpa using he
      clear HY HN HP ht
      go_upto_region 4 with (go_at_call 7; refine (HPw.out.on _ (Jk.refl _)).mono ?_; rintro e w4 ⟨rfl, hj4⟩; have HJ4 := hid (HJ3.out.trans hj4); have HZ4 := hid (HZ3.out.jk hj4); clear hj4)
      have HE := hid ((((((HZ4.out.setD 0).setK 0).setB0 0).setB1 0).setB2 0).setT none 0 0 [])
      have hwz : w.heap.size ≤ w.heap.size := Nat.le_refl _
      have HJf := hid ((((((HJ4.out.set (p := ⟨w.heap.size, 0, none⟩) hwz (.int .i64 0)).set (p := ⟨w.heap.size, 1, none⟩) hwz (.int .i64 0)).set (p := ⟨w.heap.size, 2, none⟩) hwz (.int .i64 0)).set (p := ⟨w.heap.size, 3, none⟩) hwz (.int .i64 0)).set (p := ⟨w.heap.size, 4, none⟩) hwz (.int .i64 0)).set (p := ⟨w.heap.size, 5, none⟩) hwz (.slice none 0 0))
      obtain ⟨-, y0, y1, y2, y3, y4, y5⟩ := HE.out.in
      obtain ⟨hzl, z0, z1, z2, z3, z4, z5⟩ := HZ4.out.in
      have hzf := HZ4.out.frozen
      simp only at y0 y1 y2 y3 y4 y5 z0 z1 z2 z3 z4 z5
      go_wp2
      exact bodyPost_ret (v := .tuple #[modelV ⟨0, 0, 0, 0, 0, none, 0, 0, []⟩, .bool false]) (by simp [results, Tryz.results5, go_sem, y0, y1, y2, y3, y4, y5]) rfl ⟨⟨0, 0, 0, 0, 0, none, 0, 0, []⟩, false, rfl, nil_ok _, HN2.out, HJf.out⟩
  · have HN2 : Hid (ParseP s (Md.pm ⟨0, 0, 0, 0, 0, none, 0, 0, []⟩) false) := HN.out (.inl rfl)
    clear HY HN HP
    go_upto_region 4 with fail
    have HE := hid ((((((HZ3.out.setD 0).setK 0).setB0 0).setB1 0).setB2 0).setT none 0 0 [])
    have hwz : w.heap.size ≤ w.heap.size := Nat.le_refl _
    have HJf := hid ((((((HJ3.out.set (p := ⟨w.heap.size, 0, none⟩) hwz (.int .i64 0)).set (p := ⟨w.heap.size, 1, none⟩) hwz (.int .i64 0)).set (p := ⟨w.heap.size, 2, none⟩) hwz (.int .i64 0)).set (p := ⟨w.heap.size, 3, none⟩) hwz (.int .i64 0)).set (p := ⟨w.heap.size, 4, none⟩) hwz (.int .i64 0)).set (p := ⟨w.heap.size, 5, none⟩) hwz (.slice none 0 0))
    obtain ⟨-, y0, y1, y2, y3, y4, y5⟩ := HE.out.in
    obtain ⟨hzl, z0, z1, z2, z3, z4, z5⟩ := HZ3.out.in
    have hzf := HZ3.out.frozen
    simp only at y0 y1 y2 y3 y4 y5 z0 z1 z2 z3 z4 z5
    go_wp2
    exact bodyPost_ret (v := .tuple #[modelV ⟨0, 0, 0, 0, 0, none, 0, 0, []⟩, .bool false]) (by simp [results, Tryz.results5, go_sem, y0, y1, y2, y3, y4, y5]) rfl ⟨⟨0, 0, 0, 0, 0, none, 0, 0, []⟩, false, rfl, nil_ok _, HN2.out, HJf.out⟩

end Go.Proofs.YtfabodbcdnmpmaaGreatDoor
