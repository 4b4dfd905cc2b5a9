/- The law AskBack of chapter 11 answers true: its walk through the Go text, by the contracts of package ask. Conditions: what the statement itself says of the library's variables ('Env'). -/
import Derived.Test.YtjpffempmlfoeaaDoorRunsA
import Derived.Test.YtjpffempmlfoeaaDoorBackF
import Derived.Test.YtjpffempmlfoeaaDoorInv
import Derived.Test.YtjpffempmlfoeaaDoorAskQ
namespace Go.Proofs.YtjpffempmlfoeaaDoor
open Go.RowKit M

/-- a block for a query, not written yet -/
def Zq (w0 w : World) (v : Value) : Prop := ∃ h, v = .pointer (some ⟨h, 0, none⟩) ∧ w0.heap.size ≤ h ∧ QyB w h ⟨0, 0, Bx.nil, 0, 0, 0, false, 0⟩
theorem Zq.jk {w0 w w' : World} {v : Value} (h : Zq w0 w v) (hj : Jk w w') : Zq w0 w' v := by
  obtain ⟨h, rfl, h1, h2⟩ := h
  exact ⟨h, rfl, h1, h2.jk hj⟩
theorem zq_new {w0 w : World} (hj : Jk w0 w) : Zq w0 (w.alloc (.cells #[.int .i64 0, .int .i64 0, .int .i64 0, .int .i64 0, .int .i64 0, .int .i64 0, .int .i64 0, .int .i64 0, .int .i64 0, .int .i64 0, .int .i64 0, .int .i64 0, .int .i64 0, .int .i64 0, .int .i64 0, .bool false, .int .i64 0] 27)) (.pointer (some ⟨w.heap.size, 0, none⟩)) :=
  ⟨_, rfl, hj.below.size, QyB.laid w ⟨0, 0, Bx.nil, 0, 0, 0, false, 0⟩⟩
theorem MdB.byF {w w' : World} {h g : Nat} {m : Md} (H : MdB w h m) (hg : w.grownBy w' (some g)) (hne : h ≠ g) : MdB w' h m := (hg.block h H.lt (by simpa using hne)).trans H
theorem Zq.ne {w0 w : World} {v : Value} (h : Zq w0 w v) : v ≠ .pointer (some ⟨w.heap.size, 0, none⟩) := fun e => by
  obtain ⟨h, rfl, _, h2⟩ := h
  simp at e
  have := h2.lt
  omega

set_option maxRecDepth 100000 in
set_option maxHeartbeats 12800000 in
theorem askBack_walk0 (f g : Fo) (a b : Ak) (w : World) (hL : LibA w) (hf : f.ok w) (hg : g.ok w) (ha : a.ok w) (hb : b.ok w) : Calls Tryd.prog 4 #[forestV f, forestV g, askV a, askV b] w fun e w' => e = .returned (.bool true) ∧ Jk w w' := by
  have J := rules8
  obtain ⟨wv0, hwv0⟩ : ∃ z, w.alloc (.cells #[.int .i64 f.d, .int .i64 f.k, .slice f.ba f.bn f.bc, .slice f.sa f.sn f.sc] 35) = z := ⟨_, rfl⟩
  have hs0 : wv0.heap.size = w.heap.size + 1 := by rw [← hwv0]; simp
  have hJ0 : Jk w wv0 := hwv0 ▸ (Jk.refl w).alloc _
  have HF0 : FoIn wv0 w.heap.size f := hwv0 ▸ FoIn.laid w f _
  obtain ⟨wv1, hwv1⟩ : ∃ z, wv0.alloc (.cells #[.int .i64 g.d, .int .i64 g.k, .slice g.ba g.bn g.bc, .slice g.sa g.sn g.sc] 35) = z := ⟨_, rfl⟩
  have hs1 : wv1.heap.size = w.heap.size + 1 + 1 := by rw [← hwv1]; simp [hs0]
  have hj1 : Jk wv0 wv1 := hwv1 ▸ (Jk.refl wv0).alloc _
  have HG1 : FoIn wv1 (w.heap.size + 1) g := hs0 ▸ hwv1 ▸ FoIn.laid wv0 g _
  obtain ⟨wv2, hwv2⟩ : ∃ z, wv1.alloc (.cells #[.int .i64 a.kd, .int .i64 a.cl, .int .i64 a.lo, .int .i64 a.sz, .int .i64 a.f, .int .i64 a.bu, .bool a.fa, .slice a.sa a.sn a.sc] 37) = z := ⟨_, rfl⟩
  have hs2 : wv2.heap.size = w.heap.size + 1 + 1 + 1 := by rw [← hwv2]; simp [hs1]
  have hj2 : Jk wv1 wv2 := hwv2 ▸ (Jk.refl wv1).alloc _
  have HA2 : AkIn wv2 (w.heap.size + 1 + 1) a := hs1 ▸ hwv2 ▸ AkIn.laid wv1 a _
  obtain ⟨w0, hw0⟩ : ∃ z, wv2.alloc (.cells #[.int .i64 b.kd, .int .i64 b.cl, .int .i64 b.lo, .int .i64 b.sz, .int .i64 b.f, .int .i64 b.bu, .bool b.fa, .slice b.sa b.sn b.sc] 37) = z := ⟨_, rfl⟩
  have hj3 : Jk wv2 w0 := hw0 ▸ (Jk.refl wv2).alloc _
  have HB3 : AkIn w0 (w.heap.size + 1 + 1 + 1) b := hs2 ▸ hw0 ▸ AkIn.laid wv2 b _
  have HJ0 : Hid (Jk w w0) := ((hJ0.trans hj1).trans hj2).trans hj3
  have HF : Hid (FoIn w0 w.heap.size f) := ((HF0.jk hj1).jk hj2).jk hj3
  have HG : Hid (FoIn w0 (w.heap.size + 1) g) := (HG1.jk hj2).jk hj3
  have HAa : Hid (∀ z, Jk w0 z → AkIn z (w.heap.size + 1 + 1) a) := fun z hz => (HA2.jk hj3).jk hz
  have HAb : Hid (∀ z, Jk w0 z → AkIn z (w.heap.size + 1 + 1 + 1) b) := fun z hz => HB3.jk hz
  have HMf : Hid (∀ w', Jk w0 w' → Calls Tryd.prog 10 #[forestV f] w' fun e w'' => GotM w' e w'') := fun w' hj => model_any f w' (hf.jk (HJ0.out.trans hj))
  have HMg : Hid (∀ w', Jk w0 w' → Calls Tryd.prog 10 #[forestV g] w' fun e w'' => GotM w' e w'') := fun w' hj => model_any g w' (hg.jk (HJ0.out.trans hj))
  have hak := hid ha
  have hbk := hid hb
  have HL := hid hL
  obtain ⟨fi0, fi1, fi2, fi3, fi4⟩ := HF.out
  obtain ⟨gi0, gi1, gi2, gi3, gi4⟩ := HG.out
  obtain ⟨d, k, ba, bn, bc, bz, sa, sn, sc, ss⟩ := f
  obtain ⟨d', k', ba', bn', bc', bz', sa', sn', sc', ss'⟩ := g
  simp only [forestV] at *
  clear hf hg ha hb hL HF0 HG1 HA2 HB3 hJ0 hj1 hj2 hj3
  go_enter Tryd.func4, Tryd.ntmps4
  go_upto_region 1 with fail
  clear hwv0 hwv1 hwv2 hw0 hs0 hs1 hs2
  go_cut [9, 10] (fun p q wc => ∃ (h1 h2 : Nat) (m1 m2 : Md), p = .pointer (some ⟨h1, 0, none⟩) ∧ q = .pointer (some ⟨h2, 0, none⟩) ∧ h1 ≠ h2 ∧ MdB wc h1 m1 ∧ MdB wc h2 m2 ∧ w0.heap.size ≤ h1 ∧ w0.heap.size ≤ h2 ∧ RightM m1 ∧ RightM m2 ∧ Jk w0 wc)
  case first =>
    have HFc := fun (w' : World) (hj : Jk w0 w') => HF.out.jk hj
    have HGc := fun (w' : World) (hj : Jk w0 w') => HG.out.jk hj
    clear HAa HAb hak hbk
    refine region_inv 6 (fun L a0 w' => ∃ x18 x19 x20 x21 x9 x10 : Value, a0 = ⟨#[.agg #[.int .i64 d, .int .i64 k, .slice ba bn bc, .slice sa sn sc], .agg #[.int .i64 d', .int .i64 k', .slice ba' bn' bc', .slice sa' sn' sc'], askV a, askV b, .pointer (some ⟨w.heap.size, 0, none⟩), .pointer (some ⟨w.heap.size + 1, 0, none⟩), .pointer (some ⟨w.heap.size + 1 + 1, 0, none⟩), .pointer (some ⟨w.heap.size + 1 + 1 + 1, 0, none⟩), .bool false, x9, x10, undef, undef, undef, undef, undef, undef, undef, x18, x19, x20, x21, undef, undef, undef, undef, undef, undef, undef, undef, undef, undef, undef, undef, undef, undef, undef, undef, undef, undef, undef, undef, undef, undef, undef, undef, undef, undef, undef, undef, undef, undef, undef, undef, undef, undef, undef, undef, undef, undef, undef, undef, undef, undef, undef, undef, undef, undef, undef, undef, undef, undef, undef, undef, undef, undef, undef, undef], []⟩ ∧ Jk w0 w' ∧
      (L 0 = true → x18 = .agg #[.int .i64 d, .int .i64 k, .slice ba bn bc, .slice sa sn sc]) ∧ (L 1 = true → Gd w0 w' x19) ∧ (L 2 = true → x20 = .agg #[.int .i64 d', .int .i64 k', .slice ba' bn' bc', .slice sa' sn' sc']) ∧ (L 3 = true → Gd w0 w' x21) ∧ (L 4 = true → Zr w0 w' x9) ∧ (L 5 = true → Zr w0 w' x10) ∧ (L 4 = true → L 5 = true → x9 ≠ x10)) (by kernel_rfl) (by kernel_rfl) ?_ ?_ ?_
    · exact ⟨_, _, _, _, _, _, rfl, (Jk.refl w0).drew, fun h => absurd h Bool.false_ne_true, fun h => absurd h Bool.false_ne_true, fun h => absurd h Bool.false_ne_true, fun h => absurd h Bool.false_ne_true, fun h => absurd h Bool.false_ne_true, fun h => absurd h Bool.false_ne_true, fun h => absurd h Bool.false_ne_true⟩
    · intro i o hi ho L a0 w' hI hd hLi K hK
      obtain ⟨x18, x19, x20, x21, x9, x10, rfl, hj, i0, i1, i2, i3, i4, i5, i45⟩ := hI
      match i, hi with
      | 0, _ =>
        simp at ho
        subst ho
        obtain ⟨e0, e1, e2, e3, e4⟩ := HFc w' hj
        simp only at e1 e2 e3 e4
        go_simp
        refine hK _ _ ⟨_, _, _, _, _, _, rfl, hj, fun _ => rfl, fun h => i1 (by simpa using h), fun h => i2 (by simpa using h), fun h => i3 (by simpa using h), fun h => i4 (by simpa using h), fun h => i5 (by simpa using h), fun h h' => i45 (by simpa using h) (by simpa using h')⟩
      | 1, _ =>
        simp at ho
        subst ho
        obtain rfl := i0 (hd 0 (by kernel_rfl))
        go_simp
        go_at_call 10
        refine (HMf.out _ hj).mono ?_
        rintro e w1 hGm
        obtain ⟨v1, he, hgd, hj1⟩ : ∃ v1, e = .returned v1 ∧ Gd w0 w1 v1 ∧ Jk w' w1 := by
          obtain ⟨m, rfl, q1, q2, q3, q4, q5⟩ := hGm
          exact ⟨_, rfl, ⟨m, rfl, q1, q2, q3, q4.mono hj.below.size⟩, q5⟩
        subst he
        have HGd := hid hgd
        have HJ1 := hid hj1
        clear hgd hj1 hGm
        go_simp
        refine hK _ _ ⟨_, _, _, _, _, _, rfl, hj.trans HJ1.out, fun h => i0 (by simpa using h), fun _ => HGd.out, fun h => i2 (by simpa using h), fun h => (i3 (by simpa using h)).jk HJ1.out, fun h => (i4 (by simpa using h)).jk HJ1.out, fun h => (i5 (by simpa using h)).jk HJ1.out, fun h h' => i45 (by simpa using h) (by simpa using h')⟩
      | 2, _ =>
        simp at ho
        subst ho
        obtain ⟨e0, e1, e2, e3, e4⟩ := HGc w' hj
        simp only at e1 e2 e3 e4
        go_simp
        refine hK _ _ ⟨_, _, _, _, _, _, rfl, hj, fun h => i0 (by simpa using h), fun h => i1 (by simpa using h), fun _ => rfl, fun h => i3 (by simpa using h), fun h => i4 (by simpa using h), fun h => i5 (by simpa using h), fun h h' => i45 (by simpa using h) (by simpa using h')⟩
      | 3, _ =>
        simp at ho
        subst ho
        obtain rfl := i2 (hd 2 (by kernel_rfl))
        go_simp
        go_at_call 10
        refine (HMg.out _ hj).mono ?_
        rintro e w1 hGm
        obtain ⟨v1, he, hgd, hj1⟩ : ∃ v1, e = .returned v1 ∧ Gd w0 w1 v1 ∧ Jk w' w1 := by
          obtain ⟨m, rfl, q1, q2, q3, q4, q5⟩ := hGm
          exact ⟨_, rfl, ⟨m, rfl, q1, q2, q3, q4.mono hj.below.size⟩, q5⟩
        subst he
        have HGd := hid hgd
        have HJ1 := hid hj1
        clear hgd hj1 hGm
        go_simp
        refine hK _ _ ⟨_, _, _, _, _, _, rfl, hj.trans HJ1.out, fun h => i0 (by simpa using h), fun h => (i1 (by simpa using h)).jk HJ1.out, fun h => i2 (by simpa using h), fun _ => HGd.out, fun h => (i4 (by simpa using h)).jk HJ1.out, fun h => (i5 (by simpa using h)).jk HJ1.out, fun h h' => i45 (by simpa using h) (by simpa using h')⟩
      | 4, _ =>
        simp at ho
        subst ho
        have hja : Jk w' (w'.alloc (.cells #[.int .i64 0, .int .i64 0, .int .i64 0, .int .i64 0, .int .i64 0, .slice none 0 0] 41)) := (Jk.refl w').alloc _
        go_simp
        refine hK _ _ ⟨_, _, _, _, _, _, rfl, hj.trans hja, fun h => i0 (by simpa using h), fun h => (i1 (by simpa using h)).jk hja, fun h => i2 (by simpa using h), fun h => (i3 (by simpa using h)).jk hja, fun _ => zr_new hj, fun h => (i5 (by simpa using h)).jk hja, fun _ h' => ((i5 (by simpa using h')).ne).symm⟩
      | 5, _ =>
        simp at ho
        subst ho
        have hja : Jk w' (w'.alloc (.cells #[.int .i64 0, .int .i64 0, .int .i64 0, .int .i64 0, .int .i64 0, .slice none 0 0] 41)) := (Jk.refl w').alloc _
        go_simp
        refine hK _ _ ⟨_, _, _, _, _, _, rfl, hj.trans hja, fun h => i0 (by simpa using h), fun h => (i1 (by simpa using h)).jk hja, fun h => i2 (by simpa using h), fun h => (i3 (by simpa using h)).jk hja, fun h => (i4 (by simpa using h)).jk hja, fun _ => zr_new hj, fun h _ => (i4 (by simpa using h)).ne⟩
    · intro a0 w' hI
      obtain ⟨x18, x19, x20, x21, x9, x10, rfl, hj, i0, i1, i2, i3, i4, i5, i45⟩ := hI
      obtain rfl := i0 (by decide)
      obtain rfl := i2 (by decide)
      obtain ⟨m1, rfl, r1, s1, t1, fr1⟩ := i1 (by decide)
      obtain ⟨m2, rfl, r2, s2, t2, fr2⟩ := i3 (by decide)
      obtain ⟨h1, rfl, hh1, hM1⟩ := i4 (by decide)
      obtain ⟨h2, rfl, hh2, hM2⟩ := i5 (by decide)
      have hne : h1 ≠ h2 := fun e => i45 (by decide) (by decide) (by rw [e])
      have hne' := Ne.symm hne
      have hok1 : MdB (putW (putW w' h1 m1) h2 m2) h1 m1 := (hM1.putW m1).byF (grown_putW _ h2 m2) hne
      have hok2 : MdB (putW (putW w' h1 m1) h2 m2) h2 m2 := (hM2.byF (grown_putW w' h1 m1) hne').putW m2
      have HFin := hid (⟨hok1, hok2, (hj.putW hh1 m1).putW hh2 m2⟩ : MdB (putW (putW w' h1 m1) h2 m2) h1 m1 ∧ MdB (putW (putW w' h1 m1) h2 m2) h2 m2 ∧ Jk w0 (putW (putW w' h1 m1) h2 m2))
      obtain ⟨al, x0, x1, x2, x3, x4, x5⟩ := hM1.in
      obtain ⟨bl, y0, y1, y2, y3, y4, y5⟩ := hM2.in
      have hz1 := hM1.frozen
      have hz2 := hM2.frozen
      simp only at x0 x1 x2 x3 x4 x5 y0 y1 y2 y3 y4 y5
      clear i0 i1 i2 i3 i4 i5 i45 fr1 fr2 hM1 hM2 hok1 hok2 hj HFc HGc HMf HMg
      go_wp2
      go_meet
      case rel => exact ⟨h1, h2, m1, m2, rfl, rfl, hne, HFin.out.1, HFin.out.2.1, hh1, hh2, r1, r2, HFin.out.2.2⟩
  case rest =>
    obtain ⟨h1, h2, m1, m2, rfl, rfl, hne, hM1, hM2, hh1, hh2, r1, r2, hj⟩ := hcut
    obtain ⟨w1, rfl⟩ : ∃ z, z = wc := ⟨_, rfl⟩
    have HJ1w := hid hj
    have HM1 := hid hM1
    have HM2 := hid hM2
    have HQa : Hid (AnsW w1 11 #[askV a, modelV m1] (queryV (queryI a m1.d m1.k))) := ask_ans (hak.out.jk (HJ0.out.trans hj)) r1.d1 r1.d4 r1.k1 r1.k3
    have HQb : Hid (AnsW w1 11 #[askV b, modelV m2] (queryV (queryI b m2.d m2.k))) := ask_ans (hbk.out.jk (HJ0.out.trans hj)) r2.d1 r2.d4 r2.k1 r2.k3
    have t1 : TellsQ (queryI a m1.d m1.k) m1.d := (query_right a r1).tells
    have t2 : TellsQ (queryI b m2.d m2.k) m2.d := (query_right b r2).tells
    have o1 : (queryI a m1.d m1.k).ok := queryI_ok a r1
    have o2 : (queryI b m2.d m2.k).ok := queryI_ok b r2
    obtain ⟨q1, hq1⟩ : ∃ z, queryI a m1.d m1.k = z := ⟨_, rfl⟩
    obtain ⟨q2, hq2⟩ : ∃ z, queryI b m2.d m2.k = z := ⟨_, rfl⟩
    rw [hq1] at HQa t1 o1
    rw [hq2] at HQb t2 o2
    have HL1 := hid (HL.out.at (HJ0.out.trans hj))
    have HP1 := hid (print_ans HL1.out q1 o1 m1.d)
    have HP2 := hid (print_ans HL1.out q2 o2 m2.d)
    have HX := hid (parse_ans HL1.out (printQ q1 m1.d) (print_short t1 o1))
    rw [parse_print t1 o1] at HX
    have HR := hid (runsA_ans HL1.out)
    have HEq : Hid ((printQ q1 m1.d == printQ q2 m2.d) = (q1.eqB q2 && (m1.d == m2.d))) := same_text t1 o1 o2
    have HE := hid (eq_queryB q1 q2)
    have E1 := eq_qy (a := q1) (b := q1) (r := true) (iff_of_true rfl rfl)
    have HNe := hid (printQ_ne.2 t1)
    clear hq1 hq2 hM1 hM2 hj hh1 hh2 fi0 fi1 fi2 fi3 fi4 gi0 gi1 gi2 gi3 gi4 HF HG HMf HMg hak hbk r1 r2 t1 t2 o1 o2 hne HL
    go_upto_region 2 with fail
    go_cut [11, 12] (fun p q wc => ∃ (g1 g2 : Nat), p = .pointer (some ⟨g1, 0, none⟩) ∧ q = .pointer (some ⟨g2, 0, none⟩) ∧ QyB wc g1 q1 ∧ QyB wc g2 q2 ∧ Jk w1 wc)
    case first =>
      refine region_inv 8 (fun L a0 w' => ∃ x22 x23 x24 x25 x26 x27 x11 x12 : Value, a0 = ⟨#[.agg #[.int .i64 d, .int .i64 k, .slice ba bn bc, .slice sa sn sc], .agg #[.int .i64 d', .int .i64 k', .slice ba' bn' bc', .slice sa' sn' sc'], askV a, askV b, .pointer (some ⟨w.heap.size, 0, none⟩), .pointer (some ⟨w.heap.size + 1, 0, none⟩), .pointer (some ⟨w.heap.size + 1 + 1, 0, none⟩), .pointer (some ⟨w.heap.size + 1 + 1 + 1, 0, none⟩), .bool false, .pointer (some ⟨h1, 0, none⟩), .pointer (some ⟨h2, 0, none⟩), x11, x12, undef, undef, undef, undef, undef, u18, u19, u20, u21, x22, x23, x24, x25, x26, x27, u28, u29, u30, u31, u32, u33, u34, u35, u36, u37, u38, u39, u40, u41, u42, u43, u44, u45, u46, u47, u48, u49, u50, u51, u52, u53, u54, u55, u56, u57, u58, u59, u60, u61, u62, u63, u64, u65, u66, u67, u68, u69, u70, u71, u72, u73, u74, u75, u76, u77], []⟩ ∧ Jk w1 w' ∧
        (L 0 = true → x22 = askV a) ∧ (L 1 = true → x23 = modelV m1) ∧ (L 2 = true → x24 = queryV q1) ∧ (L 3 = true → x25 = askV b) ∧ (L 4 = true → x26 = modelV m2) ∧ (L 5 = true → x27 = queryV q2) ∧ (L 6 = true → Zq w1 w' x11) ∧ (L 7 = true → Zq w1 w' x12) ∧ (L 6 = true → L 7 = true → x11 ≠ x12)) (by kernel_rfl) (by kernel_rfl) ?_ ?_ ?_
      · exact ⟨_, _, _, _, _, _, _, _, rfl, (Jk.refl w1).drew, fun h => absurd h Bool.false_ne_true, fun h => absurd h Bool.false_ne_true, fun h => absurd h Bool.false_ne_true, fun h => absurd h Bool.false_ne_true, fun h => absurd h Bool.false_ne_true, fun h => absurd h Bool.false_ne_true, fun h => absurd h Bool.false_ne_true, fun h => absurd h Bool.false_ne_true, fun h => absurd h Bool.false_ne_true⟩
      · intro i o hi ho L a0 w' hI hd hLi K hK
        obtain ⟨x22, x23, x24, x25, x26, x27, x11, x12, rfl, hj, i0, i1, i2, i3, i4, i5, i6, i7, i67⟩ := hI
        match i, hi with
        | 0, _ =>
          simp at ho
          subst ho
          obtain ⟨e, e0, e1, e2, e3, e4, e5, e6, e7⟩ := HAa.out w' (HJ1w.out.trans hj)
          go_simp
          refine hK _ _ ⟨_, _, _, _, _, _, _, _, rfl, hj, fun _ => rfl, fun h => i1 (by simpa using h), fun h => i2 (by simpa using h), fun h => i3 (by simpa using h), fun h => i4 (by simpa using h), fun h => i5 (by simpa using h), fun h => i6 (by simpa using h), fun h => i7 (by simpa using h), fun h h' => i67 (by simpa using h) (by simpa using h')⟩
        | 1, _ =>
          simp at ho
          subst ho
          obtain ⟨al, x0, x1, x2, x3, x4, x5⟩ := (HM1.out.jk hj).in
          go_simp
          refine hK _ _ ⟨_, _, _, _, _, _, _, _, rfl, hj, fun h => i0 (by simpa using h), fun _ => rfl, fun h => i2 (by simpa using h), fun h => i3 (by simpa using h), fun h => i4 (by simpa using h), fun h => i5 (by simpa using h), fun h => i6 (by simpa using h), fun h => i7 (by simpa using h), fun h h' => i67 (by simpa using h) (by simpa using h')⟩
        | 2, _ =>
          simp at ho
          subst ho
          obtain rfl := i0 (hd 0 (by kernel_rfl))
          obtain rfl := i1 (hd 1 (by kernel_rfl))
          go_simp
          go_at_call 11
          refine (HQa.out _ hj).mono ?_
          rintro e w1' ⟨rfl, hj1⟩
          have HJ1 := hid hj1
          clear hj1
          go_simp
          refine hK _ _ ⟨_, _, _, _, _, _, _, _, rfl, hj.trans HJ1.out, fun h => i0 (by simpa using h), fun h => i1 (by simpa using h), fun _ => rfl, fun h => i3 (by simpa using h), fun h => i4 (by simpa using h), fun h => i5 (by simpa using h), fun h => (i6 (by simpa using h)).jk HJ1.out, fun h => (i7 (by simpa using h)).jk HJ1.out, fun h h' => i67 (by simpa using h) (by simpa using h')⟩
        | 3, _ =>
          simp at ho
          subst ho
          obtain ⟨e, e0, e1, e2, e3, e4, e5, e6, e7⟩ := HAb.out w' (HJ1w.out.trans hj)
          go_simp
          refine hK _ _ ⟨_, _, _, _, _, _, _, _, rfl, hj, fun h => i0 (by simpa using h), fun h => i1 (by simpa using h), fun h => i2 (by simpa using h), fun _ => rfl, fun h => i4 (by simpa using h), fun h => i5 (by simpa using h), fun h => i6 (by simpa using h), fun h => i7 (by simpa using h), fun h h' => i67 (by simpa using h) (by simpa using h')⟩
        | 4, _ =>
          simp at ho
          subst ho
          obtain ⟨al, x0, x1, x2, x3, x4, x5⟩ := (HM2.out.jk hj).in
          go_simp
          refine hK _ _ ⟨_, _, _, _, _, _, _, _, rfl, hj, fun h => i0 (by simpa using h), fun h => i1 (by simpa using h), fun h => i2 (by simpa using h), fun h => i3 (by simpa using h), fun _ => rfl, fun h => i5 (by simpa using h), fun h => i6 (by simpa using h), fun h => i7 (by simpa using h), fun h h' => i67 (by simpa using h) (by simpa using h')⟩
        | 5, _ =>
          simp at ho
          subst ho
          obtain rfl := i3 (hd 3 (by kernel_rfl))
          obtain rfl := i4 (hd 4 (by kernel_rfl))
          go_simp
          go_at_call 11
          refine (HQb.out _ hj).mono ?_
          rintro e w1' ⟨rfl, hj1⟩
          have HJ1 := hid hj1
          clear hj1
          go_simp
          refine hK _ _ ⟨_, _, _, _, _, _, _, _, rfl, hj.trans HJ1.out, fun h => i0 (by simpa using h), fun h => i1 (by simpa using h), fun h => i2 (by simpa using h), fun h => i3 (by simpa using h), fun h => i4 (by simpa using h), fun _ => rfl, fun h => (i6 (by simpa using h)).jk HJ1.out, fun h => (i7 (by simpa using h)).jk HJ1.out, fun h h' => i67 (by simpa using h) (by simpa using h')⟩
        | 6, _ =>
          simp at ho
          subst ho
          have hja : Jk w' (w'.alloc (.cells #[.int .i64 0, .int .i64 0, .int .i64 0, .int .i64 0, .int .i64 0, .int .i64 0, .int .i64 0, .int .i64 0, .int .i64 0, .int .i64 0, .int .i64 0, .int .i64 0, .int .i64 0, .int .i64 0, .int .i64 0, .bool false, .int .i64 0] 27)) := (Jk.refl w').alloc _
          go_simp
          refine hK _ _ ⟨_, _, _, _, _, _, _, _, rfl, hj.trans hja, fun h => i0 (by simpa using h), fun h => i1 (by simpa using h), fun h => i2 (by simpa using h), fun h => i3 (by simpa using h), fun h => i4 (by simpa using h), fun h => i5 (by simpa using h), fun _ => zq_new hj, fun h => (i7 (by simpa using h)).jk hja, fun _ h' => ((i7 (by simpa using h')).ne).symm⟩
        | 7, _ =>
          simp at ho
          subst ho
          have hja : Jk w' (w'.alloc (.cells #[.int .i64 0, .int .i64 0, .int .i64 0, .int .i64 0, .int .i64 0, .int .i64 0, .int .i64 0, .int .i64 0, .int .i64 0, .int .i64 0, .int .i64 0, .int .i64 0, .int .i64 0, .int .i64 0, .int .i64 0, .bool false, .int .i64 0] 27)) := (Jk.refl w').alloc _
          go_simp
          refine hK _ _ ⟨_, _, _, _, _, _, _, _, rfl, hj.trans hja, fun h => i0 (by simpa using h), fun h => i1 (by simpa using h), fun h => i2 (by simpa using h), fun h => i3 (by simpa using h), fun h => i4 (by simpa using h), fun h => i5 (by simpa using h), fun h => (i6 (by simpa using h)).jk hja, fun _ => zq_new hj, fun h _ => (i6 (by simpa using h)).ne⟩
      · intro a0 w' hI
        obtain ⟨x22, x23, x24, x25, x26, x27, x11, x12, rfl, hj, i0, i1, i2, i3, i4, i5, i6, i7, i67⟩ := hI
        obtain rfl := i0 (by decide)
        obtain rfl := i1 (by decide)
        obtain rfl := i2 (by decide)
        obtain rfl := i3 (by decide)
        obtain rfl := i4 (by decide)
        obtain rfl := i5 (by decide)
        obtain ⟨g1, rfl, hg1, hZ1⟩ := i6 (by decide)
        obtain ⟨g2, rfl, hg2, hZ2⟩ := i7 (by decide)
        have hne : g1 ≠ g2 := fun e => i67 (by decide) (by decide) (by rw [e])
        clear i0 i1 i2 i3 i4 i5 i6 i7 i67 HQa HQb HAa HAb
        refine list_storeQ rfl _ _ rfl hZ1 rfl q1 rfl fun wa hqa hga => ?_
        refine list_storeQ rfl _ _ rfl (hZ2.by hga (Ne.symm hne)) rfl q2 rfl fun wb' hqb hgb => ?_
        have HFin := hid (⟨hqa.by hgb hne, hqb, (hj.grown hga (fun k hk => by cases hk; exact hg1)).grown hgb (fun k hk => by cases hk; exact hg2)⟩ : QyB wb' g1 q1 ∧ QyB wb' g2 q2 ∧ Jk w1 wb')
        go_wp2
        go_meet
        case rel => exact ⟨g1, g2, rfl, rfl, HFin.out.1, HFin.out.2.1, HFin.out.2.2⟩
    case rest =>
      obtain ⟨g1, g2, rfl, rfl, hX1, hX2, hj2⟩ := hcut
      obtain ⟨w2, rfl⟩ : ∃ z, z = wc := ⟨_, rfl⟩
      have HX1 := hid hX1
      have HX2 := hid hX2
      have HJ2 := hid hj2
      have HM1b := hid (HM1.out.jk hj2)
      have HM2b := hid (HM2.out.jk hj2)
      clear hX1 hX2 hj2 HQa HQb HAa HAb HM1 HM2
      obtain ⟨b2, hb2⟩ : ∃ z, q1.eqB q2 = z := ⟨_, rfl⟩
      rw [hb2] at HEq HE
      obtain ⟨S1, hS1⟩ : ∃ z, printQ q1 m1.d = z := ⟨_, rfl⟩
      rw [hS1] at HP1 HX HEq HNe
      obtain ⟨S2, hS2⟩ : ∃ z, printQ q2 m2.d = z := ⟨_, rfl⟩
      rw [hS2] at HP2 HEq
      clear hb2 hS1 hS2
      obtain ⟨kd, cl, ⟨⟨ra, rb⟩, ⟨rc, rd⟩, ⟨re, rf⟩, ⟨rg, rh⟩, ⟨ri, rj⟩⟩, lo, hi, f, fa, bu⟩ := q1
      obtain ⟨kd', cl', ⟨⟨ra', rb'⟩, ⟨rc', rd'⟩, ⟨re', rf'⟩, ⟨rg', rh'⟩, ⟨ri', rj'⟩⟩, lo', hi', f', fa', bu'⟩ := q2
      obtain ⟨d1, mk1, m1a, m1b, m1c, m1d, m1e, m1f, ts1⟩ := m1
      obtain ⟨d2, mk2, m2a, m2b, m2c, m2d, m2e, m2f, ts2⟩ := m2
      simp only [queryV] at HP1 HP2 HX HE E1 HEq
      have HEs := HE.out
      obtain ⟨b1, hb1⟩ : ∃ z, (S1 == S2) = z := ⟨_, rfl⟩
      obtain ⟨b3, hb3⟩ : ∃ z, (d1 == d2) = z := ⟨_, rfl⟩
      rw [hb1, hb3] at HEq
      have hl0 : 0 < S1.length := List.length_pos_iff.2 HNe.out
      have hl1 : (0 : Int) < (S1.length : Int) := by omega
      have hl2 := decide_eq_true hl1
      have hdd : (d1 == d1) = true := by simp
      clear HE HNe
      obtain ⟨xl, x0, x1, x2, x3, x4, x5⟩ := HM1b.out.in
      obtain ⟨yl, y0, y1, y2, y3, y4, y5⟩ := HM2b.out.in
      simp only at x0 y0
      clear x1 x2 x3 x4 x5 y1 y2 y3 y4 y5
      have HP1b := hid (HP1.out.at HJ2.out)
      have HP2b := hid (HP2.out.at HJ2.out)
      go_upto_region 3 with fail
      refine region_junk (by kernel_rfl) (by kernel_rfl) ?_
      refine quietw_loadQ (by rintro _ ⟨X, rfl⟩; exact HX1.out.jk ⟨X, rfl⟩) rfl _ rfl rfl ?_
      intro K hK
      simp only [Act.put, List.setIfInBounds_toArray, List.set_cons_succ, List.set_cons_zero]
      go_big_quiet_on
      iterate 3 (go_big_quiet_step (first | (go_at_call 9; exact AnsW.junk (by with_reducible exact HP1b.out) _) | exact rfl))
      refine quietw_loadQ (by rintro _ ⟨X, rfl⟩; exact HX2.out.jk ⟨X, rfl⟩) rfl _ rfl rfl ?_
      intro K hK
      simp only [Act.put, List.setIfInBounds_toArray, List.set_cons_succ, List.set_cons_zero]
      go_big_quiet_on
      repeat (go_big_quiet_step (first | (go_at_call 9; exact AnsW.junk (by with_reducible exact HP2b.out) _) | exact rfl))
      refine wpQuiet_nil ?_
      rintro _ ⟨X, rfl⟩
      have HJX : Hid (Jk w2 (junk w2 X)) := ⟨X, rfl⟩
      generalize junk w2 X = w3 at HJX ⊢
      clear x0 y0 xl yl HP1b HP2b HP1 HP2
      go_upto_region 5 with (go_at_call 8; refine (HX.out _ (HJ2.out.trans HJX.out)).mono ?_; rintro e w4 ⟨rfl, hj4⟩; have HJ4 := hid hj4; clear hj4)
      have HY5 : Hid (QyB (w4.alloc (.cells #[.int .i64 kd, .int .i64 cl, .int .i64 ra, .int .i64 rb, .int .i64 rc, .int .i64 rd, .int .i64 re, .int .i64 rf, .int .i64 rg, .int .i64 rh, .int .i64 ri, .int .i64 rj, .int .i64 lo, .int .i64 hi, .int .i64 f, .bool fa, .int .i64 bu] 27)) w4.heap.size ⟨kd, cl, ⟨⟨ra, rb⟩, ⟨rc, rd⟩, ⟨re, rf⟩, ⟨rg, rh⟩, ⟨ri, rj⟩⟩, lo, hi, f, fa, bu⟩) := QyB.laid w4 ⟨kd, cl, ⟨⟨ra, rb⟩, ⟨rc, rd⟩, ⟨re, rf⟩, ⟨rg, rh⟩, ⟨ri, rj⟩⟩, lo, hi, f, fa, bu⟩
      have HJ5 : Hid (Jk w2 (w4.alloc (.cells #[.int .i64 kd, .int .i64 cl, .int .i64 ra, .int .i64 rb, .int .i64 rc, .int .i64 rd, .int .i64 re, .int .i64 rf, .int .i64 rg, .int .i64 rh, .int .i64 ri, .int .i64 rj, .int .i64 lo, .int .i64 hi, .int .i64 f, .bool fa, .int .i64 bu] 27))) := (HJX.out.trans HJ4.out).alloc _
      generalize hw5 : w4.alloc (.cells #[.int .i64 kd, .int .i64 cl, .int .i64 ra, .int .i64 rb, .int .i64 rc, .int .i64 rd, .int .i64 re, .int .i64 rf, .int .i64 rg, .int .i64 rh, .int .i64 ri, .int .i64 rj, .int .i64 lo, .int .i64 hi, .int .i64 f, .bool fa, .int .i64 bu] 27) = w5 at HY5 HJ5 ⊢
      clear hw5
      have HX5 := hid (HX1.out.jk HJ5.out)
      have HZ5 := hid (HX2.out.jk HJ5.out)
      obtain ⟨xl, x0, x1, x2, x3, x4, x5⟩ := (HM1b.out.jk HJ5.out).in
      obtain ⟨yl, y0, y1, y2, y3, y4, y5⟩ := (HM2b.out.jk HJ5.out).in
      simp only at x0 y0
      clear x1 x2 x3 x4 x5 y1 y2 y3 y4 y5 HX1 HX2 HM1b HM2b
      have HJw := hid (((HJ0.out.trans HJ1w.out).trans HJ2.out).trans HJ5.out)
      have HJc := hid (Jk.refl w5)
      cases b2
      · obtain rfl : false = b1 := by rw [HEq.out]; rfl
        refine wp_region_lit ?_
        refine wpList_plain rfl fun K hK => ?_
        go_simp
        refine hK _ _ ?_
        clear hK K
        refine wpList_plain rfl fun K hK => ?_
        go_simp
        refine hK _ _ ?_
        clear hK K
        refine listw_loadQ rfl _ rfl (HY5.out.jk HJc.out) rfl ?_
        simp only [Act.put, List.setIfInBounds_toArray, List.set_cons_succ, List.set_cons_zero]
        refine listw_loadQ rfl _ rfl (HX5.out.jk HJc.out) rfl ?_
        simp only [Act.put, List.setIfInBounds_toArray, List.set_cons_succ, List.set_cons_zero]
        refine wpList_one rfl fun K hK => ?_
        go_simp
        refine hK _ _ ?_
        clear hK K
        refine wpList_plain rfl fun K hK => ?_
        go_simp
        refine hK _ _ ?_
        clear hK K
        refine wpList_plain rfl fun K hK => ?_
        go_simp
        refine hK _ _ ?_
        clear hK K
        refine wpList_one rfl fun K hK => ?_
        go_simp
        refine hK _ _ ?_
        clear hK K
        refine wpList_one rfl fun K hK => ?_
        go_simp
        refine hK _ _ ?_
        clear hK K
        refine wpList_one rfl fun K hK => ?_
        go_simp
        refine hK _ _ ?_
        clear hK K
        refine wpList_one rfl fun K hK => ?_
        go_simp
        refine hK _ _ ?_
        clear hK K
        refine wpList_plain rfl fun K hK => ?_
        go_simp
        refine hK _ _ ?_
        clear hK K
        refine wpList_plain rfl fun K hK => ?_
        go_simp
        refine hK _ _ ?_
        clear hK K
        refine wpList_one rfl fun K hK => ?_
        go_simp
        refine hK _ _ ?_
        clear hK K
        refine wpList_one rfl fun K hK => ?_
        go_simp
        refine hK _ _ ?_
        clear hK K
        refine wpList_one rfl fun K hK => ?_
        go_simp
        refine hK _ _ ?_
        clear hK K
        refine wpList_plain rfl fun K hK => ?_
        go_simp
        refine hK _ _ ?_
        clear hK K
        refine wpList_plain rfl fun K hK => ?_
        go_simp
        refine hK _ _ ?_
        clear hK K
        refine wpList_one rfl fun K hK => ?_
        go_simp
        refine hK _ _ ?_
        clear hK K
        refine wpList_one rfl fun K hK => ?_
        go_simp
        refine hK _ _ ?_
        clear hK K
        refine wpList_one rfl fun K hK => ?_
        go_simp
        refine hK _ _ ?_
        clear hK K
        refine listw_loadQ rfl _ rfl (HX5.out.jk HJc.out) rfl ?_
        simp only [Act.put, List.setIfInBounds_toArray, List.set_cons_succ, List.set_cons_zero]
        refine listw_loadQ rfl _ rfl (HZ5.out.jk HJc.out) rfl ?_
        simp only [Act.put, List.setIfInBounds_toArray, List.set_cons_succ, List.set_cons_zero]
        refine wpList_one rfl fun K hK => ?_
        go_simp
        refine hK _ _ ?_
        clear hK K
        refine wpList_one rfl fun K hK => ?_
        go_simp
        refine hK _ _ ?_
        clear hK K
        refine wpList_skip rfl ?_
        simp only [Act.put, List.setIfInBounds_toArray, List.set_cons_succ, List.set_cons_zero]
        refine wpList_skip rfl ?_
        simp only [Act.put, List.setIfInBounds_toArray, List.set_cons_succ, List.set_cons_zero]
        refine wpList_skip rfl ?_
        simp only [Act.put, List.setIfInBounds_toArray, List.set_cons_succ, List.set_cons_zero]
        refine wpList_skip rfl ?_
        simp only [Act.put, List.setIfInBounds_toArray, List.set_cons_succ, List.set_cons_zero]
        refine wpList_skip rfl ?_
        simp only [Act.put, List.setIfInBounds_toArray, List.set_cons_succ, List.set_cons_zero]
        refine wpList_one rfl fun K hK => ?_
        go_simp
        refine hK _ _ ?_
        clear hK K
        refine wpList_one rfl fun K hK => ?_
        go_simp
        refine hK _ _ ?_
        clear hK K
        refine wpList_plain rfl fun K hK => ?_
        go_simp
        refine hK _ _ ?_
        clear hK K
        refine wpList_plain rfl fun K hK => ?_
        go_simp
        refine hK _ _ ?_
        clear hK K
        refine wpList_one rfl fun K hK => ?_
        go_simp
        go_at_call 3
        refine (HR.out _ ((HJ2.out.trans HJ5.out).trans HJc.out)).mono ?_
        rintro e z0 ⟨rfl, hj⟩
        have HJn := hid (HJc.out.trans hj)
        clear hj HJc
        have HJc := HJn
        clear HJn
        go_simp
        refine hK _ _ ?_
        clear hK K
        refine wpList_plain rfl fun K hK => ?_
        go_simp
        refine hK _ _ ?_
        clear hK K
        refine wpList_plain rfl fun K hK => ?_
        go_simp
        refine hK _ _ ?_
        clear hK K
        refine wpList_nil ?_
        go_wp2
        go_ret
        exact ⟨rfl, HJw.out.trans HJc.out⟩
      · obtain rfl : b3 = b1 := by rw [HEq.out]; rfl
        have hbb : (b3 == b3) = true := by simp
        refine wp_region_lit ?_
        refine wpList_plain rfl fun K hK => ?_
        go_simp
        refine hK _ _ ?_
        clear hK K
        refine wpList_plain rfl fun K hK => ?_
        go_simp
        refine hK _ _ ?_
        clear hK K
        refine listw_loadQ rfl _ rfl (HY5.out.jk HJc.out) rfl ?_
        simp only [Act.put, List.setIfInBounds_toArray, List.set_cons_succ, List.set_cons_zero]
        refine listw_loadQ rfl _ rfl (HX5.out.jk HJc.out) rfl ?_
        simp only [Act.put, List.setIfInBounds_toArray, List.set_cons_succ, List.set_cons_zero]
        refine wpList_one rfl fun K hK => ?_
        go_simp
        refine hK _ _ ?_
        clear hK K
        refine wpList_plain rfl fun K hK => ?_
        go_simp
        refine hK _ _ ?_
        clear hK K
        refine wpList_plain rfl fun K hK => ?_
        go_simp
        refine hK _ _ ?_
        clear hK K
        refine wpList_one rfl fun K hK => ?_
        go_simp
        refine hK _ _ ?_
        clear hK K
        refine wpList_one rfl fun K hK => ?_
        go_simp
        refine hK _ _ ?_
        clear hK K
        refine wpList_one rfl fun K hK => ?_
        go_simp
        refine hK _ _ ?_
        clear hK K
        refine wpList_one rfl fun K hK => ?_
        go_simp
        refine hK _ _ ?_
        clear hK K
        refine wpList_plain rfl fun K hK => ?_
        go_simp
        refine hK _ _ ?_
        clear hK K
        refine wpList_plain rfl fun K hK => ?_
        go_simp
        refine hK _ _ ?_
        clear hK K
        refine wpList_one rfl fun K hK => ?_
        go_simp
        refine hK _ _ ?_
        clear hK K
        refine wpList_one rfl fun K hK => ?_
        go_simp
        refine hK _ _ ?_
        clear hK K
        refine wpList_one rfl fun K hK => ?_
        go_simp
        refine hK _ _ ?_
        clear hK K
        refine wpList_plain rfl fun K hK => ?_
        go_simp
        refine hK _ _ ?_
        clear hK K
        refine wpList_plain rfl fun K hK => ?_
        go_simp
        refine hK _ _ ?_
        clear hK K
        refine wpList_one rfl fun K hK => ?_
        go_simp
        refine hK _ _ ?_
        clear hK K
        refine wpList_one rfl fun K hK => ?_
        go_simp
        refine hK _ _ ?_
        clear hK K
        refine wpList_one rfl fun K hK => ?_
        go_simp
        refine hK _ _ ?_
        clear hK K
        refine listw_loadQ rfl _ rfl (HX5.out.jk HJc.out) rfl ?_
        simp only [Act.put, List.setIfInBounds_toArray, List.set_cons_succ, List.set_cons_zero]
        refine listw_loadQ rfl _ rfl (HZ5.out.jk HJc.out) rfl ?_
        simp only [Act.put, List.setIfInBounds_toArray, List.set_cons_succ, List.set_cons_zero]
        refine wpList_one rfl fun K hK => ?_
        go_simp
        refine hK _ _ ?_
        clear hK K
        refine wpList_one rfl fun K hK => ?_
        go_simp
        refine hK _ _ ?_
        clear hK K
        refine wpList_one rfl fun K hK => ?_
        go_simp
        refine hK _ _ ?_
        clear hK K
        refine wpList_one rfl fun K hK => ?_
        go_simp
        refine hK _ _ ?_
        clear hK K
        refine wpList_one rfl fun K hK => ?_
        go_simp
        refine hK _ _ ?_
        clear hK K
        refine wpList_one rfl fun K hK => ?_
        go_simp
        refine hK _ _ ?_
        clear hK K
        refine wpList_one rfl fun K hK => ?_
        go_simp
        refine hK _ _ ?_
        clear hK K
        refine wpList_one rfl fun K hK => ?_
        go_simp
        refine hK _ _ ?_
        clear hK K
        refine wpList_one rfl fun K hK => ?_
        go_simp
        refine hK _ _ ?_
        clear hK K
        refine wpList_plain rfl fun K hK => ?_
        go_simp
        refine hK _ _ ?_
        clear hK K
        refine wpList_plain rfl fun K hK => ?_
        go_simp
        refine hK _ _ ?_
        clear hK K
        refine wpList_one rfl fun K hK => ?_
        go_simp
        go_at_call 3
        refine (HR.out _ ((HJ2.out.trans HJ5.out).trans HJc.out)).mono ?_
        rintro e z0 ⟨rfl, hj⟩
        have HJn := hid (HJc.out.trans hj)
        clear hj HJc
        have HJc := HJn
        clear HJn
        go_simp
        refine hK _ _ ?_
        clear hK K
        refine wpList_plain rfl fun K hK => ?_
        go_simp
        refine hK _ _ ?_
        clear hK K
        refine wpList_plain rfl fun K hK => ?_
        go_simp
        refine hK _ _ ?_
        clear hK K
        refine wpList_nil ?_
        go_wp2
        go_ret
        exact ⟨rfl, HJw.out.trans HJc.out⟩
theorem askBack_walk (f g : Fo) (a b : Ak) (w : World) (hf : f.ok w) (hg : g.ok w) (ha : a.ok w) (hb : b.ok w) (hE : Env w) : Calls Tryd.prog 4 #[forestV f, forestV g, askV a, askV b] w fun e w' => e = .returned (.bool true) ∧ Jk w w' :=
  askBack_walk0 f g a b w (lib_a hE) hf hg ha hb
end Go.Proofs.YtjpffempmlfoeaaDoor
