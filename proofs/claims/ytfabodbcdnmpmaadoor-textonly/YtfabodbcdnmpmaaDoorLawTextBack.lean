/- The law TextBack of chapter 9 answers true: its walk through the Go text, by the contracts of package text. Conditions: what the statement itself says of the library's variables ('Env'). -/
import Derived.Test.YtfabodbcdnmpmaaDoorLawTextRuns
import Derived.Test.YtfabodbcdnmpmaaDoorForestA
import Derived.Test.YtfabodbcdnmpmaaDoorStart
import Derived.Test.YtfabodbcdnmpmaaDoorInv
namespace Go.Proofs.YtfabodbcdnmpmaaDoor
open Go.RowKit M

theorem parse_empty {P : Pm} {ok : Bool} (h : ParseP [] P ok) : P = Pm.nil ∧ ok = false := by
  cases ok
  · exact ⟨(h.2 rfl).1, rfl⟩
  · exact absurd (h.1 rfl).2 (text_ne P)
/-- a block for a model, not written yet; a model that numbers made -/
def Zr (w0 w : World) (v : Value) : Prop := ∃ h, v = .pointer (some ⟨h, 0, none⟩) ∧ w0.heap.size ≤ h ∧ MdB w h ⟨0, 0, 0, 0, 0, none, 0, 0, []⟩
def Gd (w0 w : World) (v : Value) : Prop := ∃ m : Md, v = modelV m ∧ RightM m ∧ m.d ≤ 3 ∧ m.n ≤ 4 ∧ FRow w0.heap.size w (.slice m.a m.n m.c) m.n m.ts
theorem Zr.jk {w0 w w' : World} {v : Value} (h : Zr w0 w v) (hj : Jk w w') : Zr w0 w' v := by
  obtain ⟨h, rfl, h1, h2⟩ := h
  exact ⟨h, rfl, h1, h2.jk hj⟩
theorem Gd.jk {w0 w w' : World} {v : Value} (h : Gd w0 w v) (hj : Jk w w') : Gd w0 w' v := by
  obtain ⟨m, rfl, h1, h2, h3, h4⟩ := h
  exact ⟨m, rfl, h1, h2, h3, h4.jk hj⟩
theorem GotM.gd {w0 w w' : World} {v : Value} (hj : Jk w0 w) (h : GotM w (.returned v) w') : Gd w0 w' v := by
  obtain ⟨m, e, h1, h2, h3, h4, _⟩ := h
  cases e
  exact ⟨m, rfl, h1, h2, h3, h4.mono hj.below.size⟩
theorem zr_new {w0 w : World} (hj : Jk w0 w) : Zr w0 (w.alloc (.cells #[.int .i64 0, .int .i64 0, .int .i64 0, .int .i64 0, .int .i64 0, .slice none 0 0] 32)) (.pointer (some ⟨w.heap.size, 0, none⟩)) :=
  ⟨_, rfl, hj.below.size, MdB.laid w ⟨0, 0, 0, 0, 0, none, 0, 0, []⟩⟩
theorem Zr.ne {w0 w : World} {v : Value} (h : Zr w0 w v) : v ≠ .pointer (some ⟨w.heap.size, 0, none⟩) := fun e => by
  obtain ⟨h, rfl, _, h2⟩ := h
  simp at e
  have := h2.lt
  omega

theorem FRow.apart {B : Nat} {w : World} {v : Value} {n b : Nat} {ts : List Tr} {m0 : Md} (h : FRow B w v n ts) (hp : ∀ i, i < n → 0 < (tA ts i).n) (hM : MdB w b m0) : v.ownBlock ≠ some b ∧ ∀ i, i < n → ∀ g, (tA ts i).a = some ⟨g, 0, none⟩ → g ≠ b := by
  constructor
  · intro e
    rcases h.own.2.2 with ⟨rfl, _⟩ | ⟨g, cap, cur, rfl, _, hg, _⟩
    · simp [Value.ownBlock] at e
    · simp [Value.ownBlock] at e
      subst e
      unfold MdB at hM
      rw [hM] at hg
      simp at hg
  · rintro i hi g e rfl
    obtain ⟨g', o', e2, _, hat⟩ := (h.ok i hi).is.lies (hp i hi)
    rw [e] at e2
    simp at e2
    obtain ⟨rfl, rfl⟩ := e2
    have h1 := hat 0 (by rw [(h.ok i hi).is.len]; exact hp i hi)
    have h2 := hM.in.2.1
    rw [Nat.zero_add, h2] at h1
    cases h1
theorem FRow.keep {B : Nat} {w w' : World} {v : Value} {n b : Nat} {ts : List Tr} {m0 : Md} (h : FRow B w v n ts) (hp : ∀ i, i < n → 0 < (tA ts i).n) (hM : MdB w b m0) (hg : w.grownBy w' (some b)) : FRow B w' v n ts := by
  obtain ⟨h1, h2⟩ := h.apart hp hM
  refine ⟨h.own.kept hg (.inr h1), fun i hi => ?_, fun i hi => ?_, h.small⟩
  · obtain ⟨g, q1, q2, q3, q4⟩ := h.each i hi
    exact ⟨g, q1, q2, Nat.lt_of_lt_of_le q3 hg.size, q4⟩
  · obtain ⟨g, q1, q2, q3, q4⟩ := h.each i hi
    refine ⟨(h.ok i hi).fit, (h.ok i hi).is.kept hg fun g' o e => ?_⟩
    rw [q1] at e
    simp at e
    intro e2
    simp at e2
    exact h2 i hi g q1 (by omega)
theorem RightM.pos {B : Nat} {w : World} {m : Md} (hr : RightM m) (h : FRow B w (.slice m.a m.n m.c) m.n m.ts) : ∀ i, i < m.n → 0 < (tA m.ts i).n := fun i hi => by
  have h1 := (hr.trees.2 i (by rw [h.own.1]; exact hi)).tree.full
  have h2 := (h.ok i hi).is.len
  omega
/-- a model is laid into a block -/
def putW (w : World) (h : Nat) (m : Md) : World := (((((w.setCell ⟨h, 0, none⟩ (.int .i64 m.d)).setCell ⟨h, 1, none⟩ (.int .i64 m.k)).setCell ⟨h, 2, none⟩ (.int .i64 m.b0)).setCell ⟨h, 3, none⟩ (.int .i64 m.b1)).setCell ⟨h, 4, none⟩ (.int .i64 m.b2)).setCell ⟨h, 5, none⟩ (.slice m.a m.n m.c)
theorem grown_putW (w : World) (h : Nat) (m : Md) : w.grownBy (putW w h m) (some h) := (((((grown_set w h 0 _).trans (grown_set _ h 1 _)).trans (grown_set _ h 2 _)).trans (grown_set _ h 3 _)).trans (grown_set _ h 4 _)).trans (grown_set _ h 5 _)
theorem MdB.putW {w : World} {h : Nat} {m0 : Md} (H : MdB w h m0) (m : Md) : MdB (putW w h m) h m := ((((((H.setD m.d).setK m.k).setB0 m.b0).setB1 m.b1).setB2 m.b2).setT m.a m.n m.c m.ts)
theorem Jk.putW {w0 w : World} {h : Nat} (hj : Jk w0 w) (hh : w0.heap.size ≤ h) (m : Md) : Jk w0 (putW w h m) := hj.grown (grown_putW w h m) (fun k hk => by cases hk; exact hh)

set_option maxRecDepth 100000 in
set_option maxHeartbeats 3200000 in
theorem textBack_walk0 (f g : Fo) (w : World) (hL : LibP w) (hf : f.ok w) (hg : g.ok w) : Calls Tryd.prog 4 #[forestV f, forestV g] w fun e w' => e = .returned (.bool true) ∧ Jk w w' := by
  have J := rules8
  obtain ⟨w0, hw0⟩ : ∃ w0, (w.alloc (.cells #[.int .i64 f.d, .int .i64 f.k, .slice f.ba f.bn f.bc, .slice f.sa f.sn f.sc] 41)).alloc (.cells #[.int .i64 g.d, .int .i64 g.k, .slice g.ba g.bn g.bc, .slice g.sa g.sn g.sc] 41) = w0 := ⟨_, rfl⟩
  have HJ0 : Hid (Jk w w0) := hw0 ▸ ((Jk.refl w).alloc _).alloc _
  have HF : Hid (FoIn w0 w.heap.size f) := hw0 ▸ (FoIn.laid w f _).jk ((Jk.refl _).alloc _)
  have HG : Hid (FoIn w0 (w.heap.size + 1) g) := by
    rw [← hw0]
    have := FoIn.laid (w.alloc (.cells #[.int .i64 f.d, .int .i64 f.k, .slice f.ba f.bn f.bc, .slice f.sa f.sn f.sc] 41)) g 41
    rwa [World.size_alloc] at this
  have HMf : Hid (∀ w', Jk w0 w' → Calls Tryd.prog 11 #[forestV f] w' fun e w'' => GotM w' e w'') := fun w' hj => model_any f w' (hf.jk (HJ0.out.trans hj))
  have HMg : Hid (∀ w', Jk w0 w' → Calls Tryd.prog 11 #[forestV g] w' fun e w'' => GotM w' e w'') := fun w' hj => model_any g w' (hg.jk (HJ0.out.trans hj))
  obtain ⟨fi0, fi1, fi2, fi3, fi4⟩ := HF.out
  obtain ⟨gi0, gi1, gi2, gi3, gi4⟩ := HG.out
  obtain ⟨d, k, ba, bn, bc, bz, sa, sn, sc, ss⟩ := f
  obtain ⟨d', k', ba', bn', bc', bz', sa', sn', sc', ss'⟩ := g
  simp only [forestV] at *
  clear hf hg
  go_enter Tryd.func4, Tryd.ntmps4
  go_upto_region 1 with fail
  go_cut [5, 6] (fun p q wc => ∃ (h1 h2 : Nat) (m1 m2 : Md), p = .pointer (some ⟨h1, 0, none⟩) ∧ q = .pointer (some ⟨h2, 0, none⟩) ∧ h1 ≠ h2 ∧ MdB wc h1 m1 ∧ MdB wc h2 m2 ∧ w0.heap.size ≤ h1 ∧ w0.heap.size ≤ h2 ∧ RightM m1 ∧ RightM m2 ∧ FRow w0.heap.size wc (.slice m1.a m1.n m1.c) m1.n m1.ts ∧ FRow w0.heap.size wc (.slice m2.a m2.n m2.c) m2.n m2.ts ∧ Jk w0 wc)
  case first =>
    have HFc := fun (w' : World) (hj : Jk w0 w') => HF.out.jk hj
    have HGc := fun (w' : World) (hj : Jk w0 w') => HG.out.jk hj
    refine region_inv 6 (fun L a w' => ∃ x5 x6 x13 x14 x15 x16 : Value, a = ⟨#[.agg #[.int .i64 d, .int .i64 k, .slice ba bn bc, .slice sa sn sc], .agg #[.int .i64 d', .int .i64 k', .slice ba' bn' bc', .slice sa' sn' sc'], .pointer (some ⟨w.heap.size, 0, none⟩), .pointer (some ⟨w.heap.size + 1, 0, none⟩), .bool false, x5, x6, undef, undef, undef, undef, undef, undef, x13, x14, x15, x16, undef, undef, undef, undef, undef, undef, undef, undef, undef, undef, undef, undef, undef, undef, undef, undef, undef, undef, undef, undef, undef, undef, undef, undef, undef, undef, undef, undef, undef, undef, undef, undef, undef, undef, undef, undef, undef, undef, undef, undef, undef, undef, undef, undef, undef, undef], []⟩ ∧ Jk w0 w' ∧
      (L 0 = true → x13 = .agg #[.int .i64 d, .int .i64 k, .slice ba bn bc, .slice sa sn sc]) ∧ (L 1 = true → Gd w0 w' x14) ∧ (L 2 = true → x15 = .agg #[.int .i64 d', .int .i64 k', .slice ba' bn' bc', .slice sa' sn' sc']) ∧ (L 3 = true → Gd w0 w' x16) ∧ (L 4 = true → Zr w0 w' x5) ∧ (L 5 = true → Zr w0 w' x6) ∧ (L 4 = true → L 5 = true → x5 ≠ x6)) (by kernel_rfl) (by kernel_rfl) ?_ ?_ ?_
    · exact ⟨_, _, _, _, _, _, rfl, (Jk.refl w0).drew, fun h => absurd h Bool.false_ne_true, fun h => absurd h Bool.false_ne_true, fun h => absurd h Bool.false_ne_true, fun h => absurd h Bool.false_ne_true, fun h => absurd h Bool.false_ne_true, fun h => absurd h Bool.false_ne_true, fun h => absurd h Bool.false_ne_true⟩
    · intro i o hi ho L a w' hI hd hLi K hK
      obtain ⟨x5, x6, x13, x14, x15, x16, rfl, hj, i0, i1, i2, i3, i4, i5, i45⟩ := hI
      match i, hi with
      | 0, _ =>
        simp at ho
        subst ho
        obtain ⟨e0, e1, e2, e3, e4⟩ := HFc w' hj
        simp only at e1 e2 e3 e4
        go_simp
        refine hK _ _ ⟨_, _, _, _, _, _, rfl, hj, fun _ => rfl, fun h => i1 (by simpa using h), fun h => i2 (by simpa using h), fun h => i3 (by simpa using h), fun h => i4 (by simpa using h), fun h => i5 (by simpa using h), fun h h' => i45 (by simpa using h) (by simpa using h')⟩
      | 1, _ =>
        simp at ho
        subst ho
        obtain rfl := i0 (hd 0 (by kernel_rfl))
        go_simp
        go_at_call 11
        refine (HMf.out _ hj).mono ?_
        rintro e w1 hGm
        obtain ⟨v1, he, hgd, hj1⟩ : ∃ v1, e = .returned v1 ∧ Gd w0 w1 v1 ∧ Jk w' w1 := by
          obtain ⟨m, rfl, q1, q2, q3, q4, q5⟩ := hGm
          exact ⟨_, rfl, ⟨m, rfl, q1, q2, q3, q4.mono hj.below.size⟩, q5⟩
        subst he
        have HGd := hid hgd
        have HJ1 := hid hj1
        clear hgd hj1 hGm
        go_simp
        refine hK _ _ ⟨_, _, _, _, _, _, rfl, hj.trans HJ1.out, fun h => i0 (by simpa using h), fun _ => HGd.out, fun h => i2 (by simpa using h), fun h => (i3 (by simpa using h)).jk HJ1.out, fun h => (i4 (by simpa using h)).jk HJ1.out, fun h => (i5 (by simpa using h)).jk HJ1.out, fun h h' => i45 (by simpa using h) (by simpa using h')⟩
      | 2, _ =>
        simp at ho
        subst ho
        obtain ⟨e0, e1, e2, e3, e4⟩ := HGc w' hj
        simp only at e1 e2 e3 e4
        go_simp
        refine hK _ _ ⟨_, _, _, _, _, _, rfl, hj, fun h => i0 (by simpa using h), fun h => i1 (by simpa using h), fun _ => rfl, fun h => i3 (by simpa using h), fun h => i4 (by simpa using h), fun h => i5 (by simpa using h), fun h h' => i45 (by simpa using h) (by simpa using h')⟩
      | 3, _ =>
        simp at ho
        subst ho
        obtain rfl := i2 (hd 2 (by kernel_rfl))
        go_simp
        go_at_call 11
        refine (HMg.out _ hj).mono ?_
        rintro e w1 hGm
        obtain ⟨v1, he, hgd, hj1⟩ : ∃ v1, e = .returned v1 ∧ Gd w0 w1 v1 ∧ Jk w' w1 := by
          obtain ⟨m, rfl, q1, q2, q3, q4, q5⟩ := hGm
          exact ⟨_, rfl, ⟨m, rfl, q1, q2, q3, q4.mono hj.below.size⟩, q5⟩
        subst he
        have HGd := hid hgd
        have HJ1 := hid hj1
        clear hgd hj1 hGm
        go_simp
        refine hK _ _ ⟨_, _, _, _, _, _, rfl, hj.trans HJ1.out, fun h => i0 (by simpa using h), fun h => (i1 (by simpa using h)).jk HJ1.out, fun h => i2 (by simpa using h), fun _ => HGd.out, fun h => (i4 (by simpa using h)).jk HJ1.out, fun h => (i5 (by simpa using h)).jk HJ1.out, fun h h' => i45 (by simpa using h) (by simpa using h')⟩
      | 4, _ =>
        simp at ho
        subst ho
        have hja : Jk w' (w'.alloc (.cells #[.int .i64 0, .int .i64 0, .int .i64 0, .int .i64 0, .int .i64 0, .slice none 0 0] 32)) := (Jk.refl w').alloc _
        go_simp
        refine hK _ _ ⟨_, _, _, _, _, _, rfl, hj.trans hja, fun h => i0 (by simpa using h), fun h => (i1 (by simpa using h)).jk hja, fun h => i2 (by simpa using h), fun h => (i3 (by simpa using h)).jk hja, fun _ => zr_new hj, fun h => (i5 (by simpa using h)).jk hja, fun _ h' => ((i5 (by simpa using h')).ne).symm⟩
      | 5, _ =>
        simp at ho
        subst ho
        have hja : Jk w' (w'.alloc (.cells #[.int .i64 0, .int .i64 0, .int .i64 0, .int .i64 0, .int .i64 0, .slice none 0 0] 32)) := (Jk.refl w').alloc _
        go_simp
        refine hK _ _ ⟨_, _, _, _, _, _, rfl, hj.trans hja, fun h => i0 (by simpa using h), fun h => (i1 (by simpa using h)).jk hja, fun h => i2 (by simpa using h), fun h => (i3 (by simpa using h)).jk hja, fun h => (i4 (by simpa using h)).jk hja, fun _ => zr_new hj, fun h _ => (i4 (by simpa using h)).ne⟩
    · intro a w' hI
      obtain ⟨x5, x6, x13, x14, x15, x16, rfl, hj, i0, i1, i2, i3, i4, i5, i45⟩ := hI
      obtain rfl := i0 (by decide)
      obtain rfl := i2 (by decide)
      obtain ⟨m1, rfl, r1, s1, t1, fr1⟩ := i1 (by decide)
      obtain ⟨m2, rfl, r2, s2, t2, fr2⟩ := i3 (by decide)
      obtain ⟨h1, rfl, hh1, hM1⟩ := i4 (by decide)
      obtain ⟨h2, rfl, hh2, hM2⟩ := i5 (by decide)
      have hne : h1 ≠ h2 := fun e => i45 (by decide) (by decide) (by rw [e])
      have hne' := Ne.symm hne
      have hok1 : MdB (putW (putW w' h1 m1) h2 m2) h1 m1 := (hM1.putW m1).by (grown_putW _ h2 m2) hne
      have hok2 : MdB (putW (putW w' h1 m1) h2 m2) h2 m2 := (hM2.by (grown_putW w' h1 m1) hne').putW m2
      have hf1 := (fr1.keep (r1.pos fr1) hM1 (grown_putW w' h1 m1)).keep (r1.pos fr1) (hM2.by (grown_putW w' h1 m1) hne') (grown_putW _ h2 m2)
      have hf2 := (fr2.keep (r2.pos fr2) hM1 (grown_putW w' h1 m1)).keep (r2.pos fr2) (hM2.by (grown_putW w' h1 m1) hne') (grown_putW _ h2 m2)
      have HFin := hid (⟨hok1, hok2, hf1, hf2, (hj.putW hh1 m1).putW hh2 m2⟩ : MdB (putW (putW w' h1 m1) h2 m2) h1 m1 ∧ MdB (putW (putW w' h1 m1) h2 m2) h2 m2 ∧ FRow w0.heap.size (putW (putW w' h1 m1) h2 m2) (.slice m1.a m1.n m1.c) m1.n m1.ts ∧ FRow w0.heap.size (putW (putW w' h1 m1) h2 m2) (.slice m2.a m2.n m2.c) m2.n m2.ts ∧ Jk w0 (putW (putW w' h1 m1) h2 m2))
      obtain ⟨al, x0, x1, x2, x3, x4, x5⟩ := hM1.in
      obtain ⟨bl, y0, y1, y2, y3, y4, y5⟩ := hM2.in
      have hz1 := hM1.frozen
      have hz2 := hM2.frozen
      simp only at x0 x1 x2 x3 x4 x5 y0 y1 y2 y3 y4 y5
      clear i0 i1 i2 i3 i4 i5 i45 fr1 fr2 hM1 hM2 hok1 hok2 hf1 hf2 hj HFc HGc HMf HMg
      go_wp2
      go_meet
      case rel => exact ⟨h1, h2, m1, m2, rfl, rfl, hne, HFin.out.1, HFin.out.2.1, hh1, hh2, r1, r2, HFin.out.2.2.1, HFin.out.2.2.2.1, HFin.out.2.2.2.2⟩
  case rest =>
    obtain ⟨h1, h2, m1, m2, rfl, rfl, hne, hM1, hM2, hh1, hh2, r1, r2, fr1, fr2, hj⟩ := hcut
    obtain ⟨w1, rfl⟩ : ∃ z, z = wc := ⟨_, rfl⟩
    have HL1 := hid (hL.at (HJ0.out.trans hj))
    have HL0 := hid (hL.at HJ0.out)
    have ok1 := r1.mdok fr1
    have ok2 := r2.mdok fr2
    have rp1 : RightP m1.pm := right_pm.2 r1
    have rp2 : RightP m2.pm := right_pm.2 r2
    have HP1 := hid (print_m HL1.out ok1)
    have HP2 := hid (print_m HL1.out ok2)
    rw [printM_yes rp1] at HP1
    rw [printM_yes rp2] at HP2
    have HLn : Hid ((textM m1.pm).length ≤ 1000000) := Nat.le_trans (textM_len rp1) (by decide)
    have HPy : Hid (∀ P ok, ParseP (textM m1.pm) P ok → P = m1.pm ∧ ok = true) := fun P ok h => h.same (ParseP.yes rp1)
    have HEq : Hid (textM m1.pm = textM m2.pm ↔ m1.pm = m2.pm) := ⟨fun h => text_inj rp1 rp2 h, fun h => by rw [h]⟩
    have HR1 := hid r1
    have HFr1 := hid fr1
    have HM1 := hid hM1
    have HM2 := hid hM2
    have HO1 := hid ok1
    have HO2 := hid ok2
    have HJ1 := hid hj
    have HPos := hid (r1.pos fr1)
    obtain ⟨S1, hS1⟩ : ∃ S, textM m1.pm = S := ⟨_, rfl⟩
    obtain ⟨S2, hS2⟩ : ∃ S, textM m2.pm = S := ⟨_, rfl⟩
    rw [hS1] at HP1 HLn HPy HEq
    rw [hS2] at HP2 HEq
    clear hS1 hS2 rp1 rp2 ok1 ok2 r1 r2 fr1 fr2 hM1 hM2 hj HMf HMg HF HG fi0 fi1 fi2 fi3 fi4 gi0 gi1 gi2 gi3 gi4 hL
    obtain ⟨D1, K1, B10, B11, B12, A1, N1, C1, T1⟩ := m1
    obtain ⟨D2, K2, B20, B21, B22, A2, N2, C2, T2⟩ := m2
    simp only at HPos HFr1
    have HPs := hid (fun (z : World) (hz : Jk w1 z) => parse_m HL1.out S1 HLn.out hz)
    have HPe := hid (fun (z : World) (hz : Jk w0 z) (hl : LibP z) => parse_m hl [] (by decide) (Jk.refl z))
    obtain ⟨al, x0, x1, x2, x3, x4, x5⟩ := HM1.out.in
    obtain ⟨bl, y0, y1, y2, y3, y4, y5⟩ := HM2.out.in
    simp only at x0 x1 x2 x3 x4 x5 y0 y1 y2 y3 y4 y5
    have hne' := Ne.symm hne
    go_upto_region 2 with fail
    refine region_junk (by kernel_rfl) (by kernel_rfl) ?_
    repeat (go_big_quiet_step (first | (go_at_call 9; exact AnsW.junk (by with_reducible first | exact HP1.out | exact HP2.out) _) | exact rfl))
    refine wpQuiet_nil ?_
    rintro _ ⟨X, rfl⟩
    have HJ2 : Hid (Jk w1 (junk w1 X)) := (Jk.refl w1).junk X
    generalize junk w1 X = w2 at HJ2 ⊢
    go_upto_region 4 with (go_at_call 8; refine (HPs.out _ HJ2.out).mono ?_; rintro e w3 ⟨⟨d3, k3, b30, b31, b32, a3, n3, c3, ts3⟩, ok, rfl, hok, hpp, hj3⟩; obtain ⟨hpm, rfl⟩ := HPy.out _ _ hpp; have HPm := hid hpm; have HO3 := hid hok; have HJ3 := hid (HJ2.out.trans hj3); clear hpm hok hpp hj3)
    have HJ4 : Hid (Jk w3 (w3.alloc (.cells #[.int .i64 d3, .int .i64 k3, .int .i64 b30, .int .i64 b31, .int .i64 b32, .slice a3 n3 c3] 32))) := (Jk.refl w3).alloc _
    have HM4 : Hid (MdB (w3.alloc (.cells #[.int .i64 d3, .int .i64 k3, .int .i64 b30, .int .i64 b31, .int .i64 b32, .slice a3 n3 c3] 32)) w3.heap.size ⟨d3, k3, b30, b31, b32, a3, n3, c3, ts3⟩) := MdB.laid w3 ⟨d3, k3, b30, b31, b32, a3, n3, c3, ts3⟩
    have hz3 : w1.heap.size ≤ w3.heap.size := HJ3.out.below.size
    generalize w3.alloc (.cells #[.int .i64 d3, .int .i64 k3, .int .i64 b30, .int .i64 b31, .int .i64 b32, .slice a3 n3 c3] 32) = w4 at HJ4 HM4 ⊢
    have HJ14 : Hid (Jk w1 w4) := HJ3.out.trans HJ4.out
    have HMs := hid (models_ans (b := true) (HO3.out.jk HJ4.out) (HO1.out.jk HJ14.out) ⟨fun _ => HPm.out, fun _ => rfl⟩)
    obtain ⟨e, he⟩ : ∃ e : Bool, e = true ↔ Md.pm ⟨D1, K1, B10, B11, B12, A1, N1, C1, T1⟩ = Md.pm ⟨D2, K2, B20, B21, B22, A2, N2, C2, T2⟩ := by
      classical exact ⟨decide (Md.pm ⟨D1, K1, B10, B11, B12, A1, N1, C1, T1⟩ = Md.pm ⟨D2, K2, B20, B21, B22, A2, N2, C2, T2⟩), by simp⟩
    have HMt := hid (models_ans (b := e) (HO1.out.jk HJ14.out) (HO2.out.jk HJ14.out) he)
    clear al x0 x1 x2 x3 x4 x5 bl y0 y1 y2 y3 y4 y5
    have HM14 := hid (HM1.out.jk HJ14.out)
    obtain ⟨al, x0, x1, x2, x3, x4, x5⟩ := HM14.out.in
    obtain ⟨bl, y0, y1, y2, y3, y4, y5⟩ := (HM2.out.jk HJ14.out).in
    obtain ⟨cl, z0, z1, z2, z3, z4, z5⟩ := HM4.out.in
    simp only at x0 x1 x2 x3 x4 x5 y0 y1 y2 y3 y4 y5 z0 z1 z2 z3 z4 z5
    have HE2 : Hid (S1 = S2 ↔ e = true) := HEq.out.trans he.symm
    clear he HEq
    simp only [modelV] at HMs HMt
    go_cut [42] (fun v wc => v = .bool false ∧ Jk w4 wc)
    case first =>
      by_cases hS : S1 = S2
      · obtain rfl : true = e := (HE2.out.1 hS).symm
        subst hS
        go_wp2_with (go_at_call 10; refine (AnsW.on (by with_reducible first | exact HMs.out | exact HMt.out) _ (by repeat (with_reducible first | exact Jk.refl _ | apply Jk.junk))).mono ?_; rintro e w6 ⟨rfl, X6, rfl⟩)
        go_meet
        case rel => exact ⟨rfl, by repeat (with_reducible first | exact Jk.refl _ | apply Jk.junk)⟩
      · obtain rfl : false = e := (Bool.eq_false_iff.2 fun h => hS (HE2.out.2 h)).symm
        have hS' : (S1 == S2) = false := by simpa using hS
        go_wp2_with (go_at_call 10; refine (AnsW.on (by with_reducible first | exact HMs.out | exact HMt.out) _ (by repeat (with_reducible first | exact Jk.refl _ | apply Jk.junk))).mono ?_; rintro e w6 ⟨rfl, X6, rfl⟩)
        go_meet
        case rel => exact ⟨rfl, by repeat (with_reducible first | exact Jk.refl _ | apply Jk.junk)⟩
    case rest =>
      obtain ⟨rfl, hj5⟩ := hcut
      obtain ⟨w5, rfl⟩ : ∃ z, z = wc := ⟨_, rfl⟩
      have HJ15 : Hid (Jk w1 w5) := HJ14.out.trans hj5
      have HM5 := hid (HM14.out.jk hj5)
      have HF5 := hid (HFr1.out.jk HJ15.out)
      have HJ05 : Hid (Jk w0 w5) := HJ1.out.trans HJ15.out
      clear al x0 x1 x2 x3 x4 x5 bl y0 y1 y2 y3 y4 y5 cl z0 z1 z2 z3 z4 z5 hj5 HM14 HMs HMt HM4 HE2 HPs HP1 HP2
      obtain ⟨al, x0, x1, x2, x3, x4, x5⟩ := HM5.out.in
      have hfz := HM5.out.frozen
      simp only at x0 x1 x2 x3 x4 x5
      have HM6 : Hid (MdB (w5.setCell ⟨h1, 0, none⟩ (.int .i64 9)) h1 ⟨9, K1, B10, B11, B12, A1, N1, C1, T1⟩) := HM5.out.setD 9
      have hf6 := HF5.out.keep HPos.out HM5.out (grown_set w5 h1 0 (.int .i64 9))
      have HJ06 : Hid (Jk w0 (w5.setCell ⟨h1, 0, none⟩ (.int .i64 9))) := HJ05.out.set (by simpa using hh1) _
      have HO6 : Hid (Md.ok (w5.setCell ⟨h1, 0, none⟩ (.int .i64 9)) ⟨9, K1, B10, B11, B12, A1, N1, C1, T1⟩) := hf6.mdok (m := ⟨9, K1, B10, B11, B12, A1, N1, C1, T1⟩) (fit_n 9 (by decide)) HO1.out.fk HO1.out.f0 HO1.out.f1 HO1.out.f2
      clear hf6
      go_upto_region 7 with fail
      generalize w5.setCell ⟨h1, 0, none⟩ (.int .i64 9) = w6 at HM6 HJ06 HO6 ⊢
      have HL6 := hid (HL0.out.at HJ06.out)
      have HP6 := hid (print_m HL6.out HO6.out)
      rw [printM_no (fun h => by have := h.d4; revert this; simp [Md.pm])] at HP6
      have HPz := hid (HPe.out w6 HJ06.out HL6.out)
      clear al x0 x1 x2 x3 x4 x5 hfz
      go_upto_region 8 with (go_at_call 8; refine HPz.out.mono ?_; rintro e w7 ⟨⟨d3, k3, b30, b31, b32, a3, n3, c3, ts3⟩, ok, rfl, hok, hpp, hj7⟩; obtain ⟨hpm, rfl⟩ := parse_empty hpp; have HPn := hid hpm; have HO7 := hid hok; have HJ7 := hid hj7; clear hpm hok hpp hj7)
      have HJ8 : Hid (Jk w7 (w7.alloc (.cells #[.int .i64 d3, .int .i64 k3, .int .i64 b30, .int .i64 b31, .int .i64 b32, .slice a3 n3 c3] 32))) := (Jk.refl w7).alloc _
      have HM8 : Hid (MdB (w7.alloc (.cells #[.int .i64 d3, .int .i64 k3, .int .i64 b30, .int .i64 b31, .int .i64 b32, .slice a3 n3 c3] 32)) w7.heap.size ⟨d3, k3, b30, b31, b32, a3, n3, c3, ts3⟩) := MdB.laid w7 ⟨d3, k3, b30, b31, b32, a3, n3, c3, ts3⟩
      generalize w7.alloc (.cells #[.int .i64 d3, .int .i64 k3, .int .i64 b30, .int .i64 b31, .int .i64 b32, .slice a3 n3 c3] 32) = w8 at HJ8 HM8 ⊢
      have HJ68 : Hid (Jk w6 w8) := HJ7.out.trans HJ8.out
      have HMz := hid (models_ans (b := true) (HO7.out.jk HJ8.out) (nil_ok w8) ⟨fun _ => HPn.out, fun _ => rfl⟩)
      have HRn := hid (runs_ans (HL6.out.at HJ68.out))
      obtain ⟨al, x0, x1, x2, x3, x4, x5⟩ := (HM6.out.jk HJ68.out).in
      obtain ⟨bl, y0, y1, y2, y3, y4, y5⟩ := HM8.out.in
      simp only at x0 x1 x2 x3 x4 x5 y0 y1 y2 y3 y4 y5
      simp only [modelV] at HP6 HMz
      go_wp2_with (first
        | (go_at_call 9; refine (HP6.out.on _ HJ68.out).mono ?_; rintro e w9 ⟨rfl, X9, rfl⟩)
        | (go_at_call 10; refine (HMz.out.on _ (by repeat (with_reducible first | exact Jk.refl _ | apply Jk.junk))).mono ?_; rintro e w9 ⟨rfl, X10, rfl⟩)
        | (go_at_call 3; refine (HRn.out.on _ (by repeat (with_reducible first | exact Jk.refl _ | apply Jk.junk))).mono ?_; rintro e w9 ⟨rfl, X11, rfl⟩))
      go_ret
      exact ⟨rfl, by repeat (with_reducible first | exact HJ0.out.trans (HJ06.out.trans HJ68.out) | apply Jk.junk)⟩

theorem textBack_walk (f g : Fo) (w : World) (hf : f.ok w) (hg : g.ok w) (hE : Env w) : Calls Tryd.prog 4 #[forestV f, forestV g] w fun e w' => e = .returned (.bool true) ∧ Jk w w' := textBack_walk0 f g w (lib_p hE) hf hg

end Go.Proofs.YtfabodbcdnmpmaaDoor
