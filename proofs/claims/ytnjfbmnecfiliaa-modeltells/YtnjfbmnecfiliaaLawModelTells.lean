/- The law ModelTells of chapter 8 answers true: its walk through the Go text, by the contracts of package model and of the document's own answer. -/
import Derived.Test.YtnjfbmnecfiliaaLawModelRuns
import Derived.Test.YtnjfbmnecfiliaaForestA
import Derived.Test.YtnjfbmnecfiliaaAppTwo
import Derived.Test.YtnjfbmnecfiliaaRefModel
namespace Go.Proofs.Ytnjfbmnecfiliaa
open Go.RowKit M

/-- a whole model is laid over another one -/
def putM (w : World) (h : Nat) (m : Md) : World := (((((w.setCell ⟨h, 0, none⟩ (.int .i64 m.d)).setCell ⟨h, 1, none⟩ (.int .i64 m.k)).setCell ⟨h, 2, none⟩ (.int .i64 m.b0)).setCell ⟨h, 3, none⟩ (.int .i64 m.b1)).setCell ⟨h, 4, none⟩ (.int .i64 m.b2)).setCell ⟨h, 5, none⟩ (.slice m.a m.n m.c)
theorem putM_is {w : World} {h : Nat} {m0 : Md} (H : MdB w h m0) (m : Md) : MdB (putM w h m) h m := (((((H.setD m.d).setK m.k).setB0 m.b0).setB1 m.b1).setB2 m.b2).setT m.a m.n m.c m.ts
theorem putM_frow {B : Nat} {w : World} {v : Value} {n : Nat} {ts : List Tr} (H : FRow B w v n ts) {h : Nat} (hb : h < B) (m : Md) : FRow B (putM w h m) v n ts := (((((H.set hb 0 _).set hb 1 _).set hb 2 _).set hb 3 _).set hb 4 _).set hb 5 _
theorem putM_jk {a w : World} (H : Jk a w) {h : Nat} (hb : a.heap.size ≤ h) (m : Md) : Jk a (putM w h m) := (((((H.set hb _).set hb _).set hb _).set hb _).set hb _).set hb _
theorem set_pt {w : World} {h g q : Nat} {u : Value} {p0 p1 p2 p3 : Int} (H : PtIn w g p0 p1 p2 p3) (hne : h ≠ g) : PtIn (w.setCell ⟨h, q, none⟩ u) g p0 p1 p2 p3 := by
  obtain ⟨h0, h1, h2, h3, h4⟩ := H
  have e := fun i => World.cell?_setCell_far w ⟨h, q, none⟩ ⟨g, i, none⟩ u hne
  exact ⟨Nat.lt_of_lt_of_le h0 (grown_set w h q u).size, (e 0).trans h1, (e 1).trans h2, (e 2).trans h3, (e 3).trans h4⟩
theorem putM_pt {w : World} {h g : Nat} {p0 p1 p2 p3 : Int} (H : PtIn w g p0 p1 p2 p3) (hne : h ≠ g) (m : Md) : PtIn (putM w h m) g p0 p1 p2 p3 := set_pt (set_pt (set_pt (set_pt (set_pt (set_pt H hne) hne) hne) hne) hne) hne

theorem grown_put (w : World) (h : Nat) (m : Md) : w.grownBy (putM w h m) (some h) := (((((grown_set w h 0 _).trans (grown_set _ h 1 _)).trans (grown_set _ h 2 _)).trans (grown_set _ h 3 _)).trans (grown_set _ h 4 _)).trans (grown_set _ h 5 _)
theorem PtIn.same {w w' : World} {h : Nat} {p0 p1 p2 p3 : Int} (H : PtIn w h p0 p1 p2 p3) (e : w'.heap[h]? = w.heap[h]?) : PtIn w' h p0 p1 p2 p3 := by
  obtain ⟨h0, h1, h2, h3, h4⟩ := H
  have q := fun i => cell_same (o := i) e
  refine ⟨?_, (q 0).trans h1, (q 1).trans h2, (q 2).trans h3, (q 3).trans h4⟩
  rw [Array.getElem?_eq_getElem h0] at e
  exact (Array.getElem?_eq_some_iff.1 e).1
/-- one tree more in a row of one's own -/
theorem app_row {w wS w4 wB : World} {B g3 g2 c2 n : Nat} {v : Value} {ts : List Tr} {cl : Int} {ws : List Int} {o : Obj} (hFS : FRow B wS v n ts) (hB : w.heap.size ≤ B) (hBS : B ≤ wS.heap.size) (hJS : Jk w wS) (hj : Jk wS w4) (hIs : IsW w4 (some ⟨g3, 0, none⟩) 3 3 ws) (hg3 : wS.heap.size ≤ g3) (hg3' : g3 < w4.heap.size) (hcl : FitI cl)
    (hOB : OwnT B wB (.slice (some ⟨g2, 0, none⟩) (n + 1) c2) (n + 1) (ts ++ [⟨cl, some ⟨g3, 0, none⟩, 3, 3, ws⟩])) (hGB : (w4.alloc o).grownBy wB v.ownBlock) (hg2 : v.ownBlock = some g2 ∨ g2 = (w4.alloc o).heap.size) :
    FRow B wB (.slice (some ⟨g2, 0, none⟩) (n + 1) c2) (n + 1) (ts ++ [⟨cl, some ⟨g3, 0, none⟩, 3, 3, ws⟩]) ∧ (∀ b, b < B → wB.heap[b]? = wS.heap[b]?) ∧ Jk w wB := by
  have hF4 := hFS.jk (hj.alloc o)
  refine ⟨hF4.app hOB hGB hg2 ⟨hcl, hIs.jk ((Jk.refl w4).alloc o)⟩ ⟨g3, rfl, by omega, by rw [World.size_alloc]; omega, fun e => ?_⟩ (by simp), fun b hb => ?_, ((hJS.trans hj).alloc o).grown hGB (fun k hk => Nat.le_trans hB (hFS.own.base k hk))⟩
  · have := (World.ownsRow.lt hFS.own.2 g3 e).2
    omega
  · have hs := hj.below.size
    exact (hGB.block b (by rw [World.size_alloc]; omega) (fun e => by have := hFS.own.base b e.symm; omega)).trans ((hj.alloc o).below.block b (by omega))
theorem after_model {w w2 w3 wS : World} {m0 m : Md} {p0 p1 p2 p3 : Int} (hM2 : MdB w2 w.heap.size m0) (hJ2 : Jk w w2) (hP2 : PtIn w2 (w.heap.size + 1 + 1) p0 p1 p2 p3) (hfr : FRow w2.heap.size w3 (.slice m.a m.n m.c) m.n m.ts) (hj : Jk w2 w3) (hwS : putM w3 w.heap.size m = wS) :
    MdB wS w.heap.size m ∧ FRow w2.heap.size wS (.slice m.a m.n m.c) m.n m.ts ∧ Jk w wS ∧ PtIn wS (w.heap.size + 1 + 1) p0 p1 p2 p3 := by
  subst hwS
  exact ⟨putM_is (hM2.jk hj) m, putM_frow hfr hM2.lt m, putM_jk (hJ2.trans hj) (Nat.le_refl _) m, putM_pt (hP2.jk hj) (by omega) m⟩
/-- a model that lies in block h, right in memory; the point beside it -/
def Lies (w wc : World) (x : Int → Int) : Prop := ∃ M : Md, MdB wc w.heap.size M ∧ M.ok wc ∧ M.n ≤ 13 ∧ Jk w wc ∧ PtIn wc (w.heap.size + 1 + 1) (x 0) (x 1) (x 2) (x 3)

set_option maxRecDepth 100000 in
set_option maxHeartbeats 6400000 in
theorem modelTells_walk (m : Md) (f : Fo) (class_ : Int) (x : Int → Int) (what : Int) (w : World) (hm : m.ok w) (hf : f.ok w) (hclass : (Lit.int .i64 class_).wf = true) (_ : PtFit x) (hwhat : (Lit.int .i64 what).wf = true) : Calls Try.prog 4 #[modelV m, forestV f, .int .i64 class_, pointV x, .int .i64 what] w fun e w' => e = .returned (.bool true) ∧ Jk w w' := by
  have J := rules8
  have hcl := bdi hclass
  have hV := within_bd what 0 9 (by omega)
  have HWv := hid (within_p (n := what) (lo := 0) (hi := 9) rfl (bdi hwhat) (by omega) (by omega) (by omega))
  obtain ⟨V, hVe⟩ : ∃ V, withinI what 0 9 = V := ⟨_, rfl⟩
  rw [hVe] at hV HWv
  clear hVe hwhat hclass
  obtain ⟨w5, hw5⟩ : ∃ w5, w.alloc (.cells #[.int .i64 m.d, .int .i64 m.k, .int .i64 m.b0, .int .i64 m.b1, .int .i64 m.b2, .slice m.a m.n m.c] 29) = w5 := ⟨_, rfl⟩
  have hsz5 : w5.heap.size = w.heap.size + 1 := by rw [← hw5]; simp
  have hM5 : MdB w5 w.heap.size m := hw5 ▸ MdB.laid w m
  have hJ5 : Jk w w5 := hw5 ▸ (Jk.refl w).alloc _
  obtain ⟨wF, hwF⟩ : ∃ wF, w5.alloc (.cells #[.int .i64 f.d, .int .i64 f.k, .slice f.ba f.bn f.bc, .slice f.sa f.sn f.sc] 42) = wF := ⟨_, rfl⟩
  have hszF : wF.heap.size = w.heap.size + 1 + 1 := by rw [← hwF]; simp [hsz5]
  have HFi : Hid (FoIn wF (w.heap.size + 1) f) := hsz5 ▸ hwF ▸ FoIn.laid w5 f _
  have hJF : Jk w5 wF := hwF ▸ (Jk.refl w5).alloc _
  obtain ⟨w0, hw0⟩ : ∃ w0, wF.alloc (.cells #[.int .i64 (x 0), .int .i64 (x 1), .int .i64 (x 2), .int .i64 (x 3)] 33) = w0 := ⟨_, rfl⟩
  have hJP : Jk wF w0 := hw0 ▸ (Jk.refl wF).alloc _
  have hsz0 : w0.heap.size = w.heap.size + 1 + 1 + 1 := by rw [← hw0]; simp [hszF]
  have HJ0 : Hid (Jk w w0) := hJ5.trans (hJF.trans hJP)
  have HM0 : Hid (MdB w0 w.heap.size m) := hM5.jk (hJF.trans hJP)
  have HP : Hid (PtIn w0 (w.heap.size + 1 + 1) (x 0) (x 1) (x 2) (x 3)) := hszF ▸ hw0 ▸ PtIn.laid wF (x 0) (x 1) (x 2) (x 3) _
  have HFo : Hid (FoIn w0 (w.heap.size + 1) f) := HFi.out.jk hJP
  have HFk : Hid (f.ok w) := hf
  have HMk : Hid (m.ok w) := hm
  have HRuns : Hid (∀ w', Calls Try.prog 3 #[] w' fun e w'' => e = .returned (.bool true) ∧ Jk w' w'') := fun w' => modelRuns_walk w'
  obtain ⟨fi0, fi1, fi2, fi3, fi4⟩ := HFo.out
  obtain ⟨mi0, mi1, mi2, mi3, mi4, mi5, mi6⟩ := HM0.out.in
  have mz := HM0.out.frozen
  have HMod : Hid (∀ w', Jk w w' → Calls Try.prog 17 #[forestV f] w' fun e w'' => GotM w' e w'') := fun w' hj => model_any f w' (hf.jk hj)
  clear hf hm HFi hJF hJP hJ5 hM5
  obtain ⟨d, k, ba, bn, bc, bz, sa, sn, sc, ss⟩ := f
  obtain ⟨D, k', b0, b1, b2, a, n, c, ts⟩ := m
  simp only [forestV, pointV, modelV] at *
  have hcap := HMk.out.is.cap
  have hmax := HMk.out.is.max
  simp only at hcap hmax
  unfold maxLen at hmax
  go_enter Try.func4, Try.ntmps4
  go_upto_region 1 with fail
  go_cut [17] (fun v wc => v = .bool (decide ((10 : Int) < (n : Int))) ∧ wc = w0)
  case first =>
    go_wp2
    go_meet
    case rel => exact ⟨by simp, rfl⟩
  case rest =>
    obtain ⟨rfl, rfl⟩ := hcut
    obtain ⟨w0, rfl⟩ : ∃ w0, w0 = wc := ⟨_, rfl⟩
    go_step
    go_cut [18] (fun _ wc => ∃ n' ts', MdB wc w.heap.size ⟨D, k', b0, b1, b2, a, n', c, ts'⟩ ∧ IsT w a n' c ts' ∧ n' ≤ 10 ∧ Jk w wc ∧ PtIn wc (w.heap.size + 1 + 1) (x 0) (x 1) (x 2) (x 3) ∧ FoIn wc (w.heap.size + 1) ⟨d, k, ba, bn, bc, bz, sa, sn, sc, ss⟩)
    case first =>
      by_cases h10 : (10 : Int) < (n : Int)
      · obtain ⟨g, o, rfl, hg, hat⟩ := HMk.out.is.lies (by simp only; omega)
        have hc10 : (10 : Int) ≤ (c : Int) := by omega
        go_wp2
        go_meet
        case rel =>
          refine ⟨10, ts.take 10, HM0.out.setT _ _ _ _, HMk.out.is.take 10 (by simp only; omega), Nat.le_refl _, HJ0.out.set (Nat.le_refl _) _, set_pt HP.out (by omega), ?_⟩
          obtain ⟨f0, f1, f2, f3, f4⟩ := HFo.out
          have e := fun i => World.cell?_setCell_far w0 ⟨w.heap.size, 5, none⟩ ⟨w.heap.size + 1, i, none⟩ (.slice (some ⟨g, o, none⟩) 10 c) (by simp)
          exact ⟨Nat.lt_of_lt_of_le f0 (grown_set w0 _ _ _).size, (e 0).trans f1, (e 1).trans f2, (e 2).trans f3, (e 3).trans f4⟩
      · go_wp2
        go_meet
        case rel => exact ⟨n, ts, HM0.out, HMk.out.is, by omega, HJ0.out, HP.out, HFo.out⟩
    case rest =>
      obtain ⟨w2, rfl⟩ : ∃ w2, w2 = wc := ⟨_, rfl⟩
      obtain ⟨n', ts', hM2, hT2, hn2, hJ2, hP2, hF2⟩ := hcut
      clear fi0 fi1 fi2 fi3 fi4 mi0 mi1 mi2 mi3 mi4 mi5 mi6 mz HM0 HP HFo HJ0 hcap hmax
      obtain ⟨mi0, mi1, mi2, mi3, mi4, mi5, mi6⟩ := hM2.in
      have mz := hM2.frozen
      obtain ⟨fi0, fi1, fi2, fi3, fi4⟩ := hF2
      simp only at mi1 mi2 mi3 mi4 mi5 mi6 fi1 fi2 fi3 fi4
      have HM2 := hid hM2
      have HT2 := hid hT2
      have HJ2 := hid hJ2
      have HP2 := hid hP2
      clear hM2 hT2 hJ2 hP2
      go_step
      go_step
      go_cut [23] (fun _ wc => Lies w wc x)
      case first =>
        have hVV : V = 0 ∨ V = 1 ∨ V = 2 ∨ V = 3 ∨ V = 4 ∨ (V = 5 ∨ V = 6 ∨ V = 7 ∨ V = 8) ∨ V = 9 := by omega
        rcases hVV with rfl | rfl | rfl | rfl | rfl | hV5 | rfl
        · go_wp2_with (first
          | (go_at_call 16; refine (AnsP.on (by with_reducible exact HWv.out) _).mono ?_; rintro e w' ⟨rfl, hw⟩; obtain rfl := hw.symm)
          | (go_at_call 17; refine (HMod.out _ HJ2.out).mono ?_; rintro e w3 ⟨m, rfl, hr, hd3, hn4, hfr, hj⟩; obtain ⟨wS, hwS⟩ : ∃ wS, putM w3 w.heap.size m = wS := ⟨_, rfl⟩; obtain ⟨hMS, hFS, hJS, hPS⟩ := after_model HM2.out HJ2.out HP2.out hfr hj hwS; have HMS := hid hMS; have HFS := hid hFS; have HJS := hid hJS; have HPS := hid hPS; have HRm := hid hr; have hn4' := hn4; obtain ⟨o0, o1, o2, o3, o4, o5, o6⟩ := (HM2.out.jk hj).in; have oz := (HM2.out.jk hj).frozen; clear mi0 mi1 mi2 mi3 mi4 mi5 mi6 mz hMS hFS hJS hPS hr hfr hj hn4; obtain ⟨mD, mk, mb0, mb1, mb2, ma, mn, mc, mts⟩ := m; simp only [putM] at hwS; simp only at o1 o2 o3 o4 o5 o6 hd3 hn4'; obtain ⟨mi0, mi1, mi2, mi3, mi4, mi5, mi6⟩ := HMS.out.in; simp only at mi1 mi2 mi3 mi4 mi5 mi6; have mz := HMS.out.frozen))
          have hok := HRm.out.mdok HFS.out
          go_meet
          case rel =>
            exact ⟨⟨class_, mk, mb0, mb1, mb2, ma, mn, mc, mts⟩, HMS.out.setD class_, (HFS.out.set HM2.out.lt 0 _).mdok (m := ⟨class_, mk, mb0, mb1, mb2, ma, mn, mc, mts⟩) hcl hok.fk hok.f0 hok.f1 hok.f2, by simp only; omega, HJS.out.set (Nat.le_refl _) _, set_pt HPS.out (by omega)⟩
        · go_wp2_with (first
          | (go_at_call 16; refine (AnsP.on (by with_reducible exact HWv.out) _).mono ?_; rintro e w' ⟨rfl, hw⟩; obtain rfl := hw.symm)
          | (go_at_call 17; refine (HMod.out _ HJ2.out).mono ?_; rintro e w3 ⟨m, rfl, hr, hd3, hn4, hfr, hj⟩; obtain ⟨wS, hwS⟩ : ∃ wS, putM w3 w.heap.size m = wS := ⟨_, rfl⟩; obtain ⟨hMS, hFS, hJS, hPS⟩ := after_model HM2.out HJ2.out HP2.out hfr hj hwS; have HMS := hid hMS; have HFS := hid hFS; have HJS := hid hJS; have HPS := hid hPS; have HRm := hid hr; have hn4' := hn4; obtain ⟨o0, o1, o2, o3, o4, o5, o6⟩ := (HM2.out.jk hj).in; have oz := (HM2.out.jk hj).frozen; clear mi0 mi1 mi2 mi3 mi4 mi5 mi6 mz hMS hFS hJS hPS hr hfr hj hn4; obtain ⟨mD, mk, mb0, mb1, mb2, ma, mn, mc, mts⟩ := m; simp only [putM] at hwS; simp only at o1 o2 o3 o4 o5 o6 hd3 hn4'; obtain ⟨mi0, mi1, mi2, mi3, mi4, mi5, mi6⟩ := HMS.out.in; simp only at mi1 mi2 mi3 mi4 mi5 mi6; have mz := HMS.out.frozen))
          have hok := HRm.out.mdok HFS.out
          go_meet
          case rel =>
            exact ⟨⟨mD, class_, mb0, mb1, mb2, ma, mn, mc, mts⟩, HMS.out.setK class_, (HFS.out.set HM2.out.lt 1 _).mdok (m := ⟨mD, class_, mb0, mb1, mb2, ma, mn, mc, mts⟩) hok.fd hcl hok.f0 hok.f1 hok.f2, by simp only; omega, HJS.out.set (Nat.le_refl _) _, set_pt HPS.out (by omega)⟩
        · go_wp2_with (first
          | (go_at_call 16; refine (AnsP.on (by with_reducible exact HWv.out) _).mono ?_; rintro e w' ⟨rfl, hw⟩; obtain rfl := hw.symm)
          | (go_at_call 17; refine (HMod.out _ HJ2.out).mono ?_; rintro e w3 ⟨m, rfl, hr, hd3, hn4, hfr, hj⟩; obtain ⟨wS, hwS⟩ : ∃ wS, putM w3 w.heap.size m = wS := ⟨_, rfl⟩; obtain ⟨hMS, hFS, hJS, hPS⟩ := after_model HM2.out HJ2.out HP2.out hfr hj hwS; have HMS := hid hMS; have HFS := hid hFS; have HJS := hid hJS; have HPS := hid hPS; have HRm := hid hr; have hn4' := hn4; obtain ⟨o0, o1, o2, o3, o4, o5, o6⟩ := (HM2.out.jk hj).in; have oz := (HM2.out.jk hj).frozen; clear mi0 mi1 mi2 mi3 mi4 mi5 mi6 mz hMS hFS hJS hPS hr hfr hj hn4; obtain ⟨mD, mk, mb0, mb1, mb2, ma, mn, mc, mts⟩ := m; simp only [putM] at hwS; simp only at o1 o2 o3 o4 o5 o6 hd3 hn4'; obtain ⟨mi0, mi1, mi2, mi3, mi4, mi5, mi6⟩ := HMS.out.in; simp only at mi1 mi2 mi3 mi4 mi5 mi6; have mz := HMS.out.frozen))
          have hok := HRm.out.mdok HFS.out
          go_meet
          case rel =>
            exact ⟨⟨mD, mk, mb0, mb1, class_, ma, mn, mc, mts⟩, HMS.out.setB2 class_, (HFS.out.set HM2.out.lt 4 _).mdok (m := ⟨mD, mk, mb0, mb1, class_, ma, mn, mc, mts⟩) hok.fd hok.fk hok.f0 hok.f1 hcl, by simp only; omega, HJS.out.set (Nat.le_refl _) _, set_pt HPS.out (by omega)⟩
        · go_wp2_with (first
          | (go_at_call 16; refine (AnsP.on (by with_reducible exact HWv.out) _).mono ?_; rintro e w' ⟨rfl, hw⟩; obtain rfl := hw.symm)
          | (go_at_call 17; refine (HMod.out _ HJ2.out).mono ?_; rintro e w3 ⟨m, rfl, hr, hd3, hn4, hfr, hj⟩; obtain ⟨wS, hwS⟩ : ∃ wS, putM w3 w.heap.size m = wS := ⟨_, rfl⟩; obtain ⟨hMS, hFS, hJS, hPS⟩ := after_model HM2.out HJ2.out HP2.out hfr hj hwS; have HMS := hid hMS; have HJ23 := hid hj; have HFS := hid hFS; have HJS := hid hJS; have HPS := hid hPS; have HRm := hid hr; have hn4' := hn4; obtain ⟨o0, o1, o2, o3, o4, o5, o6⟩ := (HM2.out.jk hj).in; have oz := (HM2.out.jk hj).frozen; clear mi0 mi1 mi2 mi3 mi4 mi5 mi6 mz hMS hFS hJS hPS hr hfr hj hn4; obtain ⟨mD, mk, mb0, mb1, mb2, ma, mn, mc, mts⟩ := m; simp only [putM] at hwS; simp only at o1 o2 o3 o4 o5 o6 hd3 hn4'; obtain ⟨mi0, mi1, mi2, mi3, mi4, mi5, mi6⟩ := HMS.out.in; simp only at mi1 mi2 mi3 mi4 mi5 mi6; have mz := HMS.out.frozen))
          have hBS : w2.heap.size ≤ wS.heap.size := by
            have h1 := (grown_put w3 w.heap.size ⟨mD, mk, mb0, mb1, mb2, ma, mn, mc, mts⟩).size
            simp only [putM] at h1
            rw [hwS] at h1
            exact Nat.le_trans HJ23.out.below.size h1
          refine region_mid 6 [0, 1, 2] [3, 4, 5] #[true, true, true, true, true, true, false, false, false] (by kernel_rfl) (by kernel_rfl) (fun _ _ d _ _ h => by cases d <;> exact h) ?_
          dsimp only [opersAt, List.getElem?_cons_zero, List.getElem?_cons_succ]
          repeat (go_big_quiet_step (first | exact rfl))
          refine wpQuiet_nil ?_
          intro K1 hK1
          go_simp
          go_at_call 9
          refine (three_any 5 1 2 _).mono ?_
          rintro e w4 ⟨g3, rfl, hIs, hg3, hg3', hj3⟩
          have hj4 : Jk wS w4 := ((Jk.refl wS).drew).trans hj3
          go_simp
          refine hK1 _ _ hj4 ?_
          clear hK1 K1
          intro K2 hK2
          go_simp
          refine hK2 _ _ hj4 ?_
          clear hK2 K2
          intro K3 hK3
          go_simp
          refine hK3 _ _ (hj4.alloc _) ?_
          clear hK3 K3
          refine list_appT (ys := [⟨class_, some ⟨g3, 0, none⟩, 3, 3, threeW 5 1 2⟩]) rfl (.tmp 48) (.tmp 52) rfl (HFS.out.jk (hj4.alloc _)).own (by rw [World.size_alloc]; have := hj4.below.size; omega) rfl (some ⟨w4.heap.size, 0, none⟩) 1 1 rfl rfl (by decide) ⟨_, _, rfl, new_tree w4 _ _ _ _ _ rfl⟩ (by omega) (mn + 1) rfl ?_
          intro g2 c2' wB hOB hGB hg2
          obtain ⟨hFB, hbB, hJB⟩ := app_row HFS.out HJ2.out.below.size hBS HJS.out hj4 hIs hg3 hg3' hcl hOB hGB hg2
          have HFB := hid hFB
          have HJB := hid hJB
          have HMB : Hid (MdB wB w.heap.size ⟨mD, mk, mb0, mb1, mb2, ma, mn, mc, mts⟩) := (hbB _ HM2.out.lt).trans HMS.out
          have HPB : Hid (PtIn wB (w.heap.size + 1 + 1) (x 0) (x 1) (x 2) (x 3)) := HPS.out.same (hbB _ HP2.out.1)
          clear hFB hbB hJB hOB hGB hg2 hIs hj3 mi0 mi1 mi2 mi3 mi4 mi5 mi6 mz
          obtain ⟨mi0, mi1, mi2, mi3, mi4, mi5, mi6⟩ := HMB.out.in
          simp only at mi1 mi2 mi3 mi4 mi5 mi6
          have mz := HMB.out.frozen
          have hok := HRm.out.mdok HFS.out
          go_wp2
          go_meet
          case rel => exact ⟨_, HMB.out.setT _ _ _ _, (HFB.out.set HM2.out.lt 5 _).mdok (m := ⟨mD, mk, mb0, mb1, mb2, some ⟨g2, 0, none⟩, mn + 1, c2', mts ++ [⟨class_, some ⟨g3, 0, none⟩, 3, 3, threeW 5 1 2⟩]⟩) hok.fd hok.fk hok.f0 hok.f1 hok.f2, by simp only; omega, HJB.out.set (Nat.le_refl _) _, set_pt HPB.out (by omega)⟩
        · go_wp2_with (first
          | (go_at_call 16; refine (AnsP.on (by with_reducible exact HWv.out) _).mono ?_; rintro e w' ⟨rfl, hw⟩; obtain rfl := hw.symm)
          | (go_at_call 17; refine (HMod.out _ HJ2.out).mono ?_; rintro e w3 ⟨m, rfl, hr, hd3, hn4, hfr, hj⟩; obtain ⟨wS, hwS⟩ : ∃ wS, putM w3 w.heap.size m = wS := ⟨_, rfl⟩; obtain ⟨hMS, hFS, hJS, hPS⟩ := after_model HM2.out HJ2.out HP2.out hfr hj hwS; have HMS := hid hMS; have HJ23 := hid hj; have HFS := hid hFS; have HJS := hid hJS; have HPS := hid hPS; have HRm := hid hr; have hn4' := hn4; obtain ⟨o0, o1, o2, o3, o4, o5, o6⟩ := (HM2.out.jk hj).in; have oz := (HM2.out.jk hj).frozen; clear mi0 mi1 mi2 mi3 mi4 mi5 mi6 mz hMS hFS hJS hPS hr hfr hj hn4; obtain ⟨mD, mk, mb0, mb1, mb2, ma, mn, mc, mts⟩ := m; simp only [putM] at hwS; simp only at o1 o2 o3 o4 o5 o6 hd3 hn4'; obtain ⟨mi0, mi1, mi2, mi3, mi4, mi5, mi6⟩ := HMS.out.in; simp only at mi1 mi2 mi3 mi4 mi5 mi6; have mz := HMS.out.frozen))
          have hBS : w2.heap.size ≤ wS.heap.size := by
            have h1 := (grown_put w3 w.heap.size ⟨mD, mk, mb0, mb1, mb2, ma, mn, mc, mts⟩).size
            simp only [putM] at h1
            rw [hwS] at h1
            exact Nat.le_trans HJ23.out.below.size h1
          have hok := HRm.out.mdok HFS.out
          go_loopg [63] (9 - mn) (fun r i wr => ∃ (q n : Nat) (a : Option Addr) (c : Nat) (ts : List Tr), q + r = 9 - mn ∧ Hid (n = mn + q) ∧ i = .int .i64 (q : Int) ∧ Hid (FRow w2.heap.size wr (.slice a n c) n ts) ∧ Hid (MdB wr w.heap.size ⟨mD, mk, mb0, mb1, mb2, a, n, c, ts⟩) ∧ Hid (Jk w wr) ∧ Hid (PtIn wr (w.heap.size + 1 + 1) (x 0) (x 1) (x 2) (x 3)) ∧ w2.heap.size ≤ wr.heap.size)
          case atStart => exact ⟨0, mn, ma, mc, mts, by omega, hid (by omega), rfl, HFS, HMS, HJS, HPS, hBS⟩
          case round =>
            obtain ⟨q, n, a, c, ts, hq, HN, rfl, HFr, HMr, HJr, HPr, hBr⟩ := hrel
            clear mi0 mi1 mi2 mi3 mi4 mi5 mi6 mz
            obtain ⟨mi0, mi1, mi2, mi3, mi4, mi5, mi6⟩ := HMr.out.in
            simp only at mi1 mi2 mi3 mi4 mi5 mi6
            by_cases hfuel : gk = 0
            · subst hfuel
              have hq9 : ¬ (q : Int) < 9 - (mn : Int) := by omega
              go_wp2
              go_meet
              case rel => exact ⟨_, HMr.out, HFr.out.mdok (m := ⟨mD, mk, mb0, mb1, mb2, a, n, c, ts⟩) hok.fd hok.fk hok.f0 hok.f1 hok.f2, by have := HN.out; simp only; omega, HJr.out, HPr.out⟩
            · obtain ⟨r, rfl⟩ : ∃ r, gk = r + 1 := ⟨gk - 1, by omega⟩
              have hq9 : (q : Int) < 9 - (mn : Int) := by omega
              go_wp2_with fail
              refine region_mid 5 [0, 1] [2, 3, 4] #[true, true, true, true, true, false, false, false] (by kernel_rfl) (by kernel_rfl) (fun _ _ d _ _ h => by cases d <;> exact h) ?_
              dsimp only [opersAt, List.getElem?_cons_zero, List.getElem?_cons_succ]
              repeat (go_big_quiet_step (first | exact rfl))
              refine wpQuiet_nil ?_
              intro K1 hK1
              go_simp
              go_at_call 9
              refine (three_any 5 1 2 _).mono ?_
              rintro e w4 ⟨g3, rfl, hIs, hg3, hg3', hj3⟩
              have hj4 : Jk wr w4 := ((Jk.refl wr).drew).trans hj3
              go_simp
              refine hK1 _ _ hj4 ?_
              clear hK1 K1
              intro K2 hK2
              go_simp
              refine hK2 _ _ hj4 ?_
              clear hK2 K2
              intro K3 hK3
              go_simp
              refine hK3 _ _ (hj4.alloc _) ?_
              clear hK3 K3
              refine list_appT (ys := [⟨0, some ⟨g3, 0, none⟩, 3, 3, threeW 5 1 2⟩]) rfl (.tmp 66) (.tmp 69) rfl (HFr.out.jk (hj4.alloc _)).own (by rw [World.size_alloc]; have := hj4.below.size; omega) rfl (some ⟨w4.heap.size, 0, none⟩) 1 1 rfl rfl (by decide) ⟨_, _, rfl, new_tree w4 _ _ _ _ _ rfl⟩ (by have := HN.out; omega) (n + 1) rfl ?_
              intro g2 c2' wB hOB hGB hg2
              obtain ⟨hFB, hbB, hJB⟩ := app_row HFr.out HJ2.out.below.size hBr HJr.out hj4 hIs hg3 hg3' ⟨by decide, by decide⟩ hOB hGB hg2
              have HFB := hid hFB
              have HJB := hid hJB
              have HMB : Hid (MdB wB w.heap.size ⟨mD, mk, mb0, mb1, mb2, a, n, c, ts⟩) := (hbB _ HM2.out.lt).trans HMr.out
              have HPB : Hid (PtIn wB (w.heap.size + 1 + 1) (x 0) (x 1) (x 2) (x 3)) := HPr.out.same (hbB _ HP2.out.1)
              have hszB : w2.heap.size ≤ wB.heap.size := by
                have h1 := hGB.size
                rw [World.size_alloc] at h1
                have := hj4.below.size
                omega
              clear hFB hbB hJB hOB hGB hg2 hIs hj3 mi0 mi1 mi2 mi3 mi4 mi5 mi6
              obtain ⟨mi0, mi1, mi2, mi3, mi4, mi5, mi6⟩ := HMB.out.in
              simp only at mi1 mi2 mi3 mi4 mi5 mi6
              have mz := HMB.out.frozen
              go_wp2
              go_roundg r
              case measure => omega
              case rel => exact ⟨q + 1, n + 1, _, _, _, by omega, hid (by have := HN.out; omega), by go_num, hid (HFB.out.set HM2.out.lt 5 _), hid (HMB.out.setT _ _ _ _), hid (HJB.out.set (Nat.le_refl _) _), hid (set_pt HPB.out (by omega)), Nat.le_trans hszB (grown_set _ _ _ _).size⟩
        · rcases hV5 with rfl | rfl | rfl | rfl
          all_goals
            go_wp2_with (first
              | (go_at_call 16; refine (AnsP.on (by with_reducible exact HWv.out) _).mono ?_; rintro e w' ⟨rfl, hw⟩; obtain rfl := hw.symm)
              | (go_at_call 17; refine (HMod.out _ HJ2.out).mono ?_; rintro e w3 ⟨m, rfl, hr, hd3, hn4, hfr, hj⟩; obtain ⟨wS, hwS⟩ : ∃ wS, putM w3 w.heap.size m = wS := ⟨_, rfl⟩; obtain ⟨hMS, hFS, hJS, hPS⟩ := after_model HM2.out HJ2.out HP2.out hfr hj hwS; have HMS := hid hMS; have HFS := hid hFS; have HJS := hid hJS; have HPS := hid hPS; have HRm := hid hr; have hn4' := hn4; obtain ⟨o0, o1, o2, o3, o4, o5, o6⟩ := (HM2.out.jk hj).in; have oz := (HM2.out.jk hj).frozen; clear mi0 mi1 mi2 mi3 mi4 mi5 mi6 mz hMS hFS hJS hPS hr hfr hj hn4; obtain ⟨mD, mk, mb0, mb1, mb2, ma, mn, mc, mts⟩ := m; simp only [putM] at hwS; simp only at o1 o2 o3 o4 o5 o6 hd3 hn4'; obtain ⟨mi0, mi1, mi2, mi3, mi4, mi5, mi6⟩ := HMS.out.in; simp only at mi1 mi2 mi3 mi4 mi5 mi6; have mz := HMS.out.frozen))
            go_meet
            case rel => exact ⟨_, HMS.out, HRm.out.mdok HFS.out, by simp only; omega, HJS.out, HPS.out⟩
        · go_wp2_with (first
          | (go_at_call 16; refine (AnsP.on (by with_reducible exact HWv.out) _).mono ?_; rintro e w' ⟨rfl, hw⟩; obtain rfl := hw.symm)
          | (go_at_call 17; refine (HMod.out _ HJ2.out).mono ?_; rintro e w3 ⟨m, rfl, hr, hd3, hn4, hfr, hj⟩; obtain ⟨wS, hwS⟩ : ∃ wS, putM w3 w.heap.size m = wS := ⟨_, rfl⟩; obtain ⟨hMS, hFS, hJS, hPS⟩ := after_model HM2.out HJ2.out HP2.out hfr hj hwS; have HMS := hid hMS; have HFS := hid hFS; have HJS := hid hJS; have HPS := hid hPS; have HRm := hid hr; have hn4' := hn4; obtain ⟨o0, o1, o2, o3, o4, o5, o6⟩ := (HM2.out.jk hj).in; have oz := (HM2.out.jk hj).frozen; clear mi0 mi1 mi2 mi3 mi4 mi5 mi6 mz hMS hFS hJS hPS hr hfr hj hn4; obtain ⟨mD, mk, mb0, mb1, mb2, ma, mn, mc, mts⟩ := m; simp only [putM] at hwS; simp only at o1 o2 o3 o4 o5 o6 hd3 hn4'; obtain ⟨mi0, mi1, mi2, mi3, mi4, mi5, mi6⟩ := HMS.out.in; simp only at mi1 mi2 mi3 mi4 mi5 mi6; have mz := HMS.out.frozen))
          go_meet
          case rel => exact ⟨_, HM2.out, ⟨HMk.out.fd, HMk.out.fk, HMk.out.f0, HMk.out.f1, HMk.out.f2, HT2.out.jk HJ2.out⟩, by simp only; omega, HJ2.out, HP2.out⟩
      case rest =>
        obtain ⟨wz, rfl⟩ : ∃ wz, wz = wc := ⟨_, rfl⟩
        obtain ⟨M, hMz, hokz, hn13, hJz, hPz⟩ := hcut
        have HMz := hid hMz
        have HOz := hid hokz
        have HJz := hid hJz
        have HPz := hid hPz
        have HL : Hid (M.ts.length = M.n) := hokz.is.len
        obtain ⟨xb, hxb⟩ := right_bool M
        have HR1 := hid (rightM_ans hokz hxb)
        have HR2 := hid (rrightM_ans hokz hxb)
        obtain ⟨E, hE⟩ := evalP_is M x class_
        have HE1 := hid (eval_ans x hokz hE)
        have HE2 := hid (reval_ans x hokz hE)
        have HSz := hid (size_ans hokz rfl)
        clear HM2 HT2 HJ2 HP2 mi0 mi1 mi2 mi3 mi4 mi5 mi6 mz fi0 fi1 fi2 fi3 fi4 hxb hE hMz hokz hJz hPz HMk HFk HMod
        obtain ⟨D2, k2, p0, p1, p2, a2, n2, c2, ts2⟩ := M
        simp only [modelV, pointV] at HR1 HR2 HE1 HE2 HSz hn13
        obtain ⟨mi0, mi1, mi2, mi3, mi4, mi5, mi6⟩ := HMz.out.in
        simp only at mi1 mi2 mi3 mi4 mi5 mi6
        have hcap := HOz.out.is.cap
        have hmax := HOz.out.is.max
        simp only at hcap hmax
        unfold maxLen at hmax
        go_wp2
        go_loopg [11, 83] n2 (fun r s i wr => ∃ j : Nat, j + r = n2 ∧ i = .int .i64 (j : Int) ∧ s = .int .i64 (sizeI ts2 j) ∧ Hid (Jk wz wr))
        case atStart => exact ⟨0, by omega, rfl, rfl, hid (Jk.refl _)⟩
        case round =>
          obtain ⟨j, hj, rfl, rfl, HJ⟩ := hrel
          clear mi0 mi1 mi2 mi3 mi4 mi5 mi6
          obtain ⟨mi0, mi1, mi2, mi3, mi4, mi5, mi6⟩ := (HMz.out.jk HJ.out).in
          simp only at mi1 mi2 mi3 mi4 mi5 mi6
          obtain ⟨q0, q1, q2, q3, q4⟩ := HPz.out.jk HJ.out
          by_cases hfuel : gk = 0
          · subst hfuel
            obtain rfl : j = n2 := by omega
            obtain ⟨SZ, hSZ⟩ : ∃ SZ, sizeI ts2 j = SZ := ⟨_, rfl⟩
            rw [hSZ] at HSz ⊢
            have HR1' : Hid (AnsW wr 10 _ _) := fun w1 hj => HR1.out w1 (HJ.out.trans hj)
            have HR2' : Hid (AnsW wr 18 _ _) := fun w1 hj => HR2.out w1 (HJ.out.trans hj)
            have HE1' : Hid (AnsW wr 11 _ _) := fun w1 hj => HE1.out w1 (HJ.out.trans hj)
            have HE2' : Hid (AnsW wr 19 _ _) := fun w1 hj => HE2.out w1 (HJ.out.trans hj)
            have HSz' : Hid (AnsW wr 14 _ _) := fun w1 hj => HSz.out w1 (HJ.out.trans hj)
            have HRu : Hid (AnsW wr 3 #[] (.bool true)) := fun w1 _ => HRuns.out w1
            clear HR1 HR2 HE1 HE2 HSz hSZ
            go_wp2_with fail
            refine region_junk (by kernel_rfl) (by kernel_rfl) ?_
            repeat (go_big_quiet_step (first | (go_at_call 10; exact AnsW.junk (by with_reducible exact HR1'.out) _) | (go_at_call 18; exact AnsW.junk (by with_reducible exact HR2'.out) _) | (go_at_call 11; exact AnsW.junk (by with_reducible exact HE1'.out) _) | (go_at_call 19; exact AnsW.junk (by with_reducible exact HE2'.out) _) | (go_at_call 14; exact AnsW.junk (by with_reducible exact HSz'.out) _) | (go_at_call 3; exact AnsW.junk (by with_reducible exact HRu.out) _) | exact rfl))
            refine wpQuiet_nil ?_
            rintro _ ⟨XX, rfl⟩
            go_wp2
            go_ret
            exact ⟨rfl, (HJz.out.trans HJ.out).junk _⟩
          · obtain ⟨r, rfl⟩ : ∃ r, gk = r + 1 := ⟨gk - 1, by omega⟩
            have hjn : (j : Int) < (n2 : Int) := by omega
            obtain ⟨g, o, rfl, hg, hat⟩ := HOz.out.is.lies (by simp only; omega)
            have hgr : g < wr.heap.size := Nat.lt_of_lt_of_le hg HJ.out.below.size
            obtain ⟨k0, k1⟩ := (hat.jk HJ.out hg) j (by have := HL.out; simp only at this ⊢; omega)
            obtain ⟨t, ht⟩ : ∃ t, tA ts2 j = t := ⟨_, rfl⟩
            have HTr : Hid (tA ts2 j = t) := ht
            simp only at k0 k1
            rw [ht] at k0 k1
            clear ht hat
            obtain ⟨cl, ta, tn, tc, tw⟩ := t
            simp only at k0 k1
            obtain ⟨q, hq⟩ : ∃ q, sizeI ts2 j = q := ⟨_, rfl⟩
            have HQ : Hid (sizeI ts2 j = q) := hq
            rw [hq]
            clear hq
            go_wp2
            go_roundg r
            case measure => omega
            case rel => exact ⟨j + 1, by omega, by go_num, by simp only [sizeI, HTr.out, HQ.out], by repeat (with_reducible first | exact HJ | apply hid | exact HJ.out | apply Jk.junk | apply Jk.alloc)⟩

end Go.Proofs.Ytnjfbmnecfiliaa
