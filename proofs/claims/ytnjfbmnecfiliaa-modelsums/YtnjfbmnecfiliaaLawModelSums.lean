/- The law ModelSums of chapter 8 answers true: its walk through the Go text, by the contracts of package model. -/
import Derived.Test.YtnjfbmnecfiliaaLawModelRuns
import Derived.Test.YtnjfbmnecfiliaaForestA
import Derived.Test.YtnjfbmnecfiliaaSumsM
namespace Go.Proofs.Ytnjfbmnecfiliaa
open Go.RowKit M

/-- a tree's numbers that were laid in a block of their own -/
def SdIn (w : World) (h : Nat) (s : Seed) : Prop := h < w.heap.size ∧ w.cell? ⟨h, 0, none⟩ = some (.int .i64 s.cl) ∧ w.cell? ⟨h, 1, none⟩ = some (.slice s.a1 s.n1 s.c1) ∧ w.cell? ⟨h, 2, none⟩ = some (.slice s.a2 s.n2 s.c2) ∧ w.cell? ⟨h, 3, none⟩ = some (.slice s.a3 s.n3 s.c3) ∧ w.cell? ⟨h, 4, none⟩ = some (.slice s.a4 s.n4 s.c4)
theorem SdIn.jk {w w' : World} {h : Nat} {s : Seed} (H : SdIn w h s) (hj : Jk w w') : SdIn w' h s := by
  obtain ⟨h0, h1, h2, h3, h4, h5⟩ := H
  have e := fun i => hj.below.cell (p := ⟨h, i, none⟩) h0
  exact ⟨Nat.lt_of_lt_of_le h0 hj.below.size, (e 0).trans h1, (e 1).trans h2, (e 2).trans h3, (e 3).trans h4, (e 4).trans h5⟩
theorem SdIn.laid (w : World) (s : Seed) (t : TypeId) : SdIn (w.alloc (.cells #[.int .i64 s.cl, .slice s.a1 s.n1 s.c1, .slice s.a2 s.n2 s.c2, .slice s.a3 s.n3 s.c3, .slice s.a4 s.n4 s.c4] t)) w.heap.size s :=
  ⟨by simp, World.cell?_alloc_at _ _ _ _ rfl, World.cell?_alloc_at _ _ _ _ rfl, World.cell?_alloc_at _ _ _ _ rfl, World.cell?_alloc_at _ _ _ _ rfl, World.cell?_alloc_at _ _ _ _ rfl⟩
/-- a tree that lies in a block of its own -/
def TrB (w : World) (h : Nat) (t : Tr) : Prop := w.heap[h]? = some (.cells #[.int .i64 t.cl, .slice t.a t.n t.c] 26 (0, 0))
theorem TrB.lt {w : World} {h : Nat} {t : Tr} (H : TrB w h t) : h < w.heap.size := (Array.getElem?_eq_some_iff.1 H).1
theorem TrB.in {w : World} {h : Nat} {t : Tr} (H : TrB w h t) : w.cell? ⟨h, 0, none⟩ = some (.int .i64 t.cl) ∧ w.cell? ⟨h, 1, none⟩ = some (.slice t.a t.n t.c) := by
  constructor <;> (rw [cell_of_row _ _ _ _ _ _ H]; rfl)
theorem TrB.jk {w w' : World} {h : Nat} {t : Tr} (H : TrB w h t) (hj : Jk w w') : TrB w' h t := (hj.below.block h H.lt).trans H
theorem TrB.laid (w : World) (t : Tr) {h : Nat} (hh : h = w.heap.size) : TrB (w.alloc (.cells #[.int .i64 t.cl, .slice t.a t.n t.c] 26)) h t := hh ▸ heap_alloc_new w _
theorem le_alloc (w : World) (o : Obj) : w.heap.size ≤ (w.alloc o).heap.size := by rw [World.size_alloc]; omega
theorem World.size_alloc' (w : World) (o : Obj) : (w.alloc o).heap.size = w.heap.size + 1 := World.size_alloc w o
theorem AtT.kept {w w' : World} {b o : Nat} {ts : List Tr} (h : AtT w b o ts) (hb : w'.heap[b]? = w.heap[b]?) : AtT w' b o ts := fun i hi => by
  rw [cell_same hb, cell_same hb]
  exact h i hi
theorem srcB {w wA : World} {x : Int} {s : Option Addr} {n c : Nat} {ws : List Int} (hG : ((w.drew.alloc (.cells #[] 26)).alloc (.cells #[.int .i64 x, .slice s n c] 26)).grownBy wA (some w.heap.size)) : AtT wA (w.heap.size + 1) 0 [⟨x, s, n, c, ws⟩] :=
  (new_tree (w.drew.alloc (.cells #[] 26)) x s n c ws (World.size_alloc _ _).symm).kept (hG.block _ (by rw [World.size_alloc, World.size_alloc]; exact Nat.lt_succ_self _) (by simp))
theorem srcA {w wA : World} {x : Int} {s : Option Addr} {n c : Nat} {ws : List Int} (hG : ((w.drew.alloc (.cells #[.int .i64 x, .slice s n c] 26)).alloc (.cells #[] 26)).grownBy wA (some (w.heap.size + 1))) : AtT wA w.heap.size 0 [⟨x, s, n, c, ws⟩] :=
  ((new_tree w.drew x s n c ws rfl).jk ((Jk.refl _).alloc _) (by rw [World.size_alloc]; exact Nat.lt_succ_self _)).kept (hG.block _ (by rw [World.size_alloc, World.size_alloc]; exact Nat.lt_succ_of_lt (Nat.lt_succ_self _)) (by simp))
theorem ne_blk {g b : Nat} (h : g ≠ b) : ∀ (g' o : Nat), some (⟨g, 0, none⟩ : Addr) = some ⟨g', o, none⟩ → some b ≠ some g' := fun g' o e e2 => by
  simp at e e2
  omega
theorem TrB.frozen {w : World} {h : Nat} {t : Tr} (H : TrB w h t) (q : Nat) : w.frozen? ⟨h, q, none⟩ = false := frozen_of_row _ _ _ _ _ H
theorem TrB.set {w : World} {h : Nat} {t : Tr} (H : TrB w h t) (x : Int) (a : Option Addr) (n c : Nat) (ws : List Int) : TrB ((w.setCell ⟨h, 0, none⟩ (.int .i64 x)).setCell ⟨h, 1, none⟩ (.slice a n c)) h ⟨x, a, n, c, ws⟩ := heap_setCell_same _ _ _ _ _ _ (heap_setCell_same _ _ _ _ _ _ H)

set_option maxRecDepth 100000 in
set_option maxHeartbeats 6400000 in
theorem modelSums_walk (f : Fo) (sd : Seed) (x : Int → Int) (w : World) (hf : f.ok w) (hsd : sd.ok w) (_ : PtFit x) : Calls Try.prog 7 #[forestV f, seedV sd, pointV x] w fun e w' => e = .returned (.bool true) ∧ Jk w w' := by
  have J := rules8
  obtain ⟨wF, hwF⟩ : ∃ wF, w.alloc (.cells #[.int .i64 f.d, .int .i64 f.k, .slice f.ba f.bn f.bc, .slice f.sa f.sn f.sc] 42) = wF := ⟨_, rfl⟩
  have hszF : wF.heap.size = w.heap.size + 1 := by rw [← hwF]; simp
  have HFi : Hid (FoIn wF w.heap.size f) := hwF ▸ FoIn.laid w f _
  have HJF : Hid (Jk w wF) := hwF ▸ (Jk.refl w).alloc _
  obtain ⟨wS, hwS⟩ : ∃ wS, wF.alloc (.cells #[.int .i64 sd.cl, .slice sd.a1 sd.n1 sd.c1, .slice sd.a2 sd.n2 sd.c2, .slice sd.a3 sd.n3 sd.c3, .slice sd.a4 sd.n4 sd.c4] 55) = wS := ⟨_, rfl⟩
  have hszS : wS.heap.size = w.heap.size + 1 + 1 := by rw [← hwS]; simp [hszF]
  have HSi : Hid (SdIn wS (w.heap.size + 1) sd) := hszF ▸ hwS ▸ SdIn.laid wF sd _
  have HJS : Hid (Jk wF wS) := hwS ▸ (Jk.refl wF).alloc _
  obtain ⟨w0, hw0⟩ : ∃ w0, wS.alloc (.cells #[.int .i64 (x 0), .int .i64 (x 1), .int .i64 (x 2), .int .i64 (x 3)] 33) = w0 := ⟨_, rfl⟩
  have hsz0 : w0.heap.size = w.heap.size + 1 + 1 + 1 := by rw [← hw0]; simp [hszS]
  have HJS0 : Hid (Jk wS w0) := hw0 ▸ (Jk.refl wS).alloc _
  have HJ0 : Hid (Jk w w0) := (HJF.out.trans HJS.out).trans HJS0.out
  have HP : Hid (PtIn w0 (w.heap.size + 1 + 1) (x 0) (x 1) (x 2) (x 3)) := hszS ▸ hw0 ▸ PtIn.laid wS (x 0) (x 1) (x 2) (x 3) _
  have HFo : Hid (FoIn w0 w.heap.size f) := HFi.out.jk (HJS.out.trans HJS0.out)
  have HSd : Hid (SdIn w0 (w.heap.size + 1) sd) := HSi.out.jk HJS0.out
  have HSk : Hid (sd.ok w0) := hsd.jk HJ0.out
  have HM : Hid (Calls Try.prog 17 #[forestV f] w0 fun e w' => GotM w0 e w') := model_any f w0 (hf.jk HJ0.out)
  have HRuns : Hid (∀ w', Calls Try.prog 3 #[] w' fun e w'' => e = .returned (.bool true) ∧ Jk w' w'') := fun w' => modelRuns_walk w'
  obtain ⟨fi0, fi1, fi2, fi3, fi4⟩ := HFo.out
  clear hf HFi HJF HFo hsd HSi HJS HJS0
  obtain ⟨d, k, ba, bn, bc, bz, sa, sn, sc, ss⟩ := f
  obtain ⟨cl, a1, n1, c1, y1, a2, n2, c2, y2, a3, n3, c3, y3, a4, n4, c4, y4⟩ := sd
  simp only [forestV, pointV, seedV] at *
  go_enter Try.func7, Try.ntmps7
  go_upto_region 1 with fail
  go_cut [7] (fun p wc => ∃ w1 h m, p = .pointer (some ⟨h, 0, none⟩) ∧ Made w0 w1 wc h m)
  case first =>
    go_wp2_with (first | (go_at_call 17; refine HM.out.mono ?_; rintro e w1 ⟨m, rfl, hr, h3, h4, hfr, hj⟩; have HMd := hid (GotM.made hr h3 h4 hfr hj); clear hr h3 h4 hfr hj))
    go_meet
    case rel => exact ⟨w1, _, m, rfl, HMd.out⟩
  case rest =>
    obtain ⟨wM, rfl⟩ : ∃ wM, wM = wc := ⟨_, rfl⟩
    obtain ⟨w1, h, m, rfl, hMB, hh, hr, hd3, hn4, hfr, hj1, hjc⟩ := hcut
    have hok := hr.mdok hfr
    have HMB := hid hMB
    have HJc := hid hjc
    have HJ1 := hid hj1
    have HOk := hid hok
    have HRm := hid hr
    have HFr := hid hfr
    have hk1 := hr.k1
    have hk3 := hr.k3
    have hd1 := hr.d1
    clear hMB hjc hj1 hok hr hfr fi0 fi1 fi2 fi3 fi4 HM
    obtain ⟨D, k', b0, b1, b2, a, n, c, ts⟩ := m
    simp only at hk1 hk3 hd1 hd3 hn4
    obtain ⟨m0, m1, m2, m3, m4, m5, m6⟩ := HMB.out.in
    simp only at m1 m2 m3 m4 m5 m6
    -- 'more' is laid behind it
    obtain ⟨wD, hwD⟩ : ∃ wD, wM.alloc (.cells #[.int .i64 D, .int .i64 k', .int .i64 b0, .int .i64 b1, .int .i64 b2, .slice a n c] 29) = wD := ⟨_, rfl⟩
    have HszD : Hid (wD.heap.size = wM.heap.size + 1) := by show _ = _; rw [← hwD]; simp
    have HJD : Hid (Jk wM wD) := hwD ▸ (Jk.refl wM).alloc _
    have HM8 : Hid (MdB wD wM.heap.size ⟨D, k', b0, b1, b2, a, n, c, ts⟩) := hwD ▸ MdB.laid wM ⟨D, k', b0, b1, b2, a, n, c, ts⟩
    have HM7 : Hid (MdB wD h ⟨D, k', b0, b1, b2, a, n, c, ts⟩) := HMB.out.jk HJD.out
    have HJ1D : Hid (Jk w1 wD) := HJc.out.trans HJD.out
    have hwb := within_bd cl 0 (k' - 1) (by omega)
    have HW := hid (within_p (n := cl) (lo := 0) (hi := k' - 1) rfl HSk.out.p0 (by omega) (by omega) (by omega))
    obtain ⟨X, hX⟩ : ∃ X, withinI cl 0 (k' - 1) = X := ⟨_, rfl⟩
    rw [hX] at hwb HW
    clear hX
    have hwr : IntKind.i64.wrap (k' - 1) = k' - 1 := i64_in (by omega) (by omega)
    have HN : Hid (∀ w', Jk wD w' → Calls Try.prog 21 #[.agg #[.int .i64 cl, .slice a1 n1 c1, .slice a2 n2 c2, .slice a3 n3 c3, .slice a4 n4 c4], .int .i64 D] w' fun e w'' => GotT w' D e w'') := fun w' hj' => nodes_any ⟨cl, a1, n1, c1, y1, a2, n2, c2, y2, a3, n3, c3, y3, a4, n4, c4, y4⟩ D w' (HSk.out.jk ((HJ1.out.trans HJ1D.out).trans hj')) hd1 (by omega)
    obtain ⟨s0, s1, s2, s3, s4, s5⟩ := HSd.out.jk (HJ1.out.trans HJ1D.out)
    simp only at s1 s2 s3 s4 s5
    obtain ⟨e0, e1, e2, e3, e4, e5, e6⟩ := HM7.out.in
    simp only at e1 e2 e3 e4 e5 e6
    go_upto_region 3 with fail
    go_cut [9] (fun p wx => ∃ h9 gn nn cn ws, p = .pointer (some ⟨h9, 0, none⟩) ∧ wD.heap.size ≤ h9 ∧ TrB wx h9 ⟨X, some ⟨gn, 0, none⟩, nn, cn, ws⟩ ∧ IsW wx (some ⟨gn, 0, none⟩) nn cn ws ∧ TreeP ws D ∧ nn ≤ 15 ∧ wD.heap.size ≤ gn ∧ Jk wD wx)
    case first =>
      have HSS : Hid (∀ w', Jk wD w' → (w'.cell? ⟨w.heap.size + 1, 0, none⟩ = some (.int .i64 cl) ∧ w'.cell? ⟨w.heap.size + 1, 1, none⟩ = some (.slice a1 n1 c1) ∧ w'.cell? ⟨w.heap.size + 1, 2, none⟩ = some (.slice a2 n2 c2) ∧ w'.cell? ⟨w.heap.size + 1, 3, none⟩ = some (.slice a3 n3 c3) ∧ w'.cell? ⟨w.heap.size + 1, 4, none⟩ = some (.slice a4 n4 c4) ∧ w'.cell? ⟨h, 0, none⟩ = some (.int .i64 D) ∧ w'.cell? ⟨h, 1, none⟩ = some (.int .i64 k'))) := fun w' hj => by
        have q1 := fun i => hj.below.cell (p := ⟨w.heap.size + 1, i, none⟩) s0
        have q2 := fun i => hj.below.cell (p := ⟨h, i, none⟩) e0
        rw [q1, q1, q1, q1, q1, q2, q2]
        exact ⟨s1, s2, s3, s4, s5, e1, e2⟩
      go_region_held3 (fun w' => w'.cell? ⟨w.heap.size + 1, 0, none⟩ = some (.int .i64 cl) ∧ w'.cell? ⟨w.heap.size + 1, 1, none⟩ = some (.slice a1 n1 c1) ∧ w'.cell? ⟨w.heap.size + 1, 2, none⟩ = some (.slice a2 n2 c2) ∧ w'.cell? ⟨w.heap.size + 1, 3, none⟩ = some (.slice a3 n3 c3) ∧ w'.cell? ⟨w.heap.size + 1, 4, none⟩ = some (.slice a4 n4 c4) ∧ w'.cell? ⟨h, 0, none⟩ = some (.int .i64 D) ∧ w'.cell? ⟨h, 1, none⟩ = some (.int .i64 k'))
        (first | exact HSS.out _ ((hJn.set (Nat.le_refl _) _).set (Nat.le_refl _) _) | exact HSS.out _ (by repeat (with_reducible first | exact Jk.refl _ | exact hJn | apply Jk.drew | apply Jk.alloc)))
        (first
          | (go_at_call 16; refine (AnsP.on (by with_reducible exact HW.out) _).mono ?_; rintro e w' ⟨rfl, hw⟩; obtain rfl := hw.symm)
          | (go_at_call 21; refine (HN.out _ (((Jk.refl wD).alloc (.cells #[.int .i64 0, .slice none 0 0] 26)).drew)).mono ?_; rintro e wn ⟨gn, nn, cn, ws, rfl, hIs, hTr, h15, hgn, hjn⟩; have hJn : Jk wD wn := (((Jk.refl wD).alloc _).drew).trans hjn; have hTz : TrB wn wD.heap.size Tr.nil := (TrB.laid wD Tr.nil rfl).jk (((Jk.refl _).drew).trans hjn); have hz0 : wn.cell? ⟨wD.heap.size, 0, none⟩ = some (.int .i64 0) := hTz.in.1; have hz1 : wn.cell? ⟨wD.heap.size, 1, none⟩ = some (.slice none 0 0) := hTz.in.2; have hz2 := hTz.frozen; have hgz : gn ≠ wD.heap.size := (fun e => by have h5 : wD.heap.size + 1 ≤ gn := (by have h6 : (wD.alloc (.cells #[.int .i64 0, .slice none 0 0] 26)).heap.size ≤ gn := hgn; rw [World.size_alloc] at h6; exact h6); omega); have hlz : wD.heap.size < wn.heap.size := hTz.lt; have hgg : wD.heap.size ≤ gn := (by have h6 : (wD.alloc (.cells #[.int .i64 0, .slice none 0 0] 26)).heap.size ≤ gn := hgn; rw [World.size_alloc] at h6; omega); have hGot := hid (⟨hIs, hTr, h15, hgz⟩ : IsW wn (some ⟨gn, 0, none⟩) nn cn ws ∧ TreeP ws D ∧ nn ≤ 15 ∧ gn ≠ wD.heap.size); clear hIs hTr h15 hgz)
          | (go_at_call 21; refine (HN.out _ ((Jk.refl wD).drew)).mono ?_; rintro e wn ⟨gn, nn, cn, ws, rfl, hIs, hTr, h15, hgn, hjn⟩; have hJn : Jk wD wn := ((Jk.refl wD).drew).trans hjn; have hgg : wD.heap.size ≤ gn := hgn; have hGot := hid (⟨hIs, hTr, h15⟩ : IsW wn (some ⟨gn, 0, none⟩) nn cn ws ∧ TreeP ws D ∧ nn ≤ 15); clear hIs hTr h15))
      all_goals
        go_wp2_with fail
        go_meet
        case rel =>
          first
            | exact ⟨wn.heap.size, gn, nn, cn, ws, rfl, hJn.below.size, TrB.laid wn ⟨X, some ⟨gn, 0, none⟩, nn, cn, ws⟩ rfl, hGot.out.1.jk ((Jk.refl wn).alloc _), hGot.out.2.1, hGot.out.2.2, hgg, hJn.alloc _⟩
            | exact ⟨wD.heap.size, gn, nn, cn, ws, rfl, Nat.le_refl _, hTz.set X _ nn cn ws, (hGot.out.1.kept (grown_set _ _ _ _) (ne_blk hGot.out.2.2.2)).kept (grown_set _ _ _ _) (ne_blk hGot.out.2.2.2), hGot.out.2.1, hGot.out.2.2.1, hgg, (hJn.set (Nat.le_refl _) _).set (Nat.le_refl _) _⟩
    case rest =>
      obtain ⟨wx, rfl⟩ : ∃ wx, wx = wc := ⟨_, rfl⟩
      obtain ⟨h9, gn, nn, cn, ws, rfl, hh9, hTB, hIs, hTr, h15, hgn, hJx⟩ := hcut
      have HTB := hid hTB
      have HIs := hid hIs
      have HTr := hid hTr
      have HJx := hid hJx
      have HJ1x : Hid (Jk w1 wx) := HJ1D.out.trans hJx
      have HM7x := hid (HM7.out.jk hJx)
      have HM8x := hid (HM8.out.jk hJx)
      have hszx := hJx.below.size
      have hszD := HszD.out
      clear s0 s1 s2 s3 s4 s5 e0 e1 e2 e3 e4 e5 e6 hTB hIs hTr hJx HN HW HSd HSk m1 m2 m3 m4 m5 m6
      obtain ⟨e0, e1, e2, e3, e4, e5, e6⟩ := HM7x.out.in
      obtain ⟨u0, u1⟩ := HTB.out.in
      simp only at e1 e2 e3 e4 e5 e6 u0 u1
      have hu9 := HTB.out.lt
      have hh8w : w1.heap.size ≤ wM.heap.size := HJc.out.below.size
      generalize hh8 : wM.heap.size = h8 at HM8 HM8x hszD m0 hh8w ⊢
      clear hh8
      have hne1 : h ≠ h8 := by omega
      have hne2 : h9 ≠ h8 := by omega
      have hgn8 : gn ≠ h8 := by omega
      have h8x : h8 < wx.heap.size := HM8x.out.lt
      have HTk : Hid (∀ wz, IsW wz (some ⟨gn, 0, none⟩) nn cn ws → Tr.ok wz ⟨X, some ⟨gn, 0, none⟩, nn, cn, ws⟩) := fun wz h => ⟨fit_small (by simp only; omega) (by simp only; omega), h⟩
      have HISx : Hid (∀ w', Jk wx w' → IsT w' a n c ts) := fun w' hj => HOk.out.is.jk (HJ1x.out.trans hj)
      clear hszD hszx
      go_upto_region 4 with fail
      go_cut [33] (fun v wy => ∃ g2 c2 wB, v = .slice (some ⟨g2, 0, none⟩) (n + 1) c2 ∧ Jk wx wB ∧ OwnT wx.heap.size wB (.slice (some ⟨g2, 0, none⟩) (n + 1) c2) (n + 1) (ts ++ [⟨X, some ⟨gn, 0, none⟩, nn, cn, ws⟩]) ∧ wB.setCell ⟨h8, 5, none⟩ (.slice (some ⟨g2, 0, none⟩) (n + 1) c2) = wy)
      case first =>
        have HSS : Hid (∀ w', Jk wx w' → w'.cell? ⟨h, 5, none⟩ = some (.slice a n c) ∧ w'.cell? ⟨h9, 0, none⟩ = some (.int .i64 X) ∧ w'.cell? ⟨h9, 1, none⟩ = some (.slice (some ⟨gn, 0, none⟩) nn cn)) := fun w' hj => by
          have q1 := fun i => hj.below.cell (p := ⟨h, i, none⟩) e0
          have q2 := fun i => hj.below.cell (p := ⟨h9, i, none⟩) hu9
          rw [q1, q2, q2]
          exact ⟨e6, u0, u1⟩
        have HSt : Hid (∀ w' (v : Value), Jk wx w' → (w'.setCell ⟨h8, 5, none⟩ v).cell? ⟨h, 5, none⟩ = some (.slice a n c) ∧ (w'.setCell ⟨h8, 5, none⟩ v).cell? ⟨h9, 0, none⟩ = some (.int .i64 X) ∧ (w'.setCell ⟨h8, 5, none⟩ v).cell? ⟨h9, 1, none⟩ = some (.slice (some ⟨gn, 0, none⟩) nn cn)) := fun w' v hj => by
          have q1 := fun i => World.cell?_setCell_far w' ⟨h8, 5, none⟩ ⟨h, i, none⟩ v (Ne.symm hne1)
          have q2 := fun i => World.cell?_setCell_far w' ⟨h8, 5, none⟩ ⟨h9, i, none⟩ v (Ne.symm hne2)
          rw [q1, q2, q2]
          exact HSS.out w' hj
        have HC8 : Hid (∀ w', Jk wx w' → w'.cell? ⟨h8, 5, none⟩ = some (.slice a n c) ∧ w'.frozen? ⟨h8, 5, none⟩ = false) := fun w' hj => ⟨(HM8x.out.jk hj).in.2.2.2.2.2.2, (HM8x.out.jk hj).frozen 5⟩
        have HC0 : Hid (OwnT wx.heap.size (wx.alloc (.cells #[] 26)).drew (.slice (some ⟨wx.heap.size, 0, none⟩) 0 0) 0 [] ∧ wx.heap.size ≤ ((wx.alloc (.cells #[] 26)).drew).heap.size ∧ IsT (wx.alloc (.cells #[] 26)).drew a n c ts ∧ ∀ wA, World.grownBy (wx.alloc (.cells #[] 26)).drew wA (some wx.heap.size) → Jk wx wA) :=
          ⟨own_empty wx.drew rfl (Nat.le_refl _), le_alloc wx _, HISx.out _ ((Jk.refl wx).alloc _).drew, fun wA hG => (((Jk.refl wx).alloc _).drew).grown hG (fun k hk => by cases hk; exact Nat.le_refl _)⟩
        have HB0 : Hid (OwnT wx.heap.size ((wx.alloc (.cells #[] 26)).alloc (.cells #[.int .i64 X, .slice (some ⟨gn, 0, none⟩) nn cn] 26)).drew (.slice (some ⟨wx.heap.size, 0, none⟩) 0 0) 0 [] ∧ wx.heap.size ≤ (((wx.alloc (.cells #[] 26)).alloc (.cells #[.int .i64 X, .slice (some ⟨gn, 0, none⟩) nn cn] 26)).drew).heap.size ∧ IsT ((wx.alloc (.cells #[] 26)).alloc (.cells #[.int .i64 X, .slice (some ⟨gn, 0, none⟩) nn cn] 26)).drew a n c ts ∧ ∀ wA, World.grownBy ((wx.alloc (.cells #[] 26)).alloc (.cells #[.int .i64 X, .slice (some ⟨gn, 0, none⟩) nn cn] 26)).drew wA (some wx.heap.size) → Jk wx wA ∧ AtT wA (wx.heap.size + 1) 0 [⟨X, some ⟨gn, 0, none⟩, nn, cn, ws⟩]) :=
          ⟨(own_empty wx.drew rfl (Nat.le_refl _)).jk ((Jk.refl _).alloc (.cells #[.int .i64 X, .slice (some ⟨gn, 0, none⟩) nn cn] 26)), Nat.le_trans (le_alloc wx _) (le_alloc _ _), HISx.out _ (((Jk.refl wx).alloc _).alloc _).drew, fun wA hG => ⟨((((Jk.refl wx).alloc _).alloc _).drew).grown hG (fun k hk => by cases hk; exact Nat.le_refl _), srcB hG⟩⟩
        have HA0 : Hid (OwnT wx.heap.size ((wx.alloc (.cells #[.int .i64 X, .slice (some ⟨gn, 0, none⟩) nn cn] 26)).alloc (.cells #[] 26)).drew (.slice (some ⟨wx.heap.size + 1, 0, none⟩) 0 0) 0 [] ∧ wx.heap.size ≤ (((wx.alloc (.cells #[.int .i64 X, .slice (some ⟨gn, 0, none⟩) nn cn] 26)).alloc (.cells #[] 26)).drew).heap.size ∧ IsT ((wx.alloc (.cells #[.int .i64 X, .slice (some ⟨gn, 0, none⟩) nn cn] 26)).alloc (.cells #[] 26)).drew a n c ts ∧ ∀ wA, World.grownBy ((wx.alloc (.cells #[.int .i64 X, .slice (some ⟨gn, 0, none⟩) nn cn] 26)).alloc (.cells #[] 26)).drew wA (some (wx.heap.size + 1)) → Jk wx wA ∧ AtT wA wx.heap.size 0 [⟨X, some ⟨gn, 0, none⟩, nn, cn, ws⟩]) :=
          ⟨own_empty (wx.drew.alloc (.cells #[.int .i64 X, .slice (some ⟨gn, 0, none⟩) nn cn] 26)) (World.size_alloc' _ _).symm (le_alloc wx _), Nat.le_trans (le_alloc wx _) (le_alloc _ _), HISx.out _ (((Jk.refl wx).alloc _).alloc _).drew, fun wA hG => ⟨((((Jk.refl wx).alloc _).alloc _).drew).grown hG (fun k hk => by cases hk; exact Nat.le_succ _), srcA hG⟩⟩
        go_region_held3 (fun w' => w'.cell? ⟨h, 5, none⟩ = some (.slice a n c) ∧ w'.cell? ⟨h9, 0, none⟩ = some (.int .i64 X) ∧ w'.cell? ⟨h9, 1, none⟩ = some (.slice (some ⟨gn, 0, none⟩) nn cn))
          (first | exact HSt.out _ _ hJB | exact HSS.out _ hJB | exact HSS.out _ (hJA.alloc _) | exact HSS.out _ hJA | exact HSS.out _ (Jk.refl wx).drew | exact HSS.out _ ((Jk.refl wx).drew.alloc _) | exact HSS.out _ (((Jk.refl wx).drew.alloc _).alloc _))
          (first
            | (refine step_app0 (B := wx.heap.size) (ts := ts) (by rfl) (.tmp 27) (.tmp 29) (by rfl) (by with_reducible first | exact HC0.out.1 | exact HB0.out.1 | exact HA0.out.1) (by with_reducible first | exact HC0.out.2.1 | exact HB0.out.2.1 | exact HA0.out.2.1) (by rfl) (by rfl) (by with_reducible first | exact HC0.out.2.2.1 | exact HB0.out.2.2.1 | exact HA0.out.2.2.1) (by omega) ?_; intro g1 c1' wA hOA hGA; first | (with_reducible (have hJs := HC0.out.2.2.2 wA hGA); have hJA := hJs) | (with_reducible (have hJs := HB0.out.2.2.2 wA hGA); have hJA := hJs.1; have hsrc := hJs.2) | (with_reducible (have hJs := HA0.out.2.2.2 wA hGA); have hJA := hJs.1; have hsrc := hJs.2))
            | (refine step_appT (B := wx.heap.size) (ys := [⟨X, some ⟨gn, 0, none⟩, nn, cn, ws⟩]) (by rfl) (.tmp 30) (.tmp 32) (by rfl) hOA hJA.below.size (by rfl) _ 1 1 rfl (by rfl) (by decide) ⟨_, _, rfl, by with_reducible exact hsrc⟩ (by omega) (n + 1) rfl ?_; intro g2 c2' wB hOB hGB hg2; have hJB : Jk wx wB := hJA.grown hGB (fun k hk => hOA.base k hk); obtain ⟨p5, p6⟩ := HC8.out _ hJB)
            | (refine step_appT (B := wx.heap.size) (ys := [⟨X, some ⟨gn, 0, none⟩, nn, cn, ws⟩]) (by rfl) (.tmp 30) (.tmp 32) (by rfl) (hOA.jk ((Jk.refl wA).alloc _)) (by rw [World.size_alloc]; have := hJA.below.size; omega) (by rfl) (some ⟨wA.heap.size, 0, none⟩) 1 1 rfl (by rfl) (by decide) ⟨_, _, rfl, new_tree wA _ _ _ _ _ rfl⟩ (by omega) (n + 1) rfl ?_; intro g2 c2' wB hOB hGB hg2; have hJB : Jk wx wB := (hJA.alloc _).grown hGB (fun k hk => hOA.base k hk); obtain ⟨p5, p6⟩ := HC8.out _ hJB))
        all_goals
          go_wp2_with fail
          go_meet
          case rel => exact ⟨g2, c2', wB, rfl, hJB, hOB, rfl⟩
      case rest =>
        obtain ⟨wy, rfl⟩ : ∃ wy, wy = wc := ⟨_, rfl⟩
        obtain ⟨g2, c2', wB, rfl, hJB, hOB, hwy⟩ := hcut
        obtain ⟨hM8, hokM, hJ1y⟩ := app_store HM8x.out HJ1x.out hJB hh8w HOk.out hOB h8x (fun wz hg => HTk.out wz ((HIs.out.jk hJB).kept hg (ne_blk hgn8))) hwy
        have hby : ∀ b, b < wx.heap.size → b ≠ h8 → wy.heap[b]? = wx.heap[b]? := fun b h1 h2 => by
          rw [← hwy]
          exact ((grown_set wB h8 5 _).block b (Nat.lt_of_lt_of_le h1 hJB.below.size) (by simp; omega)).trans (hJB.below.block b h1)
        have hM7 : MdB wy h ⟨D, k', b0, b1, b2, a, n, c, ts⟩ := (hby h e0 hne1).trans HM7x.out
        have hT9 : TrB wy h9 ⟨X, some ⟨gn, 0, none⟩, nn, cn, ws⟩ := (hby h9 hu9 hne2).trans HTB.out
        have hIy : IsW wy (some ⟨gn, 0, none⟩) nn cn ws := by
          rw [← hwy]
          exact (HIs.out.jk hJB).kept (grown_set _ _ _ _) (ne_blk hgn8)
        have hoky := HOk.out.jk hJ1y
        have hlts : ts.length = n := HOk.out.is.len
        have hrM : RightM ⟨D, k', b0, b1, b2, some ⟨g2, 0, none⟩, n + 1, c2', ts ++ [⟨X, some ⟨gn, 0, none⟩, nn, cn, ws⟩]⟩ := HRm.out.more (t := ⟨X, some ⟨gn, 0, none⟩, nn, cn, ws⟩) ⟨hwb.1, by show X < k'; omega, HTr.out⟩ (by simp only; omega) _ _ _
        obtain ⟨wE0, hwE0⟩ : ∃ wE0, wy.alloc (.cells #[.int .i64 D, .int .i64 k', .int .i64 b0, .int .i64 b1, .int .i64 b2, .slice a n c] 29) = wE0 := ⟨_, rfl⟩
        have hM100 : MdB wE0 wy.heap.size ⟨D, k', b0, b1, b2, a, n, c, ts⟩ := hwE0 ▸ MdB.laid wy ⟨D, k', b0, b1, b2, a, n, c, ts⟩
        obtain ⟨wE, hwE⟩ : ∃ wE, wE0.setCell ⟨wy.heap.size, 5, none⟩ (.slice none 0 0) = wE := ⟨_, rfl⟩
        have hJE : Jk wy wE := hwE ▸ (hwE0 ▸ (Jk.refl wy).alloc _ : Jk wy wE0).set (Nat.le_refl _) _
        have HM10 : Hid (MdB wE wy.heap.size ⟨D, k', b0, b1, b2, none, 0, 0, []⟩) := hwE ▸ hM100.setT none 0 0 []
        have q5 := hM100.in.2.2.2.2.2.2
        have q6 := hM100.frozen 5
        have q7 := hM100.lt
        simp only at q5
        have HM8E := hid (hM8.jk hJE)
        have HM7E := hid (hM7.jk hJE)
        have HT9E := hid (hT9.jk hJE)
        have HPE := hid (HP.out.jk (HJ1.out.trans (hJ1y.trans hJE)))
        have HJwE : Hid (Jk w wE) := HJ0.out.trans (HJ1.out.trans (hJ1y.trans hJE))
        have hokB : Md.ok wE ⟨D, k', b0, b1, b2, none, 0, 0, []⟩ := ⟨hoky.fd, hoky.fk, hoky.f0, hoky.f1, hoky.f2, IsT.none wE⟩
        have HEm : Hid (∀ C : Int, 0 ≤ C → C < k' → AnsW wE 11 #[.agg #[.int .i64 D, .int .i64 k', .int .i64 b0, .int .i64 b1, .int .i64 b2, .slice a n c], .int .i64 C, .agg #[.int .i64 (x 0), .int .i64 (x 1), .int .i64 (x 2), .int .i64 (x 3)]] (.int .i64 (Md.sum ⟨D, k', b0, b1, b2, a, n, c, ts⟩ x C))) := fun C h0 h1 => by
          have h := eval_ans (m := ⟨D, k', b0, b1, b2, a, n, c, ts⟩) x (hoky.jk hJE) (HRm.out.evalP x h0 h1)
          exact h
        have HEM : Hid (∀ C : Int, 0 ≤ C → C < k' → AnsW wE 11 #[.agg #[.int .i64 D, .int .i64 k', .int .i64 b0, .int .i64 b1, .int .i64 b2, .slice (some ⟨g2, 0, none⟩) (n + 1) c2'], .int .i64 C, .agg #[.int .i64 (x 0), .int .i64 (x 1), .int .i64 (x 2), .int .i64 (x 3)]] (.int .i64 (Md.sum ⟨D, k', b0, b1, b2, a, n, c, ts⟩ x C + (if X = C then valW ws x else 0)))) := fun C h0 h1 => by
          have h := eval_ans (m := ⟨D, k', b0, b1, b2, some ⟨g2, 0, none⟩, n + 1, c2', ts ++ [⟨X, some ⟨gn, 0, none⟩, nn, cn, ws⟩]⟩) x (hokM.jk hJE) (hrM.evalP x h0 h1)
          have e := sum_more ⟨D, k', b0, b1, b2, a, n, c, ts⟩ ⟨X, some ⟨gn, 0, none⟩, nn, cn, ws⟩ (some ⟨g2, 0, none⟩) (n + 1) c2' x C
          rw [e] at h
          exact h
        have HEB : Hid (∀ C : Int, 0 ≤ C → C < k' → AnsW wE 11 #[.agg #[.int .i64 D, .int .i64 k', .int .i64 b0, .int .i64 b1, .int .i64 b2, .slice none 0 0], .int .i64 C, .agg #[.int .i64 (x 0), .int .i64 (x 1), .int .i64 (x 2), .int .i64 (x 3)]] (.int .i64 (Md.b ⟨D, k', b0, b1, b2, a, n, c, ts⟩ C))) := fun C h0 h1 => by
          have h := eval_ans (m := ⟨D, k', b0, b1, b2, none, 0, 0, []⟩) x hokB (HRm.out.bare.evalP x h0 h1)
          have e := sum_bare ⟨D, k', b0, b1, b2, a, n, c, ts⟩ x C
          rw [e] at h
          exact h
        have HVa : Hid (AnsW wE 22 #[.slice (some ⟨gn, 0, none⟩) nn cn, .agg #[.int .i64 (x 0), .int .i64 (x 1), .int .i64 (x 2), .int .i64 (x 3)]] (.int .i64 (valW ws x))) := value_ans x (hIy.jk hJE)
        have hZ := sizeI_small (ts := ts) n (by omega) HFr.out.small
        have HSm : Hid (AnsW wE 14 #[.agg #[.int .i64 D, .int .i64 k', .int .i64 b0, .int .i64 b1, .int .i64 b2, .slice a n c]] (.int .i64 (sizeI ts n))) := by
          have h := size_ans (m := ⟨D, k', b0, b1, b2, a, n, c, ts⟩) (hoky.jk hJE) rfl
          exact h
        have HSM : Hid (AnsW wE 14 #[.agg #[.int .i64 D, .int .i64 k', .int .i64 b0, .int .i64 b1, .int .i64 b2, .slice (some ⟨g2, 0, none⟩) (n + 1) c2']] (.int .i64 (sizeI ts n + (nn : Int)))) := by
          have h := size_ans (m := ⟨D, k', b0, b1, b2, some ⟨g2, 0, none⟩, n + 1, c2', ts ++ [⟨X, some ⟨gn, 0, none⟩, nn, cn, ws⟩]⟩) (hokM.jk hJE) rfl
          have e := size_more (ts := ts) (t := ⟨X, some ⟨gn, 0, none⟩, nn, cn, ws⟩) hlts (by omega) HFr.out.small h15
          simp only at h e
          rw [e] at h
          exact h
        obtain ⟨Z, hZe⟩ : ∃ Z, sizeI ts n = Z := ⟨_, rfl⟩
        rw [hZe] at hZ HSm HSM
        have hwZ : IntKind.i64.wrap (Z + (nn : Int)) = Z + (nn : Int) := i64_in (by omega) (by omega)
        have HBd : Hid (∀ C : Int, -2147483648 * 9 ≤ Md.sum ⟨D, k', b0, b1, b2, a, n, c, ts⟩ x C ∧ Md.sum ⟨D, k', b0, b1, b2, a, n, c, ts⟩ x C ≤ 2147483647 * 9) := fun C => by
          have h1 := sumTo_bd ts x C ts.length
          have h2 : -2147483648 ≤ Md.b ⟨D, k', b0, b1, b2, a, n, c, ts⟩ C ∧ Md.b ⟨D, k', b0, b1, b2, a, n, c, ts⟩ C ≤ 2147483647 := by
            rcases HRm.out.bc (c := C) with h | h
            · omega
            · simp [fit32] at h; omega
          unfold Md.sum
          simp only
          omega
        have hvb := valW_bd ws x
        obtain ⟨V, hVe⟩ : ∃ V, valW ws x = V := ⟨_, rfl⟩
        rw [hVe] at HEM HVa hvb
        obtain ⟨sm, hsm⟩ : ∃ sm, Md.sum ⟨D, k', b0, b1, b2, a, n, c, ts⟩ x = sm := ⟨_, rfl⟩
        rw [hsm] at HEm HEM HBd
        obtain ⟨bm, hbm⟩ : ∃ bm, Md.b ⟨D, k', b0, b1, b2, a, n, c, ts⟩ = bm := ⟨_, rfl⟩
        have HBm : Hid (bm 0 = b0 ∧ bm 1 = b1 ∧ bm 2 = b2) := by rw [← hbm]; exact ⟨rfl, rfl, rfl⟩
        rw [hbm] at HEB
        obtain ⟨K, rfl⟩ := Int.eq_ofNat_of_zero_le (show 0 ≤ k' by omega)
        obtain ⟨g0, g1, g2c, g3, g4, g5, g6⟩ := hM7.in
        simp only at g1 g2c g3 g4 g5 g6
        obtain ⟨i0, i1, i2, i3, i4, i5, i6⟩ := HM7E.out.in
        simp only at i1 i2 i3 i4 i5 i6
        clear hM100 hM8 hokM hM7 hT9 hIy hoky hlts hrM hokB hZe hVe hsm hbm hJB hOB hwy hby hJE e0 e1 e2 e3 e4 e5 e6 u0 u1 hu9 h8x hne1 hne2 m0 hh9 hgn hgn8 hh8w hh hJ1y
        go_wp2
        go_loopg [11] K (fun r v wr => ∃ j : Nat, j + r = K ∧ v = .int .i64 (j : Int) ∧ Hid (Jk wE wr))
        case atStart => exact ⟨0, by omega, rfl, hid (Jk.refl _)⟩
        case round =>
          obtain ⟨j, hj, rfl, HJ⟩ := hrel
          clear g0 g1 g2c g3 g4 g5 g6 i0 i1 i2 i3 i4 i5 i6 q5 q6 q7
          obtain ⟨i0, i1, i2, i3, i4, i5, i6⟩ := (HM7E.out.jk HJ.out).in
          obtain ⟨j0, j1, j2, j3, j4, j5, j6⟩ := (HM8E.out.jk HJ.out).in
          obtain ⟨k0, k1, k2, k3, k4, k5, k6⟩ := (HM10.out.jk HJ.out).in
          obtain ⟨l1, l2⟩ := (HT9E.out.jk HJ.out).in
          have l0 := (HT9E.out.jk HJ.out).lt
          obtain ⟨p0, p1, p2, p3, p4⟩ := HPE.out.jk HJ.out
          simp only at i1 i2 i3 i4 i5 i6 j1 j2 j3 j4 j5 j6 k1 k2 k3 k4 k5 k6 l1 l2
          by_cases hfuel : gk = 0
          · subst hfuel
            obtain rfl : j = K := by omega
            have HSM' : Hid (AnsW wr 14 _ _) := fun w1 hj => HSM.out w1 (HJ.out.trans hj)
            have HSm' : Hid (AnsW wr 14 _ _) := fun w1 hj => HSm.out w1 (HJ.out.trans hj)
            have HRu : Hid (AnsW wr 3 #[] (.bool true)) := fun w1 _ => HRuns.out w1
            clear HEm HEM HEB HVa HSM HSm
            go_wp2_with fail
            refine region_junk (by kernel_rfl) (by kernel_rfl) ?_
            repeat (go_big_quiet_step (first | (go_at_call 14; exact AnsW.junk (by with_reducible first | exact HSM'.out | exact HSm'.out) _) | (go_at_call 3; exact AnsW.junk (by with_reducible exact HRu.out) _) | exact rfl))
            refine wpQuiet_nil ?_
            rintro _ ⟨XX, rfl⟩
            go_wp2
            go_ret
            exact ⟨rfl, (HJwE.out.trans HJ.out).junk _⟩
          · obtain ⟨r, rfl⟩ : ∃ r, gk = r + 1 := ⟨gk - 1, by omega⟩
            have hjK : (j : Int) < (K : Int) := by omega
            have hj3 : (j : Int) < 3 := by omega
            have hj0 : (0 : Int) ≤ (j : Int) := by omega
            have HEM' : Hid (AnsW wr 11 _ _) := fun w1 hj => HEM.out (j : Int) hj0 hjK w1 (HJ.out.trans hj)
            have HEm' : Hid (AnsW wr 11 _ _) := fun w1 hj => HEm.out (j : Int) hj0 hjK w1 (HJ.out.trans hj)
            obtain ⟨P2, hP2⟩ : ∃ P2, sm (j : Int) = P2 := ⟨_, rfl⟩
            have hbd := HBd.out (j : Int)
            rw [hP2] at HEM' HEm' hbd
            obtain ⟨DD, hDD⟩ : ∃ DD, (if X = (j : Int) then V else 0) = DD := ⟨_, rfl⟩
            rw [hDD] at HEM'
            have hDb : -2147483648 ≤ DD ∧ DD ≤ 2147483647 := by rw [← hDD]; split <;> omega
            obtain ⟨P1, hP1⟩ : ∃ P1, P2 + DD = P1 := ⟨_, rfl⟩
            rw [hP1] at HEM'
            have hsub : IntKind.i64.wrap (P1 - P2) = DD := by rw [i64_in (by omega) (by omega)]; omega
            clear hP1
            go_upto_region 10 with fail
            go_cut [12] (fun v wq => v = .int .i64 DD ∧ Jk wr wq)
            case first =>
              refine region_junk (by kernel_rfl) (by kernel_rfl) ?_
              repeat (go_big_quiet_step (first | (go_at_call 11; exact AnsW.junk (by with_reducible first | exact HEM'.out | exact HEm'.out) _) | exact rfl))
              refine wpQuiet_nil ?_
              rintro _ ⟨XX, rfl⟩
              go_wp2_with fail
              go_meet
              case rel => exact ⟨rfl, (Jk.refl wr).junk _⟩
            case rest =>
              obtain ⟨wq, rfl⟩ : ∃ wq, wq = wc := ⟨_, rfl⟩
              obtain ⟨rfl, hJq⟩ := hcut
              have HJq : Hid (Jk wE wq) := HJ.out.trans hJq
              clear i0 i1 i2 i3 i4 i5 i6 j0 j1 j2 j3 j4 j5 j6 k0 k1 k2 k3 k4 k5 k6 l0 l1 l2 p0 p1 p2 p3 p4 HEM' HEm' hsub hbd
              obtain ⟨i0, i1, i2, i3, i4, i5, i6⟩ := (HM7E.out.jk HJq.out).in
              obtain ⟨k0, k1, k2, k3, k4, k5, k6⟩ := (HM10.out.jk HJq.out).in
              obtain ⟨l1, l2⟩ := (HT9E.out.jk HJq.out).in
              have l0 := (HT9E.out.jk HJq.out).lt
              obtain ⟨p0, p1, p2, p3, p4⟩ := HPE.out.jk HJq.out
              simp only at i1 i2 i3 i4 i5 i6 k1 k2 k3 k4 k5 k6 l1 l2
              have hcell : wq.cell? ⟨h, 2 + j, none⟩ = some (.int .i64 (bm (j : Int))) := by
                have : j = 0 ∨ j = 1 ∨ j = 2 := by omega
                rcases this with rfl | rfl | rfl
                · rw [show bm ((0 : Nat) : Int) = b0 from HBm.out.1]; exact i3
                · rw [show bm ((1 : Nat) : Int) = b1 from HBm.out.2.1]; exact i4
                · rw [show bm ((2 : Nat) : Int) = b2 from HBm.out.2.2]; exact i5
              have HEB' : Hid (AnsW wq 11 _ _) := fun w1 hj => HEB.out (j : Int) hj0 hjK w1 (HJq.out.trans hj)
              have HVa' : Hid (AnsW wq 22 _ _) := fun w1 hj => HVa.out w1 (HJq.out.trans hj)
              obtain ⟨BJ, hBJ⟩ : ∃ BJ, bm (j : Int) = BJ := ⟨_, rfl⟩
              rw [hBJ] at hcell HEB'
              clear hBJ i3 i4 i5 HEM HEm HEB HVa HBd HBm
              by_cases hXj : X = (j : Int)
              · obtain rfl : V = DD := by rw [← hDD, if_pos hXj]
                subst hXj
                go_wp2_with fail
                refine region_junk (by kernel_rfl) (by kernel_rfl) ?_
                repeat (go_big_quiet_step (first | (go_at_call 11; exact AnsW.junk (by with_reducible exact HEB'.out) _) | (go_at_call 22; exact AnsW.junk (by with_reducible exact HVa'.out) _) | exact rfl))
                refine wpQuiet_nil ?_
                rintro _ ⟨XX, rfl⟩
                go_wp2
                go_roundg r
                case measure => omega
                case rel => exact ⟨j + 1, by omega, by go_num, hid (HJq.out.junk _)⟩
              · obtain rfl : 0 = DD := by rw [← hDD, if_neg hXj]
                have hXj2 : ((j : Int) == X) = false := by simp; omega
                have hXj3 : ¬ (j : Int) = X := by omega
                have hXj4 : ((j : Int) != X) = true := by simp; omega
                have hXj5 : decide ((j : Int) = X) = false := by simp; omega
                go_wp2_with fail
                refine region_junk (by kernel_rfl) (by kernel_rfl) ?_
                repeat (go_big_quiet_step (first | (go_at_call 11; exact AnsW.junk (by with_reducible exact HEB'.out) _) | exact rfl))
                refine wpQuiet_nil ?_
                rintro _ ⟨XX, rfl⟩
                go_wp2
                go_roundg r
                case measure => omega
                case rel => exact ⟨j + 1, by omega, by go_num, hid (HJq.out.junk _)⟩

end Go.Proofs.Ytnjfbmnecfiliaa
