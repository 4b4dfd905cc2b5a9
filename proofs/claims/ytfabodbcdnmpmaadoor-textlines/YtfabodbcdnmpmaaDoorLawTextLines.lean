/- The law TextLines of chapter 9 answers true: its walk through the Go text, by the contracts of package text. Conditions: what the statement itself says of the library's variables ('Env'). -/
import Derived.Test.YtfabodbcdnmpmaaDoorLawTextRuns
import Derived.Test.YtfabodbcdnmpmaaDoorForestA
import Derived.Test.YtfabodbcdnmpmaaDoorAppTwo
import Derived.Test.YtfabodbcdnmpmaaDoorMathL
namespace Go.Proofs.YtfabodbcdnmpmaaDoor
open Go.RowKit M

/-- a tree's numbers that were laid in a block of their own -/
def SeIn (w : World) (h : Nat) (s : Seed) : Prop := h < w.heap.size ∧ w.cell? ⟨h, 0, none⟩ = some (.int .i64 s.cl) ∧ w.cell? ⟨h, 1, none⟩ = some (.slice s.a1 s.n1 s.c1) ∧ w.cell? ⟨h, 2, none⟩ = some (.slice s.a2 s.n2 s.c2) ∧ w.cell? ⟨h, 3, none⟩ = some (.slice s.a3 s.n3 s.c3) ∧ w.cell? ⟨h, 4, none⟩ = some (.slice s.a4 s.n4 s.c4)
theorem SeIn.jk {w w' : World} {h : Nat} {s : Seed} (H : SeIn w h s) (hj : Jk w w') : SeIn w' h s := by
  obtain ⟨h0, h1, h2, h3, h4, h5⟩ := H
  have e := fun i => hj.below.cell (p := ⟨h, i, none⟩) h0
  exact ⟨Nat.lt_of_lt_of_le h0 hj.below.size, (e 0).trans h1, (e 1).trans h2, (e 2).trans h3, (e 3).trans h4, (e 4).trans h5⟩
theorem SeIn.laid (w : World) (s : Seed) (t : TypeId) : SeIn (w.alloc (.cells #[.int .i64 s.cl, .slice s.a1 s.n1 s.c1, .slice s.a2 s.n2 s.c2, .slice s.a3 s.n3 s.c3, .slice s.a4 s.n4 s.c4] t)) w.heap.size s :=
  ⟨by simp, World.cell?_alloc_at _ _ _ _ rfl, World.cell?_alloc_at _ _ _ _ rfl, World.cell?_alloc_at _ _ _ _ rfl, World.cell?_alloc_at _ _ _ _ rfl, World.cell?_alloc_at _ _ _ _ rfl⟩
theorem count_next (S : Txt) (j : Nat) (h : j < S.length) : (S.take (j + 1)).count 10 = (S.take j).count 10 + (if byteAt S j = 10 then 1 else 0) := by
  rw [take_byte S j h, List.count_append]
  by_cases e : byteAt S j = 10
  · rw [e]; rfl
  · rw [if_neg e, List.count_singleton]
    simp [e]

set_option maxRecDepth 100000 in
set_option maxHeartbeats 6400000 in
theorem textLines_walk0 (f : Fo) (sd : Seed) (w : World) (hL : LibP w) (hf : f.ok w) (hsd : sd.ok w) : Calls Tryd.prog 6 #[forestV f, seedV sd] w fun e w' => e = .returned (.bool true) ∧ Jk w w' := by
  have J := rules8
  obtain ⟨wF, hwF⟩ : ∃ wF, w.alloc (.cells #[.int .i64 f.d, .int .i64 f.k, .slice f.ba f.bn f.bc, .slice f.sa f.sn f.sc] 41) = wF := ⟨_, rfl⟩
  have hszF : wF.heap.size = w.heap.size + 1 := by rw [← hwF]; simp
  have HFi : Hid (FoIn wF w.heap.size f) := hwF ▸ FoIn.laid w f _
  have HJF : Hid (Jk w wF) := hwF ▸ (Jk.refl w).alloc _
  obtain ⟨w0, hw0⟩ : ∃ w0, wF.alloc (.cells #[.int .i64 sd.cl, .slice sd.a1 sd.n1 sd.c1, .slice sd.a2 sd.n2 sd.c2, .slice sd.a3 sd.n3 sd.c3, .slice sd.a4 sd.n4 sd.c4] 48) = w0 := ⟨_, rfl⟩
  have HJF0 : Hid (Jk wF w0) := hw0 ▸ (Jk.refl wF).alloc _
  have HJ0 : Hid (Jk w w0) := HJF.out.trans HJF0.out
  have HSd : Hid (SeIn w0 (w.heap.size + 1) sd) := hszF ▸ hw0 ▸ SeIn.laid wF sd _
  have HFo : Hid (FoIn w0 w.heap.size f) := HFi.out.jk HJF0.out
  have HSk : Hid (sd.ok w0) := hsd.jk HJ0.out
  have HM : Hid (Calls Tryd.prog 11 #[forestV f] w0 fun e w' => GotM w0 e w') := model_any f w0 (hf.jk HJ0.out)
  have HL := hid (hL.at HJ0.out)
  obtain ⟨fi0, fi1, fi2, fi3, fi4⟩ := HFo.out
  clear hf hsd HFi HJF HJF0 HFo hL
  obtain ⟨d, k, ba, bn, bc, bz, sa, sn, sc, ss⟩ := f
  obtain ⟨cl, a1, n1, c1, y1, a2, n2, c2, y2, a3, n3, c3, y3, a4, n4, c4, y4⟩ := sd
  simp only [forestV, seedV] at *
  go_enter Tryd.func6, Tryd.ntmps6
  go_upto_region 1 with fail
  go_cut [5] (fun p wc => ∃ w1 h m, p = .pointer (some ⟨h, 0, none⟩) ∧ Made w0 w1 wc h m)
  case first =>
    go_wp2_with (first | (go_at_call 11; refine HM.out.mono ?_; rintro e w1 ⟨m, rfl, hr, h3, h4, hfr, hj⟩; have HMd := hid (GotM.made hr h3 h4 hfr hj); clear hr h3 h4 hfr hj))
    go_meet
    case rel => exact ⟨w1, _, m, rfl, HMd.out⟩
  case rest =>
    obtain ⟨w1, h, m, rfl, hMB, hh, hr, hd3, hn4, hfr, hj1, hjc⟩ := hcut
    obtain ⟨w2, rfl⟩ : ∃ z, z = wc := ⟨_, rfl⟩
    have hok := hr.mdok hfr
    have rp : RightP m.pm := right_pm.2 hr
    have HP := hid ((print_m (HL.out.at hj1) hok).at hjc)
    rw [printM_yes rp] at HP
    have HCt := hid (text_count m.pm)
    have HLn : Hid ((textM m.pm).length ≤ 20000) := textM_len rp
    have HMB := hid hMB
    have HJ02 := hid (hj1.trans hjc)
    have HOk := hid (hok.jk hjc)
    have HRm := hid hr
    have hh0 : w0.heap.size ≤ h := Nat.le_trans hj1.below.size hh
    have HTx : Hid (∃ S, textM m.pm = S) := ⟨_, rfl⟩
    clear hMB hok rp hr hfr fi0 fi1 fi2 fi3 fi4 hh hj1 hjc HM
    obtain ⟨D, K', b0, b1, b2, a, n, c, ts⟩ := m
    simp only at hd3 hn4
    obtain ⟨S, hS⟩ := HTx.out
    have HS := hid hS
    rw [hS] at HP HCt HLn
    have hln := HLn.out
    obtain ⟨s, hs⟩ : ∃ s : ByteArray, s = ⟨S.toArray⟩ := ⟨_, rfl⟩
    have HSz : Hid (s.size = S.length) := by rw [hs]; exact text_size S
    have HGet : Hid (∀ j, ∀ h : j < s.size, s[j] = byteAt S j) := fun j h => by subst hs; exact text_byte S j h
    have HZs : Hid (s = ⟨S.toArray⟩) := hs
    simp only [tx] at HP
    rw [← hs] at HP
    obtain ⟨m0, m1, m2, m3, m4, m5, m6⟩ := HMB.out.in
    simp only at m1 m2 m3 m4 m5 m6
    have hsz := HSz.out
    clear hS hs HTx HLn
    go_upto_region 4 with (go_at_call 9; refine (HP.out.on _ (Jk.refl _)).mono ?_; rintro e w3 ⟨rfl, hj3⟩; have HJ3 := hid hj3; clear hj3)
    go_wp2
    go_loopg [22, 7] S.length (fun k i v wr => ∃ j : Nat, i = .int .i64 (j : Int) ∧ v = .int .i64 (((S.take j).count 10 : Nat) : Int) ∧ j + k = S.length ∧ wr = w3)
    case atStart => exact ⟨0, rfl, rfl, by omega, rfl⟩
    case round =>
      obtain ⟨j, rfl, rfl, hj, hw⟩ := hrel
      obtain rfl := hw.symm
      by_cases hk : gk = 0
      · subst hk
        have e : S.take j = S := List.take_of_length_le (by omega)
        rw [e]
        have hjl : ¬ (j : Int) < (S.length : Int) := by omega
        have HV : Hid (((S.count 10 : Nat) : Int) = 2 + (n : Int) + (nodesN (ts.map Tr.pt) : Nat)) := by
          rw [HCt.out]
          have : ts.length = n := HOk.out.is.len
          show _ = _
          simp [Md.pm, this]
        obtain ⟨V, hV⟩ : ∃ V : Int, ((S.count 10 : Nat) : Int) = V := ⟨_, rfl⟩
        rw [hV] at HV ⊢
        have HVc := hid hV
        have HM3 := hid (HMB.out.jk HJ3.out)
        have HT3 : Hid (IsT w3 a n c ts) := HOk.out.is.jk HJ3.out
        clear hV e m0 m1 m2 m3 m4 m5 m6
        obtain ⟨m0, m1, m2, m3, m4, m5, m6⟩ := HM3.out.in
        simp only at m1 m2 m3 m4 m5 m6
        go_wp2
        go_loopg [35, 9] n (fun r i v wr => ∃ j : Nat, i = .int .i64 (j : Int) ∧ v = .int .i64 ((nodesN ((ts.take j).map Tr.pt) : Nat) : Int) ∧ j + r = n ∧ Hid (Jk w3 wr))
        case atStart => exact ⟨0, rfl, rfl, by omega, hid (Jk.refl _)⟩
        case round =>
          obtain ⟨q, rfl, rfl, hq, HJr⟩ := hrel
          clear m0 m1 m2 m3 m4 m5 m6
          by_cases hk2 : gk = 0
          · subst hk2
            obtain rfl : q = n := by omega
            have e : ts.take q = ts := List.take_of_length_le (by have := HT3.out.len; omega)
            rw [e]
            obtain ⟨Nn, hNn⟩ : ∃ N, nodesN (ts.map Tr.pt) = N := ⟨_, rfl⟩
            rw [hNn] at HV ⊢
            have hNb : Nn ≤ 20000 := by
              have h1 := HV.out
              rw [← HVc.out] at h1
              have : S.count 10 ≤ S.length := List.count_le_length
              omega
            obtain rfl := HV.out
            have hw1 : IntKind.i64.wrap (2 + (q : Int)) = 2 + (q : Int) := i64_in (by omega) (by omega)
            have hw2 : IntKind.i64.wrap (2 + (q : Int) + (Nn : Int)) = 2 + (q : Int) + (Nn : Int) := i64_in (by omega) (by omega)
            have HMr := hid (HM3.out.jk HJr.out)
            have HOr := hid (HOk.out.jk (HJ3.out.trans HJr.out))
            have HJ0r : Hid (Jk w0 wr) := HJ02.out.trans (HJ3.out.trans HJr.out)
            have HLr := hid (HL.out.at HJ0r.out)
            obtain ⟨m0, m1, m2, m3, m4, m5, m6⟩ := HMr.out.in
            simp only at m1 m2 m3 m4 m5 m6
            clear e hNn HV HVc HCt
            go_upto_region 17 with fail
            have HJ16 : Hid (Jk wr (wr.alloc (.cells #[.int .i64 D, .int .i64 K', .int .i64 b0, .int .i64 b1, .int .i64 b2, .slice a q c] 32))) := (Jk.refl wr).alloc _
            have HMq : Hid (MdB (wr.alloc (.cells #[.int .i64 D, .int .i64 K', .int .i64 b0, .int .i64 b1, .int .i64 b2, .slice a q c] 32)) wr.heap.size ⟨D, K', b0, b1, b2, a, q, c, ts⟩) := MdB.laid wr ⟨D, K', b0, b1, b2, a, q, c, ts⟩
            generalize wr.alloc (.cells #[.int .i64 D, .int .i64 K', .int .i64 b0, .int .i64 b1, .int .i64 b2, .slice a q c] 32) = w16 at HJ16 HMq ⊢
            obtain ⟨hq', hhq⟩ : ∃ x, wr.heap.size = x := ⟨_, rfl⟩
            have hhlt : h < hq' := by omega
            have hq0 : wr.heap.size ≤ hq' := by omega
            rw [hhq] at HMq ⊢
            clear hhq
            clear m0 m1 m2 m3 m4 m5 m6
            obtain ⟨m0, m1, m2, m3, m4, m5, m6⟩ := (HMr.out.jk HJ16.out).in
            obtain ⟨e0, e1, e2, e3, e4, e5⟩ := HSd.out.jk (HJ0r.out.trans HJ16.out)
            simp only at m1 m2 m3 m4 m5 m6 e1 e2 e3 e4 e5
            have hql := HMq.out.lt
            have HSk16 := hid (HSk.out.jk (HJ0r.out.trans HJ16.out))
            have HT16 : Hid (IsT w16 a q c ts) := HOr.out.is.jk HJ16.out
            have hD := HRm.out.d1
            have hD4 := HRm.out.d4
            simp only at hD hD4
            refine region_mid 10 [1, 2, 4, 5, 6] [0, 3, 7, 8, 9] #[true, true, true, true, true, true, true, true, true, true, false, false, false] (by kernel_rfl) (by kernel_rfl) (fun _ _ d _ _ h => by cases d <;> exact h) ?_
            dsimp only [opersAt, List.getElem?_cons_zero, List.getElem?_cons_succ]
            repeat (go_big_quiet_step (first | exact rfl))
            refine wpQuiet_nil ?_
            intro K1 hK1
            go_simp
            refine hK1 _ _ (((Jk.refl w16).alloc _).drew) ?_
            clear hK1 K1
            intro K2 hK2
            refine wp_app0 (B := w16.heap.size) (.tmp 46) (.tmp 48) rfl (own_empty w16 rfl (Nat.le_refl _)) (by show _ ≤ (w16.alloc _).heap.size; rw [World.size_alloc]; exact Nat.le_succ _) rfl rfl (HT16.out.jk (((Jk.refl w16).alloc _).drew)) (by omega) ?_
            intro gA cA wA hOA hGA
            have HJA : Hid (Jk w16 wA) := (((Jk.refl w16).alloc _).drew).grown hGA (fun k hk => by cases hk; exact Nat.le_refl _)
            have HOA := hid hOA
            have hzA : w16.heap.size < wA.heap.size := Nat.lt_of_lt_of_le (by show _ < (w16.alloc _).heap.size; rw [World.size_alloc]; exact Nat.lt_succ_self _) hGA.size
            clear hOA hGA
            refine hK2 _ _ HJA.out ?_
            clear hK2 K2
            intro K3 hK3
            go_simp
            go_at_call 13
            refine (nodes_any ⟨cl, a1, n1, c1, y1, a2, n2, c2, y2, a3, n3, c3, y3, a4, n4, c4, y4⟩ D wA (HSk16.out.jk HJA.out) hD (by omega)).mono ?_
            rintro e wN ⟨gn, nn, cn, ws, rfl, hIs, hTr, h15, hgn, hjn⟩
            have HIs := hid hIs
            have HTr := hid hTr
            have HJN := hid (HJA.out.trans hjn)
            have HON := hid (HOA.out.jk hjn)
            have hzN := hjn.below.size
            clear hIs hTr hjn
            go_simp
            refine hK3 _ _ HJN.out ?_
            clear hK3 K3
            intro K4 hK4
            go_simp
            refine hK4 _ _ HJN.out ?_
            clear hK4 K4
            intro K5 hK5
            go_simp
            refine hK5 _ _ (HJN.out.alloc _) ?_
            clear hK5 K5
            have HJB : Hid (Jk w16 (wN.alloc (.cells #[.int .i64 0, .slice (some ⟨gn, 0, none⟩) nn cn] 29))) := HJN.out.alloc _
            refine list_appT (ys := [⟨0, some ⟨gn, 0, none⟩, nn, cn, ws⟩]) rfl (.tmp 49) (.tmp 55) rfl (HON.out.jk ((Jk.refl wN).alloc (.cells #[.int .i64 0, .slice (some ⟨gn, 0, none⟩) nn cn] 29))) (by rw [World.size_alloc]; omega) rfl (some ⟨wN.heap.size, 0, none⟩) 1 1 rfl rfl (by decide) ⟨_, _, rfl, new_tree wN _ _ _ _ _ rfl⟩ (by omega) (q + 1) rfl ?_
            intro g6 c6 w6 hO6 hG6 hg6
            have HJ6 : Hid (Jk w16 w6) := HJB.out.grown hG6 (fun k hk => by cases hk; exact (World.ownsRow.lt HON.out.2 _ rfl).1)
            have HIs6 : Hid (IsW w6 (some ⟨gn, 0, none⟩) nn cn ws) := (HIs.out.jk ((Jk.refl wN).alloc _)).kept hG6 (fun g' o e e2 => by
              cases e
              have h1 := (World.ownsRow.lt HOA.out.2 gA rfl).2
              simp [Value.ownBlock] at e2
              omega)
            have HO6 := hid hO6
            have HM6 := hid (HMq.out.jk HJ6.out)
            obtain ⟨z0, z1, z2, z3, z4, z5, z6⟩ := HM6.out.in
            have hzf := HM6.out.frozen
            simp only at z1 z2 z3 z4 z5 z6
            clear hO6 hG6 hg6
            have HSt := hid (fun wz hwz => app_store (w1 := wr) (t := ⟨0, some ⟨gn, 0, none⟩, nn, cn, ws⟩) HMq.out HJ16.out HJ6.out hq0 HOr.out HO6.out hql (fun wz hg => ⟨fit_0, HIs6.out.kept hg (fun g' o e e2 => by cases e; simp at e2; omega)⟩) (wz := wz) hwz)
            go_upto_region 18 with fail
            have hst := HSt.out _ rfl
            simp only at hst
            generalize w6.setCell ⟨hq', 5, none⟩ (.slice (some ⟨g6, 0, none⟩) (q + 1) c6) = w7 at hst ⊢
            have HMz : Hid (MdB w7 hq' ⟨D, K', b0, b1, b2, some ⟨g6, 0, none⟩, q + 1, c6, ts ++ [⟨0, some ⟨gn, 0, none⟩, nn, cn, ws⟩]⟩) := hst.1
            have HOz : Hid (Md.ok w7 ⟨D, K', b0, b1, b2, some ⟨g6, 0, none⟩, q + 1, c6, ts ++ [⟨0, some ⟨gn, 0, none⟩, nn, cn, ws⟩]⟩) := hst.2.1
            have HJz : Hid (Jk wr w7) := hst.2.2
            have rp0 := right_pm.2 HRm.out
            have hpm : Md.pm ⟨D, K', b0, b1, b2, some ⟨g6, 0, none⟩, q + 1, c6, ts ++ [⟨0, some ⟨gn, 0, none⟩, nn, cn, ws⟩]⟩ = ⟨D, K', b0, b1, b2, ts.map Tr.pt ++ [⟨0, ws⟩]⟩ := by simp [Md.pm, Tr.pt]
            have rp : RightP ⟨D, K', b0, b1, b2, ts.map Tr.pt ++ [⟨0, ws⟩]⟩ := ⟨rp0.d1, rp0.d4, rp0.k1, rp0.k3, rp0.bias, by have := HT3.out.len; simp; omega, fun t ht => by
              rcases List.mem_append.1 ht with h | h
              · exact rp0.trees t h
              · simp at h
                subst h
                exact ⟨Int.le_refl 0, by have := rp0.k1; exact this, HTr.out⟩⟩
            have hU : textM ⟨D, K', b0, b1, b2, ts.map Tr.pt ++ [⟨0, ws⟩]⟩ = S ++ treeT ⟨0, ws⟩ := by
              rw [text_more]
              exact congrArg (· ++ treeT ⟨0, ws⟩) HS.out
            have hUl := textM_len rp
            have HLz := hid (HLr.out.at HJz.out)
            have HPu := hid (print_m HLz.out HOz.out)
            rw [hpm, printM_yes rp] at HPu
            have HPy : Hid (∀ P ok, ParseP (textM ⟨D, K', b0, b1, b2, ts.map Tr.pt ++ [⟨0, ws⟩]⟩) P ok → P = ⟨D, K', b0, b1, b2, ts.map Tr.pt ++ [⟨0, ws⟩]⟩ ∧ ok = true) := fun P ok h => h.same (ParseP.yes rp)
            have HPm2 := hid hpm
            rw [hU] at HPu HPy hUl
            have hlU : (S.length : Int) < ((S ++ treeT ⟨0, ws⟩).length : Int) := by
              have := treeT_pos ⟨0, ws⟩
              simp only [List.length_append]
              omega
            have hux : (⟨(S ++ treeT ⟨0, ws⟩).toArray⟩ : ByteArray).extract 0 S.length = s := by
              rw [(text_cut _ _).1, HZs.out]
              simp
            obtain ⟨U, hUe⟩ : ∃ U, S ++ treeT ⟨0, ws⟩ = U := ⟨_, rfl⟩
            rw [hUe] at HPu HPy hUl hlU hux
            have HPs := hid (fun (z : World) (hz : Jk w7 z) => parse_m HLz.out U (by omega) hz)
            obtain ⟨u, hu⟩ : ∃ u : ByteArray, u = ⟨U.toArray⟩ := ⟨_, rfl⟩
            have hus : u.size = U.length := by rw [hu]; exact text_size U
            simp only [tx] at HPu HPs
            rw [← hu] at HPu HPs hux
            obtain ⟨v0, v1, v2, v3, v4, v5, v6⟩ := HMz.out.in
            simp only at v1 v2 v3 v4 v5 v6
            clear hst rp0 hpm rp hU hUe hu m0 m1 m2 m3 m4 m5 m6 e0 e1 e2 e3 e4 e5 z0 z1 z2 z3 z4 z5 z6 hzf HSt
            go_upto_region 20 with (first
              | (go_at_call 9; refine (HPu.out.on _ (Jk.refl _)).mono ?_; rintro e w8 ⟨rfl, hj8⟩; have HJ8 := hid hj8; clear hj8)
              | (go_at_call 8; refine (HPs.out _ HJ8.out).mono ?_; rintro e w9 ⟨⟨x0, x1, x2, x3, x4, x5, x6, x7, x8⟩, ok, rfl, hok, hpp, hj9⟩; obtain ⟨hpx, rfl⟩ := HPy.out _ _ hpp; have HPx := hid hpx; have HO9 := hid hok; have HJ9 := hid (HJ8.out.trans hj9); clear hpx hok hpp hj9))
            have HJ10 : Hid (Jk w9 (w9.alloc (.cells #[.int .i64 x0, .int .i64 x1, .int .i64 x2, .int .i64 x3, .int .i64 x4, .slice x5 x6 x7] 32))) := (Jk.refl w9).alloc _
            have HM10 : Hid (MdB (w9.alloc (.cells #[.int .i64 x0, .int .i64 x1, .int .i64 x2, .int .i64 x3, .int .i64 x4, .slice x5 x6 x7] 32)) w9.heap.size ⟨x0, x1, x2, x3, x4, x5, x6, x7, x8⟩) := MdB.laid w9 ⟨x0, x1, x2, x3, x4, x5, x6, x7, x8⟩
            generalize w9.alloc (.cells #[.int .i64 x0, .int .i64 x1, .int .i64 x2, .int .i64 x3, .int .i64 x4, .slice x5 x6 x7] 32) = wE at HJ10 HM10 ⊢
            have HJE : Hid (Jk w7 wE) := HJ9.out.trans HJ10.out
            have HMs := hid (models_ans (b := true) (HO9.out.jk HJ10.out) (HOz.out.jk HJE.out) ⟨fun _ => by rw [HPx.out, HPm2.out], fun _ => rfl⟩)
            have HRn := hid (runs_ans (HLz.out.at HJE.out))
            clear v0 v1 v2 v3 v4 v5 v6
            obtain ⟨v0, v1, v2, v3, v4, v5, v6⟩ := (HMz.out.jk HJE.out).in
            obtain ⟨p0, p1, p2, p3, p4, p5, p6⟩ := HM10.out.in
            obtain ⟨m0, m1, m2, m3, m4, m5, m6⟩ := (HMr.out.jk (HJz.out.trans HJE.out)).in
            simp only at v1 v2 v3 v4 v5 v6 p1 p2 p3 p4 p5 p6 m1 m2 m3 m4 m5 m6
            simp only [modelV] at HMs
            go_wp2_with (first
              | (go_at_call 10; refine (HMs.out.on _ (by repeat (with_reducible first | exact Jk.refl _ | apply Jk.junk))).mono ?_; rintro e wG ⟨rfl, X10, rfl⟩)
              | (go_at_call 3; refine (HRn.out.on _ (by repeat (with_reducible first | exact Jk.refl _ | apply Jk.junk))).mono ?_; rintro e wG ⟨rfl, X11, rfl⟩))
            go_ret
            exact ⟨rfl, by repeat (with_reducible first | exact HJ0.out.trans (HJ0r.out.trans (HJz.out.trans HJE.out)) | apply Jk.junk)⟩
          · obtain ⟨r, rfl⟩ : ∃ r, gk = r + 1 := ⟨gk - 1, by omega⟩
            have hlt : (q : Int) < (n : Int) := by omega
            have hql : q < ts.length := by have := HT3.out.len; omega
            have HNx : Hid (nodesN ((ts.take (q + 1)).map Tr.pt) = nodesN ((ts.take q).map Tr.pt) + (tA ts q).n) := by
              have e : tA ts q = ts[q] := by simp [tA, hql]
              have h1 := (HT3.out.all q (by omega)).is.len
              rw [List.take_succ_eq_append_getElem hql, List.map_append, ← e]
              show nodesN (_ ++ [Tr.pt (tA ts q)]) = _
              rw [nodesN_snoc]
              show _ + (tA ts q).ws.length = _
              rw [h1]
            obtain ⟨g, o, rfl, hg, hat⟩ := HT3.out.lies (by omega)
            have hgr : g < wr.heap.size := Nat.lt_of_lt_of_le hg HJr.out.below.size
            obtain ⟨k0, k1⟩ := (hat.jk HJr.out hg) q hql
            have hok := HT3.out.all q (by omega)
            have hcap := hok.is.cap
            have hmax := hok.is.max
            have hsm : nodesN ((ts.take q).map Tr.pt) ≤ 31 * q := by
              have : ∀ l : List Pt, (∀ t, t ∈ l → t.ws.length ≤ 31) → nodesN l ≤ 31 * l.length := fun l => by
                induction l with
                | nil => intro _; simp [nodesN]
                | cons t l ih =>
                  intro h
                  have h1 := h t (by simp)
                  have h2 := ih (fun x hx => h x (by simp [hx]))
                  simp only [nodesN, List.length_cons]
                  omega
              have h3 := this ((ts.take q).map Tr.pt) (fun t ht => by
                have hmem := (right_pm.2 HRm.out).trees t (by
                  obtain ⟨x, hx, rfl⟩ := List.mem_map.1 ht
                  exact List.mem_map.2 ⟨x, List.mem_of_mem_take hx, rfl⟩)
                exact hmem.tree.few)
              have h4 : ((ts.take q).map Tr.pt).length ≤ q := by simp; omega
              omega
            have hn31 : (tA ts q).n ≤ 31 := by
              have h1 := hok.is.len
              have h2 := (HRm.out.trees.2 q hql).tree.few
              simp only at h2
              omega
            obtain ⟨t, ht⟩ : ∃ t, tA ts q = t := ⟨_, rfl⟩
            obtain ⟨M, hM⟩ : ∃ M, nodesN ((ts.take q).map Tr.pt) = M := ⟨_, rfl⟩
            rw [ht] at k0 k1 hok HNx hn31
            rw [hM] at HNx hsm
            obtain ⟨tcl, ta, tn, tc, tw⟩ := t
            simp only at k0 k1 hn31
            have hwr : IntKind.i64.wrap ((M : Int) + (tn : Int)) = (M : Int) + (tn : Int) := i64_in (by omega) (by omega)
            rw [hM]
            clear hat ht hM hcap hmax hok
            go_wp2
            go_roundg r
            case measure => omega
            case rel => exact ⟨q + 1, by go_num, by rw [HNx.out]; simp, by omega, by repeat (with_reducible first | exact HJr | apply hid | exact HJr.out | apply Jk.alloc)⟩
      · have hjl : j < S.length := by omega
        have hlt : (j : Int) < (S.length : Int) := by omega
        have HNx := hid (count_next S j hjl)
        have hg := HGet.out j (by omega)
        have hcl : (S.take j).count 10 ≤ S.length := Nat.le_trans (List.count_le_length) (by simp; omega)
        obtain ⟨b, hb⟩ : ∃ b, byteAt S j = b := ⟨_, rfl⟩
        obtain ⟨V, hV⟩ : ∃ V, (S.take j).count 10 = V := ⟨_, rfl⟩
        rw [hb] at hg HNx
        rw [hV] at HNx hcl ⊢
        have hwr : IntKind.i64.wrap ((V : Int) + 1) = (V : Int) + 1 := i64_in (by omega) (by omega)
        clear hb hV
        by_cases hc : b = 10
        · subst hc
          go_wp2
          go_roundg (gk - 1)
          case measure => omega
          case rel => exact ⟨j + 1, by go_num, by rw [HNx.out]; simp, by omega, rfl⟩
        · have hi1 : ¬ ((b.toNat : Int) = 10) := fun h => hc (UInt8.toNat_inj.1 (show b.toNat = 10 by omega))
          have hb1 : ((b.toNat : Int) == 10) = false := by simpa using hi1
          go_wp2
          go_roundg (gk - 1)
          case measure => omega
          case rel => exact ⟨j + 1, by go_num, by rw [HNx.out, if_neg hc]; simp, by omega, rfl⟩

theorem textLines_walk (f : Fo) (sd : Seed) (w : World) (hf : f.ok w) (hsd : sd.ok w) (hE : Env w) : Calls Tryd.prog 6 #[forestV f, seedV sd] w fun e w' => e = .returned (.bool true) ∧ Jk w w' := textLines_walk0 f sd w (lib_p hE) hf hsd

end Go.Proofs.YtfabodbcdnmpmaaDoor
