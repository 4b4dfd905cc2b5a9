/- What the document's own Print of chapter 9 answers, for every model: the model's text, or none. -/
import Derived.Test.YtfabodbcdnmpmaaGreatDoorRefNum
import Derived.Test.YtfabodbcdnmpmaaGreatDoorRefModel
import Derived.Test.YtfabodbcdnmpmaaGreatDoorRefNode3
import Derived.Test.YtfabodbcdnmpmaaGreatDoorTextW
namespace Go.Proofs.YtfabodbcdnmpmaaGreatDoor
open Go.RowKit M

theorem num_w {n : Int} (h0 : 0 ≤ n) (h1 : n ≤ 1000) (w : World) : AnsW w 25 #[.int .i64 n] (.string ⟨(dg n).toArray⟩) := fun w1 _ => by
  obtain ⟨k, rfl⟩ := Int.eq_ofNat_of_zero_le h0
  exact num_any k w1 (by omega)
theorem rprint_w {n : Int} (h : fit32 n = true) (w : World) : AnsW w 26 #[.int .i64 n] (.string ⟨(printL n).toArray⟩) := fun w1 _ =>
  (rprint_any n w1 (by have := fit32_of h; omega) (by have := fit32_of h; omega)).mono fun _ _ ⟨e, hb⟩ => ⟨e, Jk.of_below hb⟩
theorem text_plus (a b : Txt) : (⟨a.toArray⟩ : ByteArray) ++ ⟨b.toArray⟩ = ⟨(a ++ b).toArray⟩ := text_app a b
/-- the head of a model's text without its biases -/
def headT (td tk : Txt) : Txt := kForest ++ (td ++ (32 :: (tk ++ kBias)))
theorem bytes_leaf (T t : Txt) : (⟨T.toArray⟩ : ByteArray) ++ ⟨#[108, 101, 97, 102, 32]⟩ ++ ⟨t.toArray⟩ ++ ⟨#[10]⟩ = ⟨(T ++ (kLeaf ++ (t ++ [10]))).toArray⟩ := by
  rw [show (⟨#[108, 101, 97, 102, 32]⟩ : ByteArray) = ⟨kLeaf.toArray⟩ from rfl, show (⟨#[10]⟩ : ByteArray) = ⟨([10] : Txt).toArray⟩ from rfl, text_app, text_app, text_app]
  simp only [List.append_assoc]
theorem bytes_fork (T f a l r : Txt) : (⟨T.toArray⟩ : ByteArray) ++ ⟨#[105, 102, 32]⟩ ++ ⟨f.toArray⟩ ++ ⟨#[32, 60, 61, 32]⟩ ++ ⟨a.toArray⟩ ++ ⟨#[32, 116, 104, 101, 110, 32]⟩ ++ ⟨l.toArray⟩ ++ ⟨#[32, 101, 108, 115, 101, 32]⟩ ++ ⟨r.toArray⟩ ++ ⟨#[10]⟩ = ⟨(T ++ (kIf ++ (f ++ (kLe ++ (a ++ (kThen ++ (l ++ (kElse ++ (r ++ [10]))))))))).toArray⟩ := by
  rw [show (⟨#[105, 102, 32]⟩ : ByteArray) = ⟨kIf.toArray⟩ from rfl, show (⟨#[32, 60, 61, 32]⟩ : ByteArray) = ⟨kLe.toArray⟩ from rfl, show (⟨#[32, 116, 104, 101, 110, 32]⟩ : ByteArray) = ⟨kThen.toArray⟩ from rfl, show (⟨#[32, 101, 108, 115, 101, 32]⟩ : ByteArray) = ⟨kElse.toArray⟩ from rfl, show (⟨#[10]⟩ : ByteArray) = ⟨([10] : Txt).toArray⟩ from rfl]
  simp only [text_app, List.append_assoc]
theorem bytes_tree (T c n : Txt) : (⟨T.toArray⟩ : ByteArray) ++ ⟨#[116, 114, 101, 101, 32]⟩ ++ ⟨c.toArray⟩ ++ ⟨#[32]⟩ ++ ⟨n.toArray⟩ ++ ⟨#[10]⟩ = ⟨(T ++ (kTree ++ (c ++ (32 :: (n ++ [10]))))).toArray⟩ := by
  rw [show (⟨#[116, 114, 101, 101, 32]⟩ : ByteArray) = ⟨kTree.toArray⟩ from rfl, show (⟨#[32]⟩ : ByteArray) = ⟨([32] : Txt).toArray⟩ from rfl, show (⟨#[10]⟩ : ByteArray) = ⟨([10] : Txt).toArray⟩ from rfl]
  simp only [text_app, List.append_assoc]
  rfl
theorem biasT_next (m : Pm) (j : Nat) : biasT m (j + 1) = biasT m j ++ (32 :: printL (m.b j)) := rfl

set_option maxRecDepth 100000 in
set_option maxHeartbeats 3200000 in
theorem rprint_m {wb : World} {m : Md} (hm : m.ok wb) : AnsW wb 8 #[modelV m] (tx (printM m.pm)) := fun w hw => by
  have J := rules8
  obtain ⟨rb, hrb⟩ := right_bool m
  have HR := hid ((rrightM_ans hm hrb).at hw)
  have hok := hm.jk hw
  obtain ⟨d, k, b0, b1, b2, a, n, c, ts⟩ := m
  obtain ⟨w0, hw0⟩ : ∃ w0, w.alloc (.cells #[.int .i64 d, .int .i64 k, .int .i64 b0, .int .i64 b1, .int .i64 b2, .slice a n c] 25) = w0 := ⟨_, rfl⟩
  have HI : Hid (MdIn w0 w.heap.size ⟨d, k, b0, b1, b2, a, n, c, ts⟩) := hw0 ▸ MdIn.laid w ⟨d, k, b0, b1, b2, a, n, c, ts⟩ _
  have HJ0 : Hid (Jk w w0) := hw0 ▸ (Jk.refl w).alloc _
  obtain ⟨s1, c0, c1, c2, c3, c4, c5⟩ := HI.out
  simp only at c0 c1 c2 c3 c4 c5
  cases rb
  · have hr : ¬ RightP (Md.pm ⟨d, k, b0, b1, b2, a, n, c, ts⟩) := fun h => by
      have := hrb.2 (right_pm.1 h)
      cases this
    rw [printM_no hr]
    clear hok hrb hr hm hw
    go_enter Tryz.func8, Tryz.ntmps8
    go_wp2_with (go_at_call 24; refine (HR.out.on _ HJ0.out).mono ?_; rintro e w1 ⟨rfl, X, rfl⟩)
    go_ret
    exact ⟨rfl, HJ0.out.junk X⟩
  · have hr : RightP (Md.pm ⟨d, k, b0, b1, b2, a, n, c, ts⟩) := right_pm.2 (hrb.1 rfl)
    rw [printM_yes hr]
    have HT : Hid (IsT w0 a n c ts) := hok.is.jk HJ0.out
    have hn : ts.length = n := HT.out.len
    have htr := hr.trees
    simp only [Md.pm] at htr
    have hd1 := hr.d1
    have hd4 := hr.d4
    have hk1 := hr.k1
    have hk3 := hr.k3
    simp only [Md.pm] at hd1 hd4 hk1 hk3
    obtain ⟨K, rfl⟩ := Int.eq_ofNat_of_zero_le (show 0 ≤ k by omega)
    have HD := hid (num_w (n := d) (by omega) (by omega) w0)
    have HK := hid (num_w (n := (K : Int)) (by omega) (by omega) w0)
    have HF := hid (bias_fit32 hr)
    have HTr := hid htr
    have hl1 := dg_len (n := d) (by omega)
    have hl2 := dg_len (n := (K : Int)) (by omega)
    have H8 : Hid (n ≤ 8) := by
      have h := hr.len
      simp only [Md.pm, List.length_map] at h
      show _ ≤ _
      omega
    have HBL := hid (fun j => biasT_len hr j)
    have HTL : Hid (∀ q, (treesT ((ts.take q).map Tr.pt)).length ≤ 16000) := fun q => by
      have h1 := treesT_len (K : Int) d hk3 ((ts.take q).map Tr.pt) (fun t ht => by
        obtain ⟨x, hx, rfl⟩ := List.mem_map.1 ht
        exact htr _ (List.mem_map.2 ⟨x, List.mem_of_mem_take hx, rfl⟩))
      have h2 := hr.len
      simp only [Md.pm, List.length_map] at h2
      have h3 : ((ts.take q).map Tr.pt).length ≤ 8 := by simp; omega
      omega
    obtain ⟨td, htd⟩ : ∃ t, dg d = t := ⟨_, rfl⟩
    obtain ⟨tk, htk⟩ : ∃ t, dg (K : Int) = t := ⟨_, rfl⟩
    have HX2 : Hid (textM (Md.pm ⟨d, K, b0, b1, b2, a, n, c, ts⟩) = ((headT td tk ++ biasT (Md.pm ⟨d, K, b0, b1, b2, a, n, c, ts⟩) K) ++ [10]) ++ treesT (ts.map Tr.pt)) := by
      rw [textM_split, ← htd, ← htk]
      show _ = _
      simp [headT, Md.pm]
    obtain ⟨P, hP⟩ : ∃ P, Md.pm ⟨d, (K : Int), b0, b1, b2, a, n, c, ts⟩ = P := ⟨_, rfl⟩
    have HB0 : Hid (P.b 0 = b0 ∧ P.b 1 = b1 ∧ P.b 2 = b2) := by rw [← hP]; exact ⟨rfl, rfl, rfl⟩
    rw [hP] at HF HX2 HBL ⊢
    rw [htd] at HD hl1
    rw [htk] at HK hl2
    have HM := hid hn
    have hHd : (⟨#[102, 111, 114, 101, 115, 116, 32]⟩ : ByteArray) ++ ⟨td.toArray⟩ ++ ⟨#[32]⟩ ++ ⟨tk.toArray⟩ ++ ⟨#[10, 98, 105, 97, 115]⟩ = ⟨(headT td tk).toArray⟩ := by
      rw [show (⟨#[102, 111, 114, 101, 115, 116, 32]⟩ : ByteArray) = ⟨kForest.toArray⟩ from rfl, show (⟨#[32]⟩ : ByteArray) = ⟨([32] : Txt).toArray⟩ from rfl, show (⟨#[10, 98, 105, 97, 115]⟩ : ByteArray) = ⟨kBias.toArray⟩ from rfl, text_app, text_app, text_app, text_app]
      simp [headT]
    have HHd := hid hHd
    have HA : Hid (∀ j, j < K → ∀ wr, Jk w0 wr → wr.cell? ⟨w.heap.size, 2 + j, none⟩ = some (.int .i64 (P.b j))) := fun j hj wr hjk => by
      obtain ⟨s1, c0, c1, c2, c3, c4, c5⟩ := HI.out.jk hjk
      obtain ⟨e0, e1, e2⟩ := HB0.out
      have : j = 0 ∨ j = 1 ∨ j = 2 := by omega
      rcases this with rfl | rfl | rfl
      · rw [e0]; exact c2
      · rw [e1]; exact c3
      · rw [e2]; exact c4
    clear hrb hm hw hr htr hn htd htk hHd hP
    go_enter Tryz.func8, Tryz.ntmps8
    go_upto_region 3 with (go_at_call 24; refine (HR.out.on _ HJ0.out).mono ?_; rintro e w1 ⟨rfl, X, rfl⟩)
    have HJ1 : Hid (Jk w0 (junk w0 X)) := (Jk.refl w0).junk X
    clear hw0
    generalize junk w0 X = w1 at HJ1 ⊢
    have HD1 := hid (HD.out.at HJ1.out)
    have HK1 := hid (HK.out.at HJ1.out)
    clear HD HK s1 c0 c1 c2 c3 c4 c5
    obtain ⟨s1, c0, c1, c2, c3, c4, c5⟩ := HI.out.jk HJ1.out
    simp only at c0 c1 c2 c3 c4 c5
    refine region_junk (by kernel_rfl) (by kernel_rfl) ?_
    repeat (go_big_quiet_step (first | (go_at_call 25; exact AnsW.junk (by with_reducible first | exact HD1.out | exact HK1.out) _) | exact rfl))
    refine wpQuiet_nil ?_
    rintro _ ⟨Y, rfl⟩
    rw [HHd.out]
    have HJ2 : Hid (Jk w0 (junk w1 Y)) := HJ1.out.junk Y
    generalize junk w1 Y = w2 at HJ2 ⊢
    clear s1 c0 c1 c2 c3 c4 c5 HD1 HK1 HHd
    obtain ⟨H0, hH0⟩ : ∃ H, headT td tk = H := ⟨_, rfl⟩
    have hHl : H0.length ≤ 20 := by rw [← hH0]; simp [headT, kForest, kBias]; omega
    rw [hH0] at HX2 ⊢
    clear hH0 hl1 hl2
    obtain ⟨s1, c0, c1, c2, c3, c4, c5⟩ := HI.out.jk HJ2.out
    simp only at c0 c1 c2 c3 c4 c5
    go_upto_region 5 with fail
    go_loopg [26, 3] K (fun r i v wr => ∃ (j : Nat), i = .int .i64 (j : Int) ∧ j + r = K ∧ v = .string ⟨(H0 ++ biasT P j).toArray⟩ ∧ Hid (Jk w0 wr))
    case atStart => exact ⟨0, rfl, by omega, by simp [biasT], HJ2⟩
    case round =>
      obtain ⟨j, rfl, hj, rfl, HJ⟩ := hrel
      clear s1 c0 c1 c2 c3 c4 c5 HJ2
      by_cases hk : gk = 0
      · subst hk
        obtain rfl : j = K := by omega
        have hn : ts.length = n := HM.out
        have h8 := H8.out
        have hbl := HBL.out j
        obtain ⟨s1, c0, c1, c2, c3, c4, c5⟩ := HI.out.jk HJ.out
        simp only at c0 c1 c2 c3 c4 c5
        have hcat : (⟨(H0 ++ biasT P j).toArray⟩ : ByteArray) ++ ⟨#[10]⟩ = ⟨((H0 ++ biasT P j) ++ [10]).toArray⟩ := text_app _ [10]
        have HCat := hid hcat
        clear hcat
        go_upto_region 11 with fail
        rw [HCat.out]
        clear HCat
        obtain ⟨Hd, hHd⟩ : ∃ H, (H0 ++ biasT P j) ++ [10] = H := ⟨_, rfl⟩
        have hHd2 : Hd.length ≤ 200 := by rw [← hHd]; simp; omega
        rw [hHd] at HX2 ⊢
        clear hHd hHl hbl
        go_loopg [43, 3] n (fun r i v wr => ∃ (q : Nat), i = .int .i64 (q : Int) ∧ q + r = n ∧ v = .string ⟨(Hd ++ treesT ((ts.take q).map Tr.pt)).toArray⟩ ∧ Hid (Jk w0 wr))
        case atStart => exact ⟨0, rfl, by omega, by simp [treesT], HJ⟩
        case round =>
          obtain ⟨q, rfl, hq, rfl, HJq⟩ := hrel
          clear s1 c0 c1 c2 c3 c4 c5 HJ
          by_cases hk0 : gk = 0
          · subst hk0
            obtain rfl : q = n := by omega
            rw [List.take_of_length_le (by omega), ← HX2.out]
            go_wp2
            go_ret
            exact ⟨rfl, HJ0.out.trans HJq.out⟩
          · obtain ⟨r, rfl⟩ : ∃ r, gk = r + 1 := ⟨gk - 1, by omega⟩
            have hlt : (q : Int) < (n : Int) := by omega
            have hql : q < ts.length := by omega
            obtain ⟨g, o, rfl, hg, hat⟩ := HT.out.lies (by omega)
            have hgr : g < wr.heap.size := Nat.lt_of_lt_of_le hg HJq.out.below.size
            obtain ⟨k0, k1⟩ := (hat.jk HJq.out hg) q hql
            have hok := HT.out.all q (by omega)
            have hPt : PtP j d (tA ts q).pt := by
              have e : tA ts q = ts[q] := by simp [tA, hql]
              rw [e]
              exact HTr.out _ (List.mem_map.2 ⟨_, List.getElem_mem hql, rfl⟩)
            have HN := hid (treesT_next ts q hql)
            obtain ⟨t, ht⟩ : ∃ t, tA ts q = t := ⟨_, rfl⟩
            rw [ht] at k0 k1 hok hPt HN
            clear ht hat
            obtain ⟨cl, ta, tn, tc, tw⟩ := t
            simp only at k0 k1
            have hlo := hPt.lo
            have hhi := hPt.hi
            have hun := hPt.tree.un
            have hfew := hPt.tree.few
            simp only [Tr.pt] at hlo hhi hun hfew
            have HIw := hid hok.is
            simp only at HIw
            have htl : tw.length = tn := HIw.out.len
            have HCn := hid (num_w (n := cl) hlo (by omega) w0)
            have HNn := hid (num_w (n := (tn : Int)) (by omega) (by omega) w0)
            have HU := hid hun
            obtain ⟨t1, ht1⟩ : ∃ t, dg cl = t := ⟨_, rfl⟩
            obtain ⟨t2, ht2⟩ : ∃ t, dg (tn : Int) = t := ⟨_, rfl⟩
            rw [ht1] at HCn
            rw [ht2] at HNn
            have hd1 := dg_len (n := cl) (by omega)
            have hd2 := dg_len (n := (tn : Int)) (by omega)
            rw [ht1] at hd1
            rw [ht2] at hd2
            have htq := HTL.out q
            obtain ⟨V, hV⟩ : ∃ V, Hd ++ treesT ((ts.take q).map Tr.pt) = V := ⟨_, rfl⟩
            have hVl : V.length ≤ 17000 := by rw [← hV, List.length_append]; omega
            have HN2 : Hid (Hd ++ treesT ((ts.take (q + 1)).map Tr.pt) = (V ++ (kTree ++ (t1 ++ (32 :: (t2 ++ [10]))))) ++ nodesT tw) := by
              rw [HN.out, ← hV, ← ht1, ← ht2, ← htl]
              show _ = _
              simp [treeT, Tr.pt]
            rw [hV]
            clear hV ht1 ht2 hun hok hPt HN hlo hhi htq
            go_upto_region 13 with fail
            have HJ5 : Hid (Jk wr (wr.alloc (.cells #[.int .i64 cl, .slice ta tn tc] 44))) := (Jk.refl wr).alloc _
            have HB5 : Hid (TkB (wr.alloc (.cells #[.int .i64 cl, .slice ta tn tc] 44)) wr.heap.size cl ta tn tc) := TkB.laid wr cl ta tn tc
            generalize wr.alloc (.cells #[.int .i64 cl, .slice ta tn tc] 44) = w5 at HJ5 HB5 ⊢
            have HC5 := hid (HCn.out.at (HJq.out.trans HJ5.out))
            have HN5 := hid (HNn.out.at (HJq.out.trans HJ5.out))
            have d0 := HB5.out.c0
            have d1 := HB5.out.c1
            have dl := HB5.out.lt
            clear k0 k1 HCn HNn
            refine region_junk (by kernel_rfl) (by kernel_rfl) ?_
            repeat (go_big_quiet_step (first | (go_at_call 25; exact AnsW.junk (by with_reducible first | exact HC5.out | exact HN5.out) _) | exact rfl))
            refine wpQuiet_nil ?_
            rintro _ ⟨Y5, rfl⟩
            rw [bytes_tree]
            have HJ6 : Hid (Jk w0 (junk w5 Y5)) := (HJq.out.trans HJ5.out).junk Y5
            have HB6 : Hid (TkB (junk w5 Y5) wr.heap.size cl ta tn tc) := HB5.out.jk ((Jk.refl w5).junk Y5)
            generalize junk w5 Y5 = w6 at HJ6 HB6 ⊢
            obtain ⟨T1, hT1⟩ : ∃ T, V ++ (kTree ++ (t1 ++ (32 :: (t2 ++ [10])))) = T := ⟨_, rfl⟩
            have hT1l : T1.length ≤ 17100 := by rw [← hT1]; simp [kTree]; omega
            rw [hT1] at HN2 ⊢
            clear d0 d1 dl HB5 HC5 HN5 hT1 hd1 hd2 hVl
            have d0 := HB6.out.c0
            have d1 := HB6.out.c1
            have dl := HB6.out.lt
            go_upto_region 15 with fail
            go_loopg [63, 3] tn (fun r2 i v wx => ∃ (z : Nat), i = .int .i64 (z : Int) ∧ z + r2 = tn ∧ v = .string ⟨(T1 ++ nodesT (tw.take z)).toArray⟩ ∧ Hid (Jk w0 wx))
            case atStart => exact ⟨0, rfl, by omega, by simp [nodesT], HJ6⟩
            case round =>
              obtain ⟨z, rfl, hz, rfl, HJz⟩ := hrel
              clear d0 d1 dl HB6 HJ6
              by_cases hk2 : gk = 0
              · subst hk2
                obtain rfl : z = tn := by omega
                rw [List.take_of_length_le (by omega), ← HN2.out]
                go_wp2
                go_roundg r
                case measure => omega
                case rel => exact ⟨q + 1, by go_num, by omega, rfl, HJz⟩
              · obtain ⟨r2, rfl⟩ : ∃ r2, gk = r2 + 1 := ⟨gk - 1, by omega⟩
                have hlt2 : (z : Int) < (tn : Int) := by omega
                have hzl : z < tw.length := by omega
                obtain ⟨g1, o1, rfl, hg1, hat1⟩ := HIw.out.lies (by omega)
                have hgr1 : g1 < wr.heap.size := Nat.lt_of_lt_of_le hg1 HJz.out.below.size
                have hce := (hat1.jk HJz.out hg1) z hzl
                have hbd := HIw.out.bd z (by omega)
                have hub : unB (wd tw z) = true := by
                  have : wd tw z ∈ tw := by simp [wd, hzl]
                  exact HU.out _ this
                have HXn := hid (nodesT_next tw z hzl)
                obtain ⟨y, hy⟩ : ∃ y, wd tw z = y := ⟨_, rfl⟩
                rw [hy] at hce hbd hub HXn
                have hrt := (un_of hub).1
                have HUn := hid (runpack_ans y hbd.1 hbd.2)
                obtain ⟨x, hx⟩ : ∃ x, unI y = x := ⟨_, rfl⟩
                rw [hx] at HUn hrt HXn
                rw [hub] at HUn
                obtain ⟨lf, xv, xf, xa, xl, xr⟩ := x
                simp only [nodeV] at HUn
                have hrx := Nd.right_iff.1 hrt
                have hnl := nodesT_len (tw.take z) (fun w hw => HU.out w (List.mem_of_mem_take hw))
                have hnl2 : (tw.take z).length ≤ 31 := by simp; omega
                obtain ⟨V2, hV2⟩ : ∃ V, T1 ++ nodesT (tw.take z) = V := ⟨_, rfl⟩
                have hV2l : V2.length ≤ 20000 := by rw [← hV2, List.length_append]; omega
                have HX3 : Hid (T1 ++ nodesT (tw.take (z + 1)) = V2 ++ nodeT ⟨lf, xv, xf, xa, xl, xr⟩) := by rw [HXn.out, ← hV2]; show _ = _; simp
                rw [hV2]
                clear hy hx hub hat1 hV2 hrt HXn hnl hnl2
                go_upto_region 18 with (go_at_call 27; refine (HUn.out.on _).mono ?_; rintro e w7 ⟨rfl, X7, rfl⟩)
                have HJ8 : Hid (Jk wr ((junk wr X7).alloc (.cells #[.bool lf, .int .i64 xv, .int .i64 xf, .int .i64 xa, .int .i64 xl, .int .i64 xr] 53))) := ((Jk.refl wr).junk X7).alloc _
                have HN8 : Hid (NdB ((junk wr X7).alloc (.cells #[.bool lf, .int .i64 xv, .int .i64 xf, .int .i64 xa, .int .i64 xl, .int .i64 xr] 53)) (wr.heap.size + Jn X7) ⟨lf, xv, xf, xa, xl, xr⟩) := by
                  have := NdB.laid (junk wr X7) ⟨lf, xv, xf, xa, xl, xr⟩
                  rw [junk_size] at this
                  exact this
                generalize (junk wr X7).alloc (.cells #[.bool lf, .int .i64 xv, .int .i64 xf, .int .i64 xa, .int .i64 xl, .int .i64 xr] 53) = w8 at HJ8 HN8 ⊢
                generalize wr.heap.size + Jn X7 = h8 at HN8 ⊢
                obtain ⟨n0, n1, n2, n3, n4, n5⟩ := HN8.out.cells
                simp only at n0 n1 n2 n3 n4 n5
                have nl := HN8.out.lt
                clear hce hbd HUn
                cases lf
                · simp only [Nd.Right, Bool.false_eq_true, false_and, false_or, true_and] at hrx
                  obtain ⟨rfl, h1, h2, h3, h4, h5, h6, h7, h8⟩ := hrx
                  have HA1 := hid (num_w (n := xf) h1 (by omega) w8)
                  have HA2 := hid (rprint_w (n := xa) (fit32_yes h3 h4) w8)
                  have HA3 := hid (num_w (n := xl) (by omega) (by omega) w8)
                  have HA4 := hid (num_w (n := xr) (by omega) (by omega) w8)
                  have HNt : Hid (nodeT ⟨false, 0, xf, xa, xl, xr⟩ = kIf ++ (dg xf ++ (kLe ++ (printL xa ++ (kThen ++ (dg xl ++ (kElse ++ (dg xr ++ [10])))))))) := rfl
                  obtain ⟨u1, hu1⟩ : ∃ u, dg xf = u := ⟨_, rfl⟩
                  obtain ⟨u2, hu2⟩ : ∃ u, printL xa = u := ⟨_, rfl⟩
                  obtain ⟨u3, hu3⟩ : ∃ u, dg xl = u := ⟨_, rfl⟩
                  obtain ⟨u4, hu4⟩ : ∃ u, dg xr = u := ⟨_, rfl⟩
                  have e1 := dg_len (n := xf) (by omega)
                  have e2 := print_len (n := xa) (fit32_yes h3 h4)
                  have e3 := dg_len (n := xl) (by omega)
                  have e4 := dg_len (n := xr) (by omega)
                  rw [hu1] at e1
                  rw [hu2] at e2
                  rw [hu3] at e3
                  rw [hu4] at e4
                  rw [hu1, hu2, hu3, hu4] at HNt
                  rw [hu1] at HA1
                  rw [hu2] at HA2
                  rw [hu3] at HA3
                  rw [hu4] at HA4
                  rw [HNt.out] at HX3
                  clear hu1 hu2 hu3 hu4 HNt h1 h2 h3 h4 h5 h6 h7 h8
                  go_upto_region 20 with fail
                  refine region_junk (by kernel_rfl) (by kernel_rfl) ?_
                  repeat (go_big_quiet_step (first | (go_at_call 25; exact AnsW.junk (by with_reducible first | exact HA1.out | exact HA3.out | exact HA4.out) _) | (go_at_call 26; exact AnsW.junk (by with_reducible exact HA2.out) _) | exact rfl))
                  refine wpQuiet_nil ?_
                  rintro _ ⟨Y8, rfl⟩
                  rw [bytes_fork, ← HX3.out]
                  have HJ9 : Hid (Jk w0 (junk w8 Y8)) := (HJz.out.trans HJ8.out).junk Y8
                  generalize junk w8 Y8 = w9 at HJ9 ⊢
                  go_wp2
                  go_roundg r2
                  case measure => omega
                  case rel => exact ⟨z + 1, by go_num, by omega, rfl, HJ9⟩
                · simp only [Nd.Right, Bool.true_eq_false, false_and, or_false, true_and] at hrx
                  obtain ⟨h1, h2, rfl, rfl, rfl, rfl⟩ := hrx
                  have HA2 := hid (rprint_w (n := xv) (fit32_yes h1 h2) w8)
                  have HNt : Hid (nodeT ⟨true, xv, 0, 0, 0, 0⟩ = kLeaf ++ (printL xv ++ [10])) := rfl
                  obtain ⟨u2, hu2⟩ : ∃ u, printL xv = u := ⟨_, rfl⟩
                  have e2 := print_len (n := xv) (fit32_yes h1 h2)
                  rw [hu2] at e2
                  rw [hu2] at HA2 HNt
                  rw [HNt.out] at HX3
                  clear hu2 HNt h1 h2
                  go_wp2_with (go_at_call 26; refine (HA2.out.on _ (Jk.refl _)).mono ?_; rintro e w9 ⟨rfl, hj9⟩; have HJ9 := hid hj9; clear hj9)
                  go_roundg r2
                  case measure => omega
                  case rel => exact ⟨z + 1, by go_num, by omega, by rw [HX3.out, ← bytes_leaf], hid ((HJz.out.trans HJ8.out).trans HJ9.out)⟩
      · obtain ⟨r, rfl⟩ : ∃ r, gk = r + 1 := ⟨gk - 1, by omega⟩
        have hlt : (j : Int) < (K : Int) := by omega
        have hb := HA.out j (by omega) wr HJ.out
        have hsz := (HI.out.jk HJ.out).1
        have HPr := hid (rprint_w (HF.out j) wr)
        have HNx := hid (biasT_next P j)
        obtain ⟨y, hy⟩ : ∃ y, P.b j = y := ⟨_, rfl⟩
        have htl := print_len (HF.out j)
        have hbl := HBL.out j
        rw [hy] at hb HPr HNx htl
        obtain ⟨t, ht⟩ : ∃ t, printL y = t := ⟨_, rfl⟩
        rw [ht] at HPr HNx htl
        obtain ⟨BB, hBB⟩ : ∃ B, biasT P j = B := ⟨_, rfl⟩
        rw [hBB] at hbl HNx ⊢
        clear hy ht hBB
        go_wp2_with (go_at_call 26; refine (HPr.out.on _ (Jk.refl _)).mono ?_; rintro e w3 ⟨rfl, hj3⟩; have HJ3 := hid hj3; clear hj3)
        go_roundg r
        case measure => omega
        case rel =>
          refine ⟨j + 1, by go_num, by omega, ?_, HJ.out.trans HJ3.out⟩
          rw [HNx.out]
          refine congrArg Value.string ?_
          rw [show (⟨#[32]⟩ : ByteArray) = ⟨([32] : Txt).toArray⟩ from rfl, text_app, text_app]
          simp

end Go.Proofs.YtfabodbcdnmpmaaGreatDoor
