/- The lines of a model's text: what appendLine, nodeWords and biasWords of package text answer.
   The line of biases, a tree's lines, a model's text: what biasWords, appendTree and Print of package text answer.
   What Print of package text answers, for every model: its text; none, if it isn't right. -/
import Derived.Test.YtfabodbcdnmpmaaGreatDoorTextK
import Derived.Test.YtfabodbcdnmpmaaGreatDoorMathX
import Derived.Test.YtfabodbcdnmpmaaGreatDoorNodeD
import Derived.Test.YtfabodbcdnmpmaaGreatDoorHeld
import Derived.Test.YtfabodbcdnmpmaaGreatDoorRowsF
import Derived.Laws.Externs
import Derived.Test.YtfabodbcdnmpmaaGreatDoorModelB
import Derived.Test.YtfabodbcdnmpmaaGreatDoorTextU
import Derived.Test.YtfabodbcdnmpmaaGreatDoorDec3
namespace Go.Proofs.YtfabodbcdnmpmaaGreatDoor
open Go.RowKit M

theorem OwnB.jk {B : Nat} {w w' : World} {v : Value} {xs : Txt} (h : OwnB B w v xs) (hj : Jk w w') : OwnB B w' v xs := row_below h hj

set_option maxRecDepth 100000 in
theorem line_any {wb : World} (hL : LibP wb) {B : Nat} {v : Value} {xs : Txt} {g o c n : Nat} {L : List Txt} {w : World} (hown : OwnB B w v xs) (hB : B ≤ w.heap.size) (hS : AtS w g o L) (hg : g < w.heap.size) (hn : L.length = n) (hc : n ≤ c) (h8 : n ≤ 1000) (hl : xs.length + (Lib.join L [32]).length ≤ 900000) :
    Calls Tryz.prog 20 #[v, .slice (some ⟨g, o, none⟩) n c] w fun e w' => ∃ v', e = .returned v' ∧ OwnB B w' v' (xs ++ (Lib.join L [32] ++ [10])) ∧ Below B w w' ∧ NB w w' := by
  have HJ := hid (hL.join w g o n c L hS hg hn hc h8 (by omega))
  have HO := hid hown
  obtain ⟨t, ht⟩ : ∃ t, Lib.join L [32] = t := ⟨_, rfl⟩
  rw [ht] at HJ hl ⊢
  have HB := hid hB
  clear ht hL hown hS hB
  go_enter Tryz.func20, Tryz.ntmps20
  go_wp2_with (first
    | (go_at_call 37; refine HJ.out.mono ?_; rintro e w1 ⟨rfl, hj1⟩; have HJ1 := hid hj1; have HO1 := hid (HO.out.jk hj1); have hB1 : B ≤ w1.heap.size := Nat.le_trans HB.out hj1.below.size; clear hj1)
    | (at_builtin; refine list_text (B := B) rfl _ _ rfl HO1.out hB1 rfl t rfl (by omega) ?_))
  intro v2 w2 o2 b2 s2 nb2
  have HO2 := hid o2
  have HB2 : Hid (Below B w w2) := (HJ1.out.below.mono HB.out).trans b2
  have HN2 : Hid (NB w w2) := (NB.of_jk HJ1.out).trans nb2
  clear o2 b2 nb2
  go_wp2_with (at_builtin; refine list_byteL (B := B) rfl _ _ rfl (HO2.out.alloc _) (by rw [World.size_alloc]; omega) rfl w2.heap.size 1 10 10 rfl rfl (heap_alloc_new _ _) (by simp only [List.length_append]; omega) ?_)
  intro v3 w3 o3 b3 s3 nb3
  have HO3 := hid o3
  have HB3 : Hid (Below B w w3) := (HB2.out.alloc (by omega) _).trans b3
  have HN3 : Hid (NB w w3) := (HN2.out.trans (NB.of_jk ((Jk.refl w2).alloc _))).trans nb3
  clear o3 b3 nb3
  go_wp2
  go_ret
  exact ⟨v3, rfl, HO3.out, HB3.out, HN3.out⟩

/-- texts in a block of their own -/
def GotS (w : World) (L : List Txt) (e : Ending) (w' : World) : Prop := ∃ g c, e = .returned (.slice (some ⟨g, 0, none⟩) L.length c) ∧ L.length ≤ c ∧ AtS w' g 0 L ∧ g < w'.heap.size ∧ Jk w w'

set_option maxRecDepth 100000 in
set_option maxHeartbeats 1600000 in
theorem node_words {wb : World} (hL : LibP wb) {x : Nd} (hx : x.rightB = true) {w : World} (hw : Jk wb w) : Calls Tryz.prog 41 #[nodeV x] w fun e w' => GotS w (nodeW x) e w' := by
  have J := rules8
  have hr := Nd.right_iff.1 hx
  obtain ⟨leaf, v, f, a, l, q⟩ := x
  cases leaf
  · simp only [Nd.Right, Bool.false_eq_true, false_and, false_or, true_and] at hr
    obtain ⟨rfl, h1, h2, h3, h4, h5, h6, h7, h8⟩ := hr
    obtain ⟨w0, hw0⟩ : ∃ w0, w.alloc (.cells #[.bool false, .int .i64 0, .int .i64 f, .int .i64 a, .int .i64 l, .int .i64 q] 53) = w0 := ⟨_, rfl⟩
    have hj0 : Jk w w0 := hw0 ▸ (Jk.refl w).alloc _
    have HF := hid ((hL.itoa f h1 (by omega)).ansW w0)
    have HL := hid ((hL.itoa l (by omega) (by omega)).ansW w0)
    have HQ := hid ((hL.itoa q (by omega) (by omega)).ansW w0)
    have HA := hid ((hL.print a (by omega) (by omega)).at (hw.trans hj0))
    have n0 : w0.cell? ⟨w.heap.size, 0, none⟩ = some (.bool false) := by rw [← hw0]; exact World.cell?_alloc_at _ _ _ _ rfl
    have n2 : w0.cell? ⟨w.heap.size, 2, none⟩ = some (.int .i64 f) := by rw [← hw0]; exact World.cell?_alloc_at _ _ _ _ rfl
    have n3 : w0.cell? ⟨w.heap.size, 3, none⟩ = some (.int .i64 a) := by rw [← hw0]; exact World.cell?_alloc_at _ _ _ _ rfl
    have n4 : w0.cell? ⟨w.heap.size, 4, none⟩ = some (.int .i64 l) := by rw [← hw0]; exact World.cell?_alloc_at _ _ _ _ rfl
    have n5 : w0.cell? ⟨w.heap.size, 5, none⟩ = some (.int .i64 q) := by rw [← hw0]; exact World.cell?_alloc_at _ _ _ _ rfl
    have hlt : w.heap.size < w0.heap.size := by rw [← hw0]; simp
    have HJ0 := hid hj0
    obtain ⟨tf, htf⟩ : ∃ t, dg f = t := ⟨_, rfl⟩
    obtain ⟨tl, htl⟩ : ∃ t, dg l = t := ⟨_, rfl⟩
    obtain ⟨tq, htq⟩ : ∃ t, dg q = t := ⟨_, rfl⟩
    obtain ⟨ta, hta⟩ : ∃ t, printL a = t := ⟨_, rfl⟩
    have HW : Hid (nodeW ⟨false, 0, f, a, l, q⟩ = [[105, 102], tf, [60, 61], ta, [116, 104, 101, 110], tl, [101, 108, 115, 101], tq]) := by rw [← htf, ← htl, ← htq, ← hta]; exact rfl
    rw [htf] at HF
    rw [htl] at HL
    rw [htq] at HQ
    rw [hta] at HA
    clear htf htl htq hta hL hw hj0
    go_enter Tryz.func41, Tryz.ntmps41
    go_upto_region 3 with fail
    refine region_tail 12 #[true, true, true, true, true, true, true, true, true, true, true, true, false, false] (by kernel_rfl) (by decide) (by kernel_rfl) ?_
    dsimp only [List.take, List.drop]
    repeat (go_big_quiet_step (first | (go_at_call 21; exact AnsW.junk (by with_reducible first | exact HF.out | exact HL.out | exact HQ.out) _) | (go_at_call 39; exact AnsW.junk (by with_reducible exact HA.out) _) | exact rfl))
    refine wpQuiet_nil ?_
    rintro _ ⟨X, rfl⟩
    go_wp2
    go_ret
    rw [HW.out]
    refine ⟨_, 8, rfl, Nat.le_refl _, ?_, ?_, (HJ0.out.junk X).alloc _⟩
    · intro i hi
      simp at hi
      have : i = 0 ∨ i = 1 ∨ i = 2 ∨ i = 3 ∨ i = 4 ∨ i = 5 ∨ i = 6 ∨ i = 7 := by omega
      rcases this with rfl | rfl | rfl | rfl | rfl | rfl | rfl | rfl <;> exact new_cells _ _ _ _ (by rw [junk_size]) _ _ rfl
    · rw [World.size_alloc, junk_size]; omega
  · simp only [Nd.Right, Bool.true_eq_false, false_and, or_false, true_and] at hr
    obtain ⟨h1, h2, rfl, rfl, rfl, rfl⟩ := hr
    have HA := hid ((hL.print v (by omega) (by omega)).at hw)
    obtain ⟨ta, hta⟩ : ∃ t, printL v = t := ⟨_, rfl⟩
    have HW : Hid (nodeW ⟨true, v, 0, 0, 0, 0⟩ = [[108, 101, 97, 102], ta]) := by rw [← hta]; exact rfl
    rw [hta] at HA
    clear hta hL hw
    go_enter Tryz.func41, Tryz.ntmps41
    go_wp2_with (go_at_call 39; refine (HA.out.on _ ((Jk.refl w).alloc _)).mono ?_; rintro e w1 ⟨rfl, X, rfl⟩)
    go_ret
    rw [HW.out]
    refine ⟨_, 2, rfl, Nat.le_refl _, ?_, ?_, (((Jk.refl w).alloc _).junk X).alloc _⟩
    · intro i hi
      simp at hi
      have : i = 0 ∨ i = 1 := by omega
      rcases this with rfl | rfl <;> exact new_cells _ _ _ _ (by rw [junk_size, World.size_alloc]) _ _ rfl
    · rw [World.size_alloc, junk_size, World.size_alloc]; omega

end Go.Proofs.YtfabodbcdnmpmaaGreatDoor

namespace Go.Proofs.YtfabodbcdnmpmaaGreatDoor
open Go.RowKit M

theorem lit_own {B b : Nat} (w : World) (cs : Array Value) (e : TypeId) (size n : Nat) (hb : b = w.heap.size) (hB : B ≤ w.heap.size) (hn : n ≤ 1000) (hs : cs.size = n * size) : (w.alloc (.cells cs e)).ownsRow B e size (.slice (some ⟨b, 0, none⟩) n n) n cs.toList := by
  subst hb
  exact World.ownsRow_lit w cs n hB (by unfold maxLen; omega) hs
theorem biasW_next (m : Pm) (j : Nat) : biasW m (j + 1) = biasW m j ++ [printL (m.b j)] := by
  unfold biasW
  rw [List.range_succ, List.map_append]
  rfl
theorem biasW_len (m : Pm) (j : Nat) : (biasW m j).length = j + 1 := by
  unfold biasW
  simp

set_option maxRecDepth 100000 in
set_option maxHeartbeats 1600000 in
theorem bias_words_any {wb : World} (hL : LibP wb) {m : Md} (hr : RightP m.pm) {w : World} (hw : Jk wb w) : Calls Tryz.prog 22 #[modelV m] w fun e w' => GotS w (biasW m.pm m.k.toNat) e w' := by
  have J := rules8
  have hk1 := hr.k1
  have hk3 := hr.k3
  have HF := hid (bias_fit32 hr)
  obtain ⟨d, k, b0, b1, b2, a, n, c, ts⟩ := m
  simp only [Md.pm] at hk1 hk3
  obtain ⟨K, rfl⟩ := Int.eq_ofNat_of_zero_le (show 0 ≤ k by omega)
  obtain ⟨P, hP⟩ : ∃ P, Md.pm ⟨d, (K : Int), b0, b1, b2, a, n, c, ts⟩ = P := ⟨_, rfl⟩
  have HB0 : Hid (P.b 0 = b0 ∧ P.b 1 = b1 ∧ P.b 2 = b2) := by rw [← hP]; exact ⟨rfl, rfl, rfl⟩
  rw [hP] at HF ⊢
  simp only [Int.toNat_natCast]
  obtain ⟨w0, hw0⟩ : ∃ w0, w.alloc (.cells #[.int .i64 d, .int .i64 (K : Int), .int .i64 b0, .int .i64 b1, .int .i64 b2, .slice a n c] 25) = w0 := ⟨_, rfl⟩
  have HI : Hid (MdIn w0 w.heap.size ⟨d, K, b0, b1, b2, a, n, c, ts⟩) := hw0 ▸ MdIn.laid w ⟨d, K, b0, b1, b2, a, n, c, ts⟩ _
  have HJ0 : Hid (Jk w w0) := hw0 ▸ (Jk.refl w).alloc _
  have HL := hid (hL.at (hw.trans HJ0.out))
  have HA : Hid (∀ j, j < K → ∀ wr, Jk w0 wr → wr.cell? ⟨w.heap.size, 2 + j, none⟩ = some (.int .i64 (P.b j))) := fun j hj wr hjk => by
    obtain ⟨s1, c0, c1, c2, c3, c4, c5⟩ := HI.out.jk hjk
    obtain ⟨e0, e1, e2⟩ := HB0.out
    have : j = 0 ∨ j = 1 ∨ j = 2 := by omega
    rcases this with rfl | rfl | rfl
    · rw [e0]; exact c2
    · rw [e1]; exact c3
    · rw [e2]; exact c4
  have HK : Hid (∀ wr, Jk w0 wr → wr.cell? ⟨w.heap.size, 1, none⟩ = some (.int .i64 (K : Int)) ∧ w.heap.size < wr.heap.size) := fun wr hjk => by
    obtain ⟨s1, c0, c1, c2, c3, c4, c5⟩ := HI.out.jk hjk
    exact ⟨c1, s1⟩
  have k1 := (HK.out w0 (Jk.refl _)).1
  have kl := (HK.out w0 (Jk.refl _)).2
  clear hr hL hw hP HB0
  go_enter Tryz.func22, Tryz.ntmps22
  go_upto_region 3 with fail
  have HO0 : Hid (OwnS w0.heap.size (w0.alloc (.cells #[tx [98, 105, 97, 115]] 9)) (.slice (some ⟨w0.heap.size, 0, none⟩) 1 1) 1 (biasW P 0)) := ⟨rfl, lit_own w0 #[tx [98, 105, 97, 115]] 9 1 1 rfl (Nat.le_refl _) (by decide) rfl⟩
  have HJ1 : Hid (Jk w0 (w0.alloc (.cells #[tx [98, 105, 97, 115]] 9))) := (Jk.refl w0).alloc _
  go_loopg [12, 3] K (fun r i v wr => ∃ (j g c : Nat), i = .int .i64 (j : Int) ∧ j + r = K ∧ v = .slice (some ⟨g, 0, none⟩) (j + 1) c ∧ Hid (OwnS w0.heap.size wr (.slice (some ⟨g, 0, none⟩) (j + 1) c) (j + 1) (biasW P j)) ∧ Hid (Jk w0 wr))
  case atStart => exact ⟨0, _, _, rfl, by omega, rfl, HO0, HJ1⟩
  case round =>
    obtain ⟨j, g, c, rfl, hj, rfl, HO, HJ⟩ := hrel
    clear HO0 HJ1 k1 kl
    by_cases hk : gk = 0
    · subst hk
      obtain rfl : j = K := by omega
      go_wp2
      go_ret
      refine ⟨g, c, by rw [biasW_len]; rfl, ?_, HO.out.at, (World.ownsRow.lt HO.out.2 g rfl).2, HJ0.out.trans HJ.out⟩
      obtain ⟨a', c', e, q1, q2, q3⟩ := row_form HO.out.2
      simp only [Value.slice.injEq, true_and] at e
      obtain ⟨_, rfl⟩ := e
      rw [biasW_len]
      exact q1
    · obtain ⟨r, rfl⟩ : ∃ r, gk = r + 1 := ⟨gk - 1, by omega⟩
      have hlt : (j : Int) < (K : Int) := by omega
      have hb := HA.out j (by omega) wr HJ.out
      have hkl := (HK.out wr HJ.out).2
      have hfb := fit32_of (HF.out j)
      have HPr := hid (HL.out.print (P.b j) (by omega) (by omega))
      have HNx := hid (biasW_next P j)
      obtain ⟨y, hy⟩ : ∃ y, P.b j = y := ⟨_, rfl⟩
      rw [hy] at hb HPr HNx
      obtain ⟨t, ht⟩ : ∃ t, printL y = t := ⟨_, rfl⟩
      rw [ht] at HPr HNx
      clear hy ht hfb
      have hsz := HJ.out.below.size
      go_wp2_with (first
        | (go_at_call 39; refine (HPr.out.on _ HJ.out).mono ?_; rintro e w2 ⟨rfl, hj2⟩; have HJ2 := hid hj2; have hz2 := hj2.below.size; clear hj2)
        | (at_builtin; refine list_appS rfl _ _ rfl ((HO.out.jk HJ2.out).jk ((Jk.refl w2).alloc _)) (by rw [World.size_alloc]; omega) rfl w2.heap.size 0 1 1 [t] rfl (by decide) rfl (fun i hi => (by simp at hi; subst hi; exact new_cells w2 #[tx t] _ _ rfl 0 _ rfl)) (by omega) ?_))
      intro g6 c6 w6 hO6 hG6
      have HO6 := hid hO6
      have HG6 : Hid (Jk w0 w6) := ((HJ.out.trans HJ2.out).alloc _).grown hG6 (fun k hk => by have := HO.out.base k hk; omega)
      clear hO6 hG6
      go_wp2
      go_roundg r
      case measure => omega
      case rel => exact ⟨j + 1, g6, c6, by go_num, by omega, rfl, hid (by rw [HNx.out]; exact HO6.out), HG6⟩

theorem nodesT_next (ws : List Int) (j : Nat) (h : j < ws.length) : nodesT (ws.take (j + 1)) = nodesT (ws.take j) ++ nodeT (unI (wd ws j)) := by
  unfold nodesT
  have e : wd ws j = ws[j] := by simp [wd, h]
  rw [List.take_succ_eq_append_getElem h, List.flatMap_append, e]
  simp

set_option maxRecDepth 100000 in
set_option maxHeartbeats 3200000 in
theorem tree_lines {wb : World} (hL : LibP wb) {t : Tr} {k d : Int} (hP : PtP k d t.pt) (hk : k ≤ 3) (hok : t.ok wb) {w : World} (hw : Jk wb w) {v : Value} {xs : Txt} (hO : OwnB wb.heap.size w v xs) (hx : xs.length ≤ 100000) :
    Calls Tryz.prog 23 #[v, trV t] w fun e w' => ∃ v', e = .returned v' ∧ OwnB wb.heap.size w' v' (xs ++ treeT t.pt) ∧ Jk wb w' := by
  have J := rules8
  have hun := hP.tree.un
  have hfew := hP.tree.few
  have hlen := nodesT_len t.pt.ws hun
  have hc0 := hP.lo
  have hc1 := hP.hi
  obtain ⟨cl, a, n, c, ws⟩ := t
  simp only [Tr.pt] at hun hfew hlen hc0 hc1
  have HI := hid hok.is
  simp only at HI
  have hn : ws.length = n := HI.out.len
  have HT : Hid (treeT (Tr.pt ⟨cl, a, n, c, ws⟩) = (kTree ++ (dg cl ++ (32 :: (dg (n : Int) ++ [10])))) ++ nodesT ws) := by rw [← hn]; show _ = _; simp [treeT, Tr.pt]
  have hl1 := dg_len (n := cl) (by omega)
  have hl2 := dg_len (n := (n : Int)) (by omega)
  have HU := hid hun
  obtain ⟨w0, hw0⟩ : ∃ w0, w.alloc (.cells #[.int .i64 cl, .slice a n c] 44) = w0 := ⟨_, rfl⟩
  have HJ0 : Hid (Jk w w0) := hw0 ▸ (Jk.refl w).alloc _
  have HB0 : Hid (TkB w0 w.heap.size cl a n c) := hw0 ▸ TkB.laid w cl a n c
  have HL := hid (hL.at (hw.trans HJ0.out))
  have HW0 := hid (hw.trans HJ0.out)
  have HO0 := hid (hO.jk HJ0.out)
  have c0 := HB0.out.c0
  have c1 := HB0.out.c1
  have hlt := HB0.out.lt
  have HC := hid ((HL.out.itoa cl (by omega) (by omega)).ansW w0)
  have HN := hid ((HL.out.itoa (n : Int) (by omega) (by omega)).ansW w0)
  obtain ⟨tc, htc⟩ : ∃ t, dg cl = t := ⟨_, rfl⟩
  obtain ⟨tn, htn⟩ : ∃ t, dg (n : Int) = t := ⟨_, rfl⟩
  rw [htc] at HC HT hl1
  rw [htn] at HN HT hl2
  have hwb0 : wb.heap.size ≤ w.heap.size := hw.below.size
  have HWb := hid hL
  clear hP hok hw hO hL htc htn hun
  go_enter Tryz.func23, Tryz.ntmps23
  go_upto_region 1 with fail
  refine region_tail2 v 7 #[true, true, true, true, true, true, true, true, false, false, false] (by kernel_rfl) (by decide) (by kernel_rfl) (by kernel_rfl) (by kernel_rfl) (fun _ _ _ h => h) (by rfl) (fun _ => rfl) (by kernel_rfl) ?_
  dsimp only [List.take, List.drop]
  repeat (go_big_quiet_step (first | (go_at_call 21; exact AnsW.junk (by with_reducible first | exact HC.out | exact HN.out) _) | exact rfl))
  refine wpQuiet_nil ?_
  rintro _ ⟨X, rfl⟩
  have HAt : Hid (AtS ((junk w0 X).alloc (.cells #[tx [116, 114, 101, 101], tx tc, tx tn] 9)) (w0.heap.size + Jn X) 0 [[116, 114, 101, 101], tc, tn]) := fun i hi => by
    simp at hi
    have : i = 0 ∨ i = 1 ∨ i = 2 := by omega
    rcases this with rfl | rfl | rfl <;> exact new_cells (junk w0 X) _ _ _ (by rw [junk_size]) _ _ rfl
  have hJn := join_tree tc tn
  have hll : (Lib.join [[116, 114, 101, 101], tc, tn] [32]).length ≤ 20 := by
    have := congrArg List.length hJn
    simp [kTree] at this
    omega
  have HJn := hid hJn
  clear hJn
  go_upto_region 2 with (go_at_call 20; refine (line_any HWb.out (B := wb.heap.size) (xs := xs) (L := [[116, 114, 101, 101], tc, tn]) (n := 3) (c := 3) ((HO0.out.jk ((Jk.refl w0).junk X)).alloc _) (by rw [World.size_alloc, junk_size]; omega) HAt.out (by rw [World.size_alloc, junk_size]; omega) rfl (by decide) (by decide) (by omega)).mono ?_; rintro e w3 ⟨v3, rfl, hO3, hb3, hn3⟩; rw [HJn.out] at hO3; have HO3 := hid hO3; have HJ3 : Hid (Jk wb w3) := Jk.of_below (((HW0.out.junk X).alloc _).below.trans hb3); have HB3 : Hid (TkB w3 w.heap.size cl a n c) := hn3 _ _ _ _ (HB0.out.jk (((Jk.refl w0).junk X).alloc _)) (by decide); clear hO3 hb3 hn3; have d1 := HB3.out.c1; have dlt := HB3.out.lt)
  obtain ⟨HD, hHD⟩ : ∃ HD, kTree ++ (tc ++ 32 :: (tn ++ [10])) = HD := ⟨_, rfl⟩
  have hHl : HD.length ≤ 20 := by rw [← hHD]; simp [kTree]; omega
  rw [hHD] at HO3 HT
  clear HAt HJn hll HO0 HB0 c0 c1 hlt HC HN
  go_wp2
  go_loopg [22, 0] n (fun r i v wr => ∃ j : Nat, i = .int .i64 (j : Int) ∧ j + r = n ∧ Hid (OwnB wb.heap.size wr v (xs ++ HD ++ nodesT (ws.take j))) ∧ Hid (Jk wb wr))
  case atStart => exact ⟨0, rfl, by omega, hid (by simpa [nodesT] using HO3.out), HJ3⟩
  case round =>
    obtain ⟨j, rfl, hj, HO, HJ⟩ := hrel
    clear HO3 HJ3 HB3 d1 dlt
    by_cases hk2 : gk = 0
    · subst hk2
      obtain rfl : j = n := by omega
      go_wp2
      go_ret
      refine ⟨_, rfl, ?_, HJ.out⟩
      rw [HT.out, ← List.append_assoc]
      have := HO.out
      rwa [List.take_of_length_le (by omega)] at this
    · obtain ⟨r, rfl⟩ : ∃ r, gk = r + 1 := ⟨gk - 1, by omega⟩
      have hlt : (j : Int) < (n : Int) := by omega
      have hjl : j < ws.length := by omega
      have HX := hid (nodesT_next ws j hjl)
      have hpl := nodesT_len (ws.take j) (fun w hw => HU.out w (List.mem_of_mem_take hw))
      have hpl2 : (ws.take j).length ≤ 31 := by simp; omega
      obtain ⟨g, o, rfl, hg, hat⟩ := HI.out.lies (by omega)
      have hgr : g < wr.heap.size := Nat.lt_of_lt_of_le hg HJ.out.below.size
      have hce := (hat.jk HJ.out hg) j hjl
      have hbd := HI.out.bd j (by omega)
      have hub : unB (wd ws j) = true := by
        have : wd ws j ∈ ws := by simp [wd, hjl]
        exact HU.out _ this
      obtain ⟨y, hy⟩ : ∃ y, wd ws j = y := ⟨_, rfl⟩
      rw [hy] at hce hbd hub HX
      have hrt := (un_of hub).1
      have HUn := hid (unpack_ans y hbd.1 hbd.2)
      have hnl := nodeT_len hrt
      obtain ⟨x, hx⟩ : ∃ x, unI y = x := ⟨_, rfl⟩
      rw [hx] at HUn hrt hnl HX
      rw [hub] at HUn
      have HRt := hid hrt
      obtain ⟨lf, xv, xf, xa, xl, xr⟩ := x
      simp only [nodeV] at HUn
      obtain ⟨xs', hxs⟩ : ∃ q, xs ++ HD ++ nodesT (ws.take j) = q := ⟨_, rfl⟩
      have hxl : xs'.length ≤ 110000 := by rw [← hxs]; simp only [List.length_append]; omega
      have HX2 : Hid (xs ++ HD ++ nodesT (ws.take (j + 1)) = xs' ++ nodeT ⟨lf, xv, xf, xa, xl, xr⟩) := by rw [HX.out, ← hxs]; show _ = _; simp
      rw [hxs] at HO
      clear hxs hpl hpl2 hbd hub hy hx hat hrt HX
      go_upto_region 6 with (go_at_call 40; refine (HUn.out.on _).mono ?_; rintro e w4 ⟨rfl, X4, rfl⟩)
      have HJ5 : Hid (Jk wr ((junk wr X4).alloc (.cells #[.bool lf, .int .i64 xv, .int .i64 xf, .int .i64 xa, .int .i64 xl, .int .i64 xr] 53))) := ((Jk.refl wr).junk X4).alloc _
      have HN5 : Hid (NdB ((junk wr X4).alloc (.cells #[.bool lf, .int .i64 xv, .int .i64 xf, .int .i64 xa, .int .i64 xl, .int .i64 xr] 53)) (wr.heap.size + Jn X4) ⟨lf, xv, xf, xa, xl, xr⟩) := by
        have := NdB.laid (junk wr X4) ⟨lf, xv, xf, xa, xl, xr⟩
        rw [junk_size] at this
        exact this
      generalize (junk wr X4).alloc (.cells #[.bool lf, .int .i64 xv, .int .i64 xf, .int .i64 xa, .int .i64 xl, .int .i64 xr] 53) = w5 at HJ5 HN5 ⊢
      obtain ⟨n0, n1, n2, n3, n4, n5⟩ := HN5.out.cells
      simp only at n0 n1 n2 n3 n4 n5
      have HNW := hid (fun (z : World) (hz : Jk wb z) => node_words HWb.out HRt.out hz)
      have HLn : Hid ((nodeW ⟨lf, xv, xf, xa, xl, xr⟩).length ≤ 8) := by unfold nodeW; split <;> (show _ ≤ _; simp)
      have hJn2 := join_node ⟨lf, xv, xf, xa, xl, xr⟩
      have hll2 : (Lib.join (nodeW ⟨lf, xv, xf, xa, xl, xr⟩) [32]).length ≤ 60 := by
        have := congrArg List.length hJn2
        simp at this
        omega
      obtain ⟨L6, hL6⟩ : ∃ L, nodeW ⟨lf, xv, xf, xa, xl, xr⟩ = L := ⟨_, rfl⟩
      obtain ⟨T6, hT6⟩ : ∃ T, nodeT ⟨lf, xv, xf, xa, xl, xr⟩ = T := ⟨_, rfl⟩
      rw [hL6] at HNW HLn hll2 hJn2
      rw [hT6] at hJn2 HX2
      have HJn2 := hid hJn2
      simp only [nodeV] at HNW
      have hn8 := HLn.out
      clear hL6 hT6 hJn2 HUn HRt hce hnl
      have HOr := hid (HO.out.jk HJ5.out)
      have hwr := HJ.out.below.size
      go_wp2_with (first
        | (go_at_call 41; refine (HNW.out _ (HJ.out.trans HJ5.out)).mono ?_; rintro e w6 ⟨g6, c6, rfl, hc6, hS6, hg6, hj6⟩; have HS6 := hid hS6; have HJ6 := hid hj6; have hz6 := (HJ5.out.trans hj6).below.size; clear hS6 hj6)
        | (go_at_call 20; refine (line_any HWb.out (B := wb.heap.size) (xs := xs') (L := L6) (n := L6.length) (c := c6) (HOr.out.jk HJ6.out) (by omega) HS6.out hg6 rfl hc6 (by omega) (by omega)).mono ?_; rintro e w7 ⟨v7, rfl, hO7, hb7, -⟩; rw [HJn2.out] at hO7; have HO7 := hid hO7; have HJ7 : Hid (Jk wb w7) := Jk.of_below (((HJ.out.trans HJ5.out).trans HJ6.out).below.trans hb7); clear hO7 hb7))
      go_roundg r
      case measure => omega
      case rel => exact ⟨j + 1, by go_num, by omega, hid (by rw [HX2.out]; exact HO7.out), HJ7⟩

/-- Print of package text -/
theorem right_pm {m : Md} : RightP m.pm ↔ RightM m := by
  obtain ⟨d, k, b0, b1, b2, a, n, c, ts⟩ := m
  constructor
  · rintro ⟨h1, h2, h3, h4, h5, h6, h7⟩
    simp only [Md.pm, List.length_map] at *
    refine ⟨h1, h2, h3, h4, h5, h6, fun i hi => ?_⟩
    have e : tA ts i = ts[i] := by simp [tA, hi]
    have := h7 (tA ts i).pt (by rw [e]; exact List.mem_map.2 ⟨_, List.getElem_mem hi, rfl⟩)
    exact ⟨this.lo, this.hi, this.tree⟩
  · rintro ⟨h1, h2, h3, h4, h5, h6, h7⟩
    simp only at *
    refine ⟨h1, h2, h3, h4, h5, by simpa [Md.pm] using h6, fun t ht => ?_⟩
    simp only [Md.pm, List.mem_map] at ht
    obtain ⟨x, hx, rfl⟩ := ht
    obtain ⟨i, hi, rfl⟩ := List.getElem_of_mem hx
    have e : tA ts i = ts[i] := by simp [tA, hi]
    have := h7 i hi
    rw [e] at this
    exact ⟨this.lo, this.hi, this.tree⟩

end Go.Proofs.YtfabodbcdnmpmaaGreatDoor

namespace Go.Proofs.YtfabodbcdnmpmaaGreatDoor
open Go.RowKit M

theorem treesT_next (ts : List Tr) (j : Nat) (h : j < ts.length) : treesT ((ts.take (j + 1)).map Tr.pt) = treesT ((ts.take j).map Tr.pt) ++ treeT (tA ts j).pt := by
  unfold treesT
  have e : tA ts j = ts[j] := by simp [tA, h]
  rw [List.take_succ_eq_append_getElem h, List.map_append, List.flatMap_append, e]
  simp

set_option maxRecDepth 100000 in
set_option maxHeartbeats 3200000 in
theorem print_m {wb : World} (hL0 : LibP wb) {m : Md} (hm : m.ok wb) : AnsW wb 7 #[modelV m] (tx (printM m.pm)) := fun w hw => by
  have J := rules8
  obtain ⟨rb, hrb⟩ := right_bool m
  have HR := hid ((rightM_ans hm hrb).at hw)
  have hok := hm.jk hw
  have hL := hL0.at hw
  obtain ⟨d, k, b0, b1, b2, a, n, c, ts⟩ := m
  obtain ⟨w0, hw0⟩ : ∃ w0, w.alloc (.cells #[.int .i64 d, .int .i64 k, .int .i64 b0, .int .i64 b1, .int .i64 b2, .slice a n c] 25) = w0 := ⟨_, rfl⟩
  have HI : Hid (MdIn w0 w.heap.size ⟨d, k, b0, b1, b2, a, n, c, ts⟩) := hw0 ▸ MdIn.laid w ⟨d, k, b0, b1, b2, a, n, c, ts⟩ _
  have HJ0 : Hid (Jk w w0) := hw0 ▸ (Jk.refl w).alloc _
  obtain ⟨s1, c0, c1, c2, c3, c4, c5⟩ := HI.out
  simp only at c0 c1 c2 c3 c4 c5
  cases rb
  · have hr : ¬ RightP (Md.pm ⟨d, k, b0, b1, b2, a, n, c, ts⟩) := fun h => by
      have := hrb.2 (right_pm.1 h)
      cases this
    rw [printM_no hr]
    clear hL hok hrb hr hm hw hL0
    go_enter Tryz.func7, Tryz.ntmps7
    go_wp2_with (go_at_call 19; refine (HR.out.on _ HJ0.out).mono ?_; rintro e w1 ⟨rfl, X, rfl⟩)
    go_ret
    exact ⟨rfl, HJ0.out.junk X⟩
  · have hr : RightP (Md.pm ⟨d, k, b0, b1, b2, a, n, c, ts⟩) := right_pm.2 (hrb.1 rfl)
    rw [printM_yes hr]
    have HRP := hid hr
    have HL := hid (hL.at HJ0.out)
    have HT : Hid (IsT w0 a n c ts) := hok.is.jk HJ0.out
    have hn : ts.length = n := HT.out.len
    have h8 := hr.len
    have htr := hr.trees
    simp only [Md.pm, List.length_map] at h8 htr
    have hd1 := hr.d1
    have hd4 := hr.d4
    have hk1 := hr.k1
    have hk3 := hr.k3
    simp only [Md.pm] at hd1 hd4 hk1 hk3
    have HD := hid ((HL.out.itoa d (by omega) (by omega)).ansW w0)
    have HK := hid ((HL.out.itoa k (by omega) (by omega)).ansW w0)
    have hl1 := dg_len (n := d) (by omega)
    have hl2 := dg_len (n := k) (by omega)
    have HX := hid (textM_split (Md.pm ⟨d, k, b0, b1, b2, a, n, c, ts⟩))
    have HBW := hid (fun (z : World) (hz : Jk w0 z) => bias_words_any HL.out (m := ⟨d, k, b0, b1, b2, a, n, c, ts⟩) hr hz)
    have hjb := join_bias (Md.pm ⟨d, k, b0, b1, b2, a, n, c, ts⟩) k.toNat
    have hbl := biasT_len hr k.toNat
    have hbw := biasW_len (Md.pm ⟨d, k, b0, b1, b2, a, n, c, ts⟩) k.toNat
    have HTr := hid htr
    have HM := hid hn
    have hkn : k.toNat ≤ 3 := by omega
    obtain ⟨bW, hbW⟩ : ∃ W, biasW (Md.pm ⟨d, k, b0, b1, b2, a, n, c, ts⟩) k.toNat = W := ⟨_, rfl⟩
    obtain ⟨bT, hbT⟩ : ∃ T, biasT (Md.pm ⟨d, k, b0, b1, b2, a, n, c, ts⟩) k.toNat = T := ⟨_, rfl⟩
    simp only at HBW
    rw [hbW] at HBW hjb hbw
    rw [hbT] at hjb hbl
    have HX2 : Hid (textM (Md.pm ⟨d, k, b0, b1, b2, a, n, c, ts⟩) = (kForest ++ (dg d ++ (32 :: (dg k ++ (kBias ++ (bT ++ [10])))))) ++ treesT (ts.map Tr.pt)) := by
      rw [HX.out, ← hbT]; exact rfl
    obtain ⟨td, htd⟩ : ∃ t, dg d = t := ⟨_, rfl⟩
    obtain ⟨tk, htk⟩ : ∃ t, dg k = t := ⟨_, rfl⟩
    rw [htd] at HD HX2 hl1
    rw [htk] at HK HX2 hl2
    clear hbW hbT htd htk HX hL hok hrb hm hw hL0 hr htr hn
    go_enter Tryz.func7, Tryz.ntmps7
    go_upto_region 3 with (go_at_call 19; refine (HR.out.on _ HJ0.out).mono ?_; rintro e w1 ⟨rfl, X, rfl⟩)
    have HJ1 : Hid (Jk w0 (junk w0 X)) := (Jk.refl w0).junk X
    clear hw0
    generalize junk w0 X = w1 at HJ1 ⊢
    have HD1 := hid (HD.out.at HJ1.out)
    have HK1 := hid (HK.out.at HJ1.out)
    clear HD HK s1 c0 c1 c2 c3 c4 c5
    obtain ⟨s1, c0, c1, c2, c3, c4, c5⟩ := HI.out.jk HJ1.out
    simp only at c0 c1 c2 c3 c4 c5
    have hz1 := HJ1.out.below.size
    refine region_tail 6 #[true, true, true, true, true, true, false, false, false] (by kernel_rfl) (by decide) (by kernel_rfl) ?_
    dsimp only [List.take, List.drop]
    repeat (go_big_quiet_step (first | (go_at_call 21; exact AnsW.junk (by with_reducible first | exact HD1.out | exact HK1.out) _) | exact rfl))
    refine wpQuiet_nil ?_
    rintro _ ⟨Y, rfl⟩
    have HAt : Hid (AtS ((junk w1 Y).alloc (.cells #[tx [102, 111, 114, 101, 115, 116], tx td, tx tk] 9)) (w1.heap.size + Jn Y) 0 [[102, 111, 114, 101, 115, 116], td, tk]) := fun i hi => by
      simp at hi
      have : i = 0 ∨ i = 1 ∨ i = 2 := by omega
      rcases this with rfl | rfl | rfl <;> exact new_cells (junk w1 Y) _ _ _ (by rw [junk_size]) _ _ rfl
    have hJn := join_head td tk
    have hll : (Lib.join [[102, 111, 114, 101, 115, 116], td, tk] [32]).length ≤ 20 := by
      have := congrArg List.length hJn
      simp [kForest] at this
      omega
    have HJn := hid hJn
    clear hJn
    go_upto_region 4 with (go_at_call 20; refine (line_any HL.out (B := w0.heap.size) (v := .slice none 0 0) (xs := []) (L := [[102, 111, 114, 101, 115, 116], td, tk]) (n := 3) (c := 3) (OwnB.nil _ _) (by rw [World.size_alloc, junk_size]; omega) HAt.out (by rw [World.size_alloc, junk_size]; omega) rfl (by decide) (by decide) (by simp only [List.length_nil]; omega)).mono ?_; rintro e w3 ⟨v3, rfl, hO3, hb3, -⟩; rw [HJn.out, List.nil_append] at hO3; have HO3 := hid hO3; have HJ3 : Hid (Jk w0 w3) := Jk.of_below (((HJ1.out.junk Y).alloc _).below.trans hb3); clear hO3 hb3)
    obtain ⟨hd, hhd⟩ : ∃ t, kForest ++ (td ++ 32 :: (tk ++ [10])) = t := ⟨_, rfl⟩
    have hhl : hd.length ≤ 20 := by rw [← hhd]; simp [kForest]; omega
    have HX3 : Hid (textM (Md.pm ⟨d, k, b0, b1, b2, a, n, c, ts⟩) = (hd ++ ([98, 105, 97, 115] ++ bT ++ [10])) ++ treesT (ts.map Tr.pt)) := by
      rw [HX2.out, ← hhd]; show _ = _; simp [kBias]
    rw [hhd] at HO3
    clear hhd HX2 HAt HJn hll s1 c0 c1 c2 c3 c4 c5 HD1 HK1
    obtain ⟨s1, c0, c1, c2, c3, c4, c5⟩ := HI.out.jk HJ3.out
    simp only at c0 c1 c2 c3 c4 c5
    have hz3 := HJ3.out.below.size
    have HJB := hid hjb
    have hb8 : bW.length ≤ 10 := by omega
    clear hbw
    have hbl4 : (Lib.join bW [32]).length ≤ 100 := by rw [hjb]; simp; omega
    clear hjb
    go_upto_region 5 with (first
      | (go_at_call 22; refine (HBW.out _ HJ3.out).mono ?_; rintro e w4 ⟨g4, c4', rfl, hc4, hS4, hg4, hj4⟩; have HS4 := hid hS4; have HJ4 := hid (HJ3.out.trans hj4); have HO4 := hid (HO3.out.jk hj4); have hz4 := (HJ3.out.trans hj4).below.size; clear hS4 hj4)
      | (go_at_call 20; refine (line_any HL.out (B := w0.heap.size) (xs := hd) (L := bW) (n := bW.length) (c := c4') HO4.out hz4 HS4.out hg4 rfl hc4 (by omega) (by omega)).mono ?_; rintro e w5 ⟨v5, rfl, hO5, hb5, -⟩; rw [HJB.out] at hO5; have HO5 := hid hO5; have HJ5 : Hid (Jk w0 w5) := Jk.of_below (HJ4.out.below.trans hb5); clear hO5 hb5))
    obtain ⟨hh, hhh⟩ : ∃ t, hd ++ ([98, 105, 97, 115] ++ bT ++ [10]) = t := ⟨_, rfl⟩
    have hhl2 : hh.length ≤ 200 := by rw [← hhh]; simp; omega
    rw [hhh] at HO5 HX3
    clear hhh s1 c0 c1 c2 c3 c4 c5
    obtain ⟨s1, c0, c1, c2, c3, c4, c5⟩ := HI.out.jk HJ5.out
    simp only at c0 c1 c2 c3 c4 c5
    have hn : ts.length = n := HM.out
    go_wp2
    go_loopg [24, 3] n (fun r i v wr => ∃ j : Nat, i = .int .i64 (j : Int) ∧ j + r = n ∧ Hid (OwnB w0.heap.size wr v (hh ++ treesT ((ts.take j).map Tr.pt))) ∧ Hid (Jk w0 wr))
    case atStart => exact ⟨0, rfl, by omega, hid (by simpa [treesT] using HO5.out), HJ5⟩
    case round =>
      obtain ⟨j, rfl, hj, HO, HJ⟩ := hrel
      clear HO5 HJ5 s1 c0 c1 c2 c3 c4 c5
      by_cases hk0 : gk = 0
      · subst hk0
        obtain rfl : j = n := by omega
        have hO := HO.out
        rw [List.take_of_length_le (by omega), ← HX3.out] at hO
        have hc := hO.text (text_ne _)
        go_wp2
        go_ret
        exact ⟨rfl, HJ0.out.trans HJ.out⟩
      · obtain ⟨r, rfl⟩ : ∃ r, gk = r + 1 := ⟨gk - 1, by omega⟩
        have hlt : (j : Int) < (n : Int) := by omega
        have hjl : j < ts.length := by omega
        have HN := hid (treesT_next ts j hjl)
        have hin : ∀ q, q ≤ j → ∀ t, t ∈ (ts.take q).map Tr.pt → PtP k d t := fun q _ t ht => by
          obtain ⟨x, hx, rfl⟩ := List.mem_map.1 ht
          exact HTr.out _ (List.mem_map.2 ⟨x, List.mem_of_mem_take hx, rfl⟩)
        have hpl := treesT_len k d hk3 ((ts.take j).map Tr.pt) (hin j (Nat.le_refl _))
        have hpl2 : ((ts.take j).map Tr.pt).length ≤ 8 := by simp; omega
        obtain ⟨g, o, rfl, hg, hat⟩ := HT.out.lies (by omega)
        have hgr : g < wr.heap.size := Nat.lt_of_lt_of_le hg HJ.out.below.size
        obtain ⟨k0, k1⟩ := (hat.jk HJ.out hg) j hjl
        have hok := HT.out.all j (by omega)
        have hPt : PtP k d (tA ts j).pt := by
          have e : tA ts j = ts[j] := by simp [tA, hjl]
          rw [e]
          exact HTr.out _ (List.mem_map.2 ⟨_, List.getElem_mem hjl, rfl⟩)
        obtain ⟨t, ht⟩ : ∃ t, tA ts j = t := ⟨_, rfl⟩
        rw [ht] at k0 k1 hok hPt HN
        obtain ⟨xs', hxs⟩ : ∃ q, hh ++ treesT ((ts.take j).map Tr.pt) = q := ⟨_, rfl⟩
        have hxl : xs'.length ≤ 100000 := by rw [← hxs]; simp only [List.length_append]; omega
        have HN2 : Hid (hh ++ treesT ((ts.take (j + 1)).map Tr.pt) = xs' ++ treeT t.pt) := by rw [HN.out, ← hxs]; show _ = _; simp
        rw [hxs] at HO
        clear hxs hpl hpl2 ht hat hin HN
        have HLi := hid (fun (z : World) (hz : Jk w0 z) (u : Value) (hu : OwnB w0.heap.size z u xs') => tree_lines HL.out hPt hk3 hok hz hu hxl)
        obtain ⟨cl, ta, tn, tc, tw⟩ := t
        simp only at k0 k1
        clear hok hPt
        go_wp2_with (go_at_call 23; refine (HLi.out _ (by repeat (with_reducible first | exact HJ.out | apply Jk.junk | apply Jk.alloc)) _ (HO.out.alloc _)).mono ?_; rintro e w7 ⟨v7, rfl, hO7, hj7⟩; have HO7 := hid hO7; have HJ7 := hid hj7; clear hO7 hj7)
        go_roundg r
        case measure => omega
        case rel => exact ⟨j + 1, by go_num, by omega, hid (by rw [HN2.out]; exact HO7.out), HJ7⟩

end Go.Proofs.YtfabodbcdnmpmaaGreatDoor
