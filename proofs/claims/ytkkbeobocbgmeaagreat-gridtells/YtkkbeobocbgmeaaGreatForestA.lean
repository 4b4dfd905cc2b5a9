/- What copsekeep's Forest.Model answers: a right model, for whatever numbers. -/
import Derived.Test.YtkkbeobocbgmeaaGreatRowsF
import Derived.Test.YtkkbeobocbgmeaaGreatNodesB
import Derived.Deep.RegionHeld3
import Derived.Test.YtkkbeobocbgmeaaGreatHeld
namespace Go.Proofs.YtkkbeobocbgmeaaGreat
open Go.RowKit M

theorem within_p {n lo hi r : Int} (hr : withinI n lo hi = r) (hn : FitI n) (h : lo ≤ hi) (h1 : -2305843009213693952 ≤ lo) (h2 : hi ≤ 2305843009213693952) : AnsP 7 #[.int .i64 n, .int .i64 lo, .int .i64 hi] (.int .i64 r) := fun w => by
  subst hr
  exact within_any n lo hi w hn.1 hn.2 h h1 h2

def biasI (bz : List Int) (c : Nat) : Int := withinI (pickI bz c) (-500) 500
/-- the biases of the first j classes are the numbers' -/
def BiasIs (bz : List Int) (j : Nat) (b0 b1 b2 : Int) : Prop := b0 = (if 0 < j then biasI bz 0 else 0) ∧ b1 = (if 1 < j then biasI bz 1 else 0) ∧ b2 = (if 2 < j then biasI bz 2 else 0)
theorem BiasIs.s0 {bz : List Int} {b0 b1 b2 X : Int} (h : BiasIs bz 0 b0 b1 b2) (e : X = biasI bz 0) : BiasIs bz 1 X b1 b2 := ⟨e, h.2.1, h.2.2⟩
theorem BiasIs.s1 {bz : List Int} {b0 b1 b2 X : Int} (h : BiasIs bz 1 b0 b1 b2) (e : X = biasI bz 1) : BiasIs bz 2 b0 X b2 := ⟨h.1, e, h.2.2⟩
theorem BiasIs.s2 {bz : List Int} {b0 b1 b2 X : Int} (h : BiasIs bz 2 b0 b1 b2) (e : X = biasI bz 2) : BiasIs bz 3 b0 b1 X := ⟨h.1, h.2.1, e⟩
/-- the model of these numbers -/
structure ModelOf (f : Fo) (m : Md) : Prop where
  d : m.d = withinI f.d 1 3
  k : m.k = withinI f.k 1 3
  b : ∃ K : Nat, m.k = (K : Int) ∧ BiasIs f.bz K m.b0 m.b1 m.b2
  n : m.ts.length = min f.sn 4
  t : ∀ q, q < m.ts.length → (tA m.ts q).cl = withinI (f.ss q).cl 0 (m.k - 1) ∧ NodesOf (f.ss q) m.d (tA m.ts q).ws
def GotF (f : Fo) (w : World) (e : Ending) (w' : World) : Prop :=
  ∃ m : Md, e = .returned (modelV m) ∧ RightM m ∧ m.d ≤ 3 ∧ m.n ≤ 4 ∧ FRow w.heap.size w' (.slice m.a m.n m.c) m.n m.ts ∧ Jk w w' ∧ ModelOf f m

set_option maxRecDepth 100000 in
set_option maxHeartbeats 4000000 in
theorem model_is (f : Fo) (w : World) (hf : f.ok w) : Calls Tryz.prog 4 #[forestV f] w fun e w' => GotF f w e w' := by
  have J := rules8
  obtain ⟨d, k, ba, bn, bc, bz, sa, sn, sc, ss⟩ := f
  have hD := within_bd d 1 3 (by omega)
  have hK := within_bd k 1 3 (by omega)
  have AD := within_p (hi := 3) (lo := 1) rfl hf.fd (by omega) (by omega) (by omega)
  have AK := within_p (hi := 3) (lo := 1) rfl hf.fk (by omega) (by omega) (by omega)
  simp only at AD AK
  obtain ⟨D, hDe⟩ : ∃ D, withinI d 1 3 = D := ⟨_, rfl⟩
  obtain ⟨K', hKe⟩ : ∃ K, withinI k 1 3 = K := ⟨_, rfl⟩
  rw [hDe] at hD AD
  rw [hKe] at hK AK
  obtain ⟨K, rfl⟩ := Int.eq_ofNat_of_zero_le (show 0 ≤ K' by omega)
  have HAD := hid AD
  have HAK := hid AK
  have HDK := hid (show withinI d 1 3 = D ∧ withinI k 1 3 = (K : Int) from ⟨hDe, hKe⟩)
  clear AD AK hDe hKe
  obtain ⟨w0, hw0⟩ : ∃ w0, (w.alloc (.cells #[.int .i64 d, .int .i64 k, .slice ba bn bc, .slice sa sn sc] 25)).alloc (.cells #[.int .i64 0, .int .i64 0, .int .i64 0, .int .i64 0, .int .i64 0, .slice none 0 0] 31) = w0 := ⟨_, rfl⟩
  have hsz : w0.heap.size = w.heap.size + 1 + 1 := by rw [← hw0]; simp
  have H0 : Hid (Jk w w0) := hw0 ▸ ((Jk.refl w).alloc _).alloc _
  have HF : Hid (Fo.ok w0 ⟨d, k, ba, bn, bc, bz, sa, sn, sc, ss⟩) := hf.jk H0.out
  have hf0 : w0.cell? ⟨w.heap.size, 0, none⟩ = some (.int .i64 d) := by rw [← hw0]; simp
  have hf1 : w0.cell? ⟨w.heap.size, 1, none⟩ = some (.int .i64 k) := by rw [← hw0]; simp
  have hf2 : w0.cell? ⟨w.heap.size, 2, none⟩ = some (.slice ba bn bc) := by rw [← hw0]; simp
  have hf3 : w0.cell? ⟨w.heap.size, 3, none⟩ = some (.slice sa sn sc) := by rw [← hw0]; simp
  have HRes : Hid (∀ wr, Jk w0 wr → MdB wr (w.heap.size + 1) ⟨0, 0, 0, 0, 0, none, 0, 0, []⟩) := fun wr hj => by
    refine MdB.jk ?_ hj
    have := MdB.laid (w.alloc (.cells #[.int .i64 d, .int .i64 k, .slice ba bn bc, .slice sa sn sc] 25)) ⟨0, 0, 0, 0, 0, none, 0, 0, []⟩
    rw [World.size_alloc] at this
    rw [← hw0]
    exact this
  have HF1 : Hid (∀ wr, Jk w0 wr → wr.cell? ⟨w.heap.size, 2, none⟩ = some (.slice ba bn bc) ∧ wr.cell? ⟨w.heap.size, 3, none⟩ = some (.slice sa sn sc)) := fun wr hj => by
    have e := fun i => hj.below.cell (p := ⟨w.heap.size, i, none⟩) (by simp only; omega)
    rw [e, e]
    exact ⟨hf2, hf3⟩
  clear hf
  go_enter Tryz.func4, Tryz.ntmps4
  go_upto_region 1 with fail
  go_cut [3] (fun p wc => p = .pointer (some ⟨w.heap.size + 1 + 1, 0, none⟩) ∧ MdB wc (w.heap.size + 1 + 1) ⟨D, K, 0, 0, 0, none, 0, 0, []⟩ ∧ Jk w0 wc)
  case first =>
    go_region_held3 (fun w' => w'.cell? ⟨w.heap.size, 0, none⟩ = some (.int .i64 d) ∧ w'.cell? ⟨w.heap.size, 1, none⟩ = some (.int .i64 k)) (go_keep) (first | (go_at_call 7; refine (AnsP.on (by with_reducible first | exact HAD.out | exact HAK.out) _).mono ?_; rintro e w' ⟨rfl, hw⟩; obtain rfl := hw.symm))
    all_goals
      go_wp2_with fail
      go_meet
      case rel => exact ⟨rfl, hsz ▸ MdB.laid w0 ⟨D, K, 0, 0, 0, none, 0, 0, []⟩, ((Jk.refl w0).alloc _).drew⟩
  case rest =>
    obtain ⟨rfl, hM, hJ0⟩ := hcut
    clear hw0 hf0 hf1 hf2 hf3
    have HF0 : Hid (∀ wr, Jk w0 wr → wr.cell? ⟨w.heap.size, 2, none⟩ = some (.slice ba bn bc) ∧ wr.cell? ⟨w.heap.size, 3, none⟩ = some (.slice sa sn sc)) := HF1.out
    have HMc := hid hM
    have HJc := hid hJ0
    obtain ⟨m0, m1, m2, m3, m4, m5, m6⟩ := hM.in
    clear hM hJ0
    simp only at m1 m2 m3 m4 m5 m6
    go_wp2
    go_loopg [15] K (fun r i wr => ∃ (j : Nat) (b0 b1 b2 : Int), j + r = K ∧ i = .int .i64 (j : Int) ∧ Hid (BiasTo j b0 b1 b2 ∧ BiasIs bz j b0 b1 b2) ∧ Hid (MdB wr (w.heap.size + 1 + 1) ⟨D, K, b0, b1, b2, none, 0, 0, []⟩) ∧ Hid (Jk w0 wr))
    case atStart => exact ⟨0, 0, 0, 0, by omega, rfl, hid ⟨⟨by omega, by omega, by omega, fun _ => rfl, fun _ => rfl, fun _ => rfl⟩, rfl, rfl, rfl⟩, HMc, HJc⟩
    case round =>
      obtain ⟨j, b0, b1, b2, hj, rfl, HB, HM, HJ⟩ := hrel
      clear m0 m1 m2 m3 m4 m5 m6 HMc HJc
      by_cases hfuel : gk = 0
      · subst hfuel
        obtain rfl : j = K := by omega
        obtain ⟨m0, m1, m2, m3, m4, m5, m6⟩ := HM.out.in
        simp only at m1 m2 m3 m4 m5 m6
        have HBr := hid HB.out.1.right
        go_wp2
        go_loopg [5] 4 (fun r i wr => ∃ (q' : Nat) (a : Option Addr) (c : Nat) (ts : List Tr), q' + r = 4 ∧ i = .int .i64 (q' : Int) ∧ Hid (FRow (w.heap.size + 1 + 1 + 1) wr (.slice a q' c) q' ts) ∧ Hid (q' ≤ sn ∧ ∀ q, q < q' → TrP j D (tA ts q) ∧ (tA ts q).cl = withinI (ss q).cl 0 ((j : Int) - 1) ∧ NodesOf (ss q) D (tA ts q).ws) ∧ Hid (MdB wr (w.heap.size + 1 + 1) ⟨D, j, b0, b1, b2, a, q', c, ts⟩) ∧ Hid (Jk w0 wr))
        case atStart => exact ⟨0, none, 0, [], by omega, rfl, hid (FRow.nil _ _), hid ⟨Nat.zero_le _, fun q hq => by omega⟩, HM, HJ⟩
        case round =>
          obtain ⟨i, a, c, ts, hi, rfl, HR, HTs, HM2, HJ2⟩ := hrel
          clear m0 m1 m2 m3 m4 m5 m6 HM HJ
          obtain ⟨m0, m1, m2, m3, m4, m5, m6⟩ := HM2.out.in
          simp only at m1 m2 m3 m4 m5 m6
          obtain ⟨f2, f3⟩ := HF0.out wr HJ2.out
          by_cases hex : i < sn ∧ i < 4
          · obtain ⟨hisn, hi4⟩ := hex
            obtain ⟨r, rfl⟩ : ∃ r, gk = r + 1 := ⟨gk - 1, by omega⟩
            have e1 : (i : Int) < (sn : Int) := by omega
            have e2 : (i : Int) < 4 := by omega
            have hok := (HF.out.seeds.all i hisn).jk HJ2.out
            obtain ⟨g, o, rfl, hg, hat⟩ := HF.out.seeds.lies (by simp only; omega)
            have hgr : g < wr.heap.size := Nat.lt_of_lt_of_le hg HJ2.out.below.size
            have hgB : g < w.heap.size + 1 + 1 := by omega
            have hce := fun x => HJ2.out.below.cell (p := ⟨g, x, none⟩) hg
            have hat' := hat i hisn
            rw [← hce, ← hce, ← hce, ← hce, ← hce] at hat'
            obtain ⟨k0, k1, k2, k3, k4⟩ := hat'
            obtain ⟨sd, hsd⟩ : ∃ sd, ss i = sd := ⟨_, rfl⟩
            simp only at k0 k1 k2 k3 k4 hok
            rw [hsd] at k0 k1 k2 k3 k4 hok
            have HSi := hid hsd
            clear hsd hat hce
            obtain ⟨cl, a1, n1, c1, z1, a2, n2, c2, z2, a3, n3, c3, z3, a4, n4, c4, z4⟩ := sd
            simp only at k0 k1 k2 k3 k4
            have hwb := within_bd cl 0 ((j : Int) - 1) (by omega)
            have HW := hid (within_p (n := cl) (lo := 0) (hi := (j : Int) - 1) rfl hok.p0 (by omega) (by omega) (by omega))
            obtain ⟨X, hX⟩ : ∃ X, withinI cl 0 ((j : Int) - 1) = X := ⟨_, rfl⟩
            rw [hX] at hwb HW
            have HXt := hid hX
            clear hX
            have HSd := hid hok
            clear hok
            have hwr : IntKind.i64.wrap ((j : Int) - 1) = (j : Int) - 1 := i64_in (by omega) (by omega)
            have HN : Hid (∀ w', Jk wr w' → Calls Tryz.prog 19 #[.agg #[.int .i64 cl, .slice a1 n1 c1, .slice a2 n2 c2, .slice a3 n3 c3, .slice a4 n4 c4], .int .i64 D] w' fun e w'' => GotSd ⟨cl, a1, n1, c1, z1, a2, n2, c2, z2, a3, n3, c3, z3, a4, n4, c4, z4⟩ w' D e w'') := fun w' hj' => nodes_is ⟨cl, a1, n1, c1, z1, a2, n2, c2, z2, a3, n3, c3, z3, a4, n4, c4, z4⟩ D w' (HSd.out.jk hj') hD.1 (by omega)
            have hcap := HF.out.seeds.cap
            have hmax := HF.out.seeds.max
            simp only at hcap hmax
            unfold maxLen at hmax
            have k00 : (0 : Int) ≤ (i : Int) := by omega
            have hws : w.heap.size < wr.heap.size := by omega
            go_wp2_with fail
            refine region_mid 22 [0, 1, 2, 3, 4, 5, 6, 7, 8, 9, 10, 12, 13, 14, 15, 16, 17, 18] [11, 19, 20, 21] #[true, true, true, true, true, true, true, true, true, true, true, true, true, true, true, true, true, true, true, true, true, true, false, false, false] (by kernel_rfl) (by kernel_rfl) (fun _ _ d _ _ h => by cases d <;> exact h) ?_
            dsimp only [opersAt, List.getElem?_cons_zero, List.getElem?_cons_succ]
            repeat (go_big_quiet_step (first | exact rfl))
            refine wpQuiet_nil ?_
            intro K1 hK1
            go_simp
            go_at_call 7
            refine (AnsP.on (by with_reducible exact HW.out) _).mono ?_
            rintro e w' ⟨rfl, hw⟩
            obtain rfl := hw.symm
            go_simp
            refine hK1 _ _ (Jk.refl wr).drew ?_
            clear hK1 K1
            intro K2 hK2
            go_simp
            go_at_call 19
            refine (HN.out _ (Jk.refl wr).drew).mono ?_
            rintro e w1 ⟨gn, nn, cn, ws, rfl, hIs, hTr, h15, hgn, hj1, hNo⟩
            have hJ1 : Jk wr w1 := ((Jk.refl wr).drew).trans hj1
            go_simp
            refine hK2 _ _ hJ1 ?_
            clear hK2 K2
            intro K3 hK3
            go_simp
            refine hK3 _ _ hJ1 ?_
            clear hK3 K3
            intro K4 hK4
            go_simp
            refine hK4 _ _ (hJ1.alloc _) ?_
            clear hK4 K4
            have HIs := hid hIs
            have HTr := hid hTr
            have HJ1 := hid hJ1
            have hs1 := hJ1.below.size
            have hgn2 := hgn
            have HNo := hid hNo
            clear hIs hTr hJ1 hj1 HN hNo
            have HRa := hid (HR.out.jk (HJ1.out.alloc (.cells #[.int .i64 X, .slice (some ⟨gn, 0, none⟩) nn cn] 60)))
            have hgl : gn < w1.heap.size := by
              obtain ⟨g', o', e', hl, _⟩ := HIs.out.lies (by have := HTr.out.full; have := HIs.out.len; omega)
              simp at e'
              omega
            refine list_appT (ys := [⟨X, some ⟨gn, 0, none⟩, nn, cn, ws⟩]) rfl (.tmp 39) (.tmp 59) rfl HRa.out.own (by rw [World.size_alloc]; omega) rfl (some ⟨w1.heap.size, 0, none⟩) 1 1 rfl rfl (by decide) ⟨_, _, rfl, new_tree w1 _ _ _ _ _ rfl⟩ (by omega) (i + 1) rfl ?_
            intro g2 c2' w2 hO2 hG2 hg2
            have hb : ∀ b, b < w.heap.size + 1 + 1 + 1 → w2.heap[b]? = wr.heap[b]? := fun b hb => (hG2.block b (by rw [World.size_alloc]; omega) (fun e => by have := HRa.out.own.base b e.symm; omega)).trans ((HJ1.out.alloc _).below.block b (by omega))
            have HM3 : Hid (MdB w2 (w.heap.size + 1 + 1) ⟨D, j, b0, b1, b2, a, i, c, ts⟩) := (hb _ (by omega)).trans HM2.out
            have HJ3 : Hid (Jk w0 w2) := ((HJ2.out.trans HJ1.out).alloc _).grown hG2 (fun k hk => by have := HRa.out.own.base k hk; omega)
            have HR2 : Hid (FRow (w.heap.size + 1 + 1 + 1) w2 (.slice (some ⟨g2, 0, none⟩) (i + 1) c2') (i + 1) (ts ++ [⟨X, some ⟨gn, 0, none⟩, nn, cn, ws⟩])) := by
              refine HRa.out.app hO2 hG2 hg2 ⟨fit_small (by simp only; omega) (by simp only; omega), HIs.out.jk ((Jk.refl w1).alloc _)⟩ ⟨gn, rfl, ?_, ?_, ?_⟩ h15
              · have : wr.drew.heap.size = wr.heap.size := rfl
                omega
              · rw [World.size_alloc]; omega
              · intro e
                have h1 := (World.ownsRow.lt HR.out.own.2 gn e).2
                have : wr.drew.heap.size = wr.heap.size := rfl
                omega
            have q7 := HM3.out.in.2.2.2.2.2.2
            have q8 := HM3.out.frozen 5
            have q9 := HM3.out.in.1
            simp only at q7
            clear hO2 hG2 hb HRa
            go_wp2
            go_roundg r
            case measure => omega
            case rel =>
              refine ⟨i + 1, _, _, _, by omega, by go_num, hid (HR2.out.set (by omega) 5 _), hid ⟨hisn, ?_⟩, hid (HM3.out.setT _ _ _ _), hid (HJ3.out.set (by simp only; omega) _)⟩
              intro q hq
              have hl := HR.out.own.1
              by_cases e : q < i
              · rw [tA_append_left _ _ _ (by omega)]
                exact HTs.out.2 q e
              · obtain rfl : q = i := by omega
                rw [tA_append_right _ _ _ (by omega), show q - ts.length = 0 by omega]
                exact ⟨⟨hwb.1, by show X < (j : Int); omega, HTr.out⟩, by rw [HSi.out]; exact HXt.out.symm, by rw [HSi.out]; exact HNo.out⟩
          · rcases Nat.lt_or_ge i sn with hlt | hge
            case' inl => have e1 : (i : Int) < (sn : Int) := by omega
            case' inl => have e3 : ¬ (i : Int) < 4 := by omega
            case' inr => have e1 : ¬ (i : Int) < (sn : Int) := by omega
            all_goals
              obtain ⟨n0, n1, n2, n3, n4, n5, n6⟩ := (HRes.out wr HJ2.out).in
              have nz := (HRes.out wr HJ2.out).frozen
              simp only at n1 n2 n3 n4 n5 n6
              have HE := hid (((((((HRes.out wr HJ2.out).setD D).setK j).setB0 b0).setB1 b1).setB2 b2).setT a i c ts)
              have HFin := hid ((((((HR.out.set (b := w.heap.size + 1) (by omega) 0 (.int .i64 D)).set (b := w.heap.size + 1) (by omega) 1 (.int .i64 j)).set (b := w.heap.size + 1) (by omega) 2 (.int .i64 b0)).set (b := w.heap.size + 1) (by omega) 3 (.int .i64 b1)).set (b := w.heap.size + 1) (by omega) 4 (.int .i64 b2)).set (b := w.heap.size + 1) (by omega) 5 (.slice a i c))
              have HJf : Hid (Jk w ((((((wr.setCell ⟨w.heap.size + 1, 0, none⟩ (.int .i64 D)).setCell ⟨w.heap.size + 1, 1, none⟩ (.int .i64 j)).setCell ⟨w.heap.size + 1, 2, none⟩ (.int .i64 b0)).setCell ⟨w.heap.size + 1, 3, none⟩ (.int .i64 b1)).setCell ⟨w.heap.size + 1, 4, none⟩ (.int .i64 b2)).setCell ⟨w.heap.size + 1, 5, none⟩ (.slice a i c))) := ((((((H0.out.trans HJ2.out).set (by simp) _).set (by simp) _).set (by simp) _).set (by simp) _).set (by simp) _).set (by simp) _
              go_wp2
              obtain ⟨wf, hwf⟩ : ∃ wf, ((((((wr.setCell ⟨w.heap.size + 1, 0, none⟩ (.int .i64 D)).setCell ⟨w.heap.size + 1, 1, none⟩ (.int .i64 j)).setCell ⟨w.heap.size + 1, 2, none⟩ (.int .i64 b0)).setCell ⟨w.heap.size + 1, 3, none⟩ (.int .i64 b1)).setCell ⟨w.heap.size + 1, 4, none⟩ (.int .i64 b2)).setCell ⟨w.heap.size + 1, 5, none⟩ (.slice a i c)) = wf := ⟨_, rfl⟩
              rw [hwf] at HE HFin HJf ⊢
              obtain ⟨z0, z1, z2, z3, z4, z5, z6⟩ := HE.out.in
              simp only at z1 z2 z3 z4 z5 z6
              refine bodyPost_ret (v := modelV ⟨D, j, b0, b1, b2, a, i, c, ts⟩) (by simp [results, Tryz.results4, go_sem, z1, z2, z3, z4, z5, z6]) rfl ⟨⟨D, j, b0, b1, b2, a, i, c, ts⟩, rfl, ⟨?_, ?_, ?_, ?_, HBr.out, ?_, ?_⟩, ?_, ?_, HFin.out.mono (by omega), HJf.out, ?_⟩
              · exact hD.1
              · simp only; omega
              · exact hK.1
              · exact hK.2
              · have := HR.out.own.1; simp only; omega
              · intro q hq; exact (HTs.out.2 q (by have := HR.out.own.1; simp only at hq; omega)).1
              · exact hD.2
              · simp only; omega
              · exact ⟨HDK.out.1.symm, HDK.out.2.symm, ⟨_, rfl, HB.out.2⟩, (by have h1 := HR.out.own.1; have h2 := HTs.out.1; show ts.length = min sn 4; omega), fun q hq => (HTs.out.2 q (by have := HR.out.own.1; simp only at hq; omega)).2⟩
      · obtain ⟨r, rfl⟩ : ∃ r, gk = r + 1 := ⟨gk - 1, by omega⟩
        have hjn : (j : Int) < (K : Int) := by omega
        have hp := pick_bd HF.out.bias j
        have HPk := hid ((pick_is HF.out.bias j rfl).on _ HJ.out)
        obtain ⟨P, hP⟩ : ∃ P, pickI bz j = P := ⟨_, rfl⟩
        simp only at hp HPk
        rw [hP] at hp HPk
        have hwb := within_bd P (-500) 500 (by omega)
        have HW := hid (within_p (n := P) (lo := -500) (hi := 500) rfl hp (by omega) (by omega) (by omega))
        obtain ⟨X, hX⟩ : ∃ X, withinI P (-500) 500 = X := ⟨_, rfl⟩
        rw [hX] at hwb HW
        have HXe := hid (show X = biasI bz j from by unfold biasI; rw [hP, hX])
        clear hX hP
        obtain ⟨m0, m1, m2, m3, m4, m5, m6⟩ := HM.out.in
        have fz := HM.out.frozen
        simp only at m1 m2 m3 m4 m5 m6
        obtain ⟨f2, f3⟩ := HF0.out wr HJ.out
        have hcc : j = 0 ∨ j = 1 ∨ j = 2 := by omega
        rcases hcc with rfl | rfl | rfl
        all_goals
          go_wp2_with (first | (go_at_call 18; refine HPk.out.mono ?_; rintro e w1 ⟨rfl, X1, rfl⟩) | (go_at_call 7; refine (AnsP.on (by with_reducible exact HW.out) _).mono ?_; rintro e w' ⟨rfl, hw⟩; obtain rfl := hw.symm))
          go_roundg r
          case measure => omega
        · exact ⟨1, X, b1, b2, by omega, rfl, hid ⟨by have h := HB.out.1; unfold BiasTo at h ⊢; omega, HB.out.2.s0 HXe.out⟩, hid ((HM.out.setB0 X).jk ⟨X1, rfl⟩), hid ((HJ.out.set (by simp only; omega) _).junk _)⟩
        · exact ⟨2, b0, X, b2, by omega, rfl, hid ⟨by have h := HB.out.1; unfold BiasTo at h ⊢; omega, HB.out.2.s1 HXe.out⟩, hid ((HM.out.setB1 X).jk ⟨X1, rfl⟩), hid ((HJ.out.set (by simp only; omega) _).junk _)⟩
        · exact ⟨3, b0, b1, X, by omega, rfl, hid ⟨by have h := HB.out.1; unfold BiasTo at h ⊢; omega, HB.out.2.s2 HXe.out⟩, hid ((HM.out.setB2 X).jk ⟨X1, rfl⟩), hid ((HJ.out.set (by simp only; omega) _).junk _)⟩

theorem model_any (f : Fo) (w : World) (hf : f.ok w) : Calls Tryz.prog 4 #[forestV f] w fun e w' => GotM w e w' :=
  (model_is f w hf).mono (by
    rintro e w' ⟨m, a, b, c, d, g, h, _⟩
    exact ⟨m, a, b, c, d, g, h⟩)

end Go.Proofs.YtkkbeobocbgmeaaGreat
