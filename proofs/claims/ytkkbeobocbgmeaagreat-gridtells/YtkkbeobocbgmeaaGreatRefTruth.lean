/- What the document's own Cuts of chapter 12 answers: the same as the program's.
   A row of boxes of one's own, by append.
   What the document's own Cells of chapter 12 answers: the same boxes as the program's, in the same order.
   What the document's own Low and Truth of chapter 12 answer: the same as the program's Holds. -/
import Derived.Test.YtkkbeobocbgmeaaGreatGridC
import Derived.Test.YtkkbeobocbgmeaaGreatMapZ
import Derived.Test.YtkkbeobocbgmeaaGreatMathC
import Derived.Test.YtkkbeobocbgmeaaGreatHeldQ
import Derived.Test.YtkkbeobocbgmeaaGreatGridD
import Derived.Test.YtkkbeobocbgmeaaGreatRefBreaks
import Derived.Test.YtkkbeobocbgmeaaGreatGridN
namespace Go.Proofs.YtkkbeobocbgmeaaGreat
open Go.RowKit M

theorem featB_iff (q : Qy) (k : Int) : featB q k = true ↔ (k = 4 ∧ q.kd = 3) ∨ (0 ≤ k ∧ k < 4) := by
  unfold featB
  by_cases h : k = 4
  · simp [h]
  · simp [h]
theorem own_ne {v : Value} {B r : Nat} (hb : ∀ k, v.ownBlock = some k → B ≤ k) (h : r < B) : v.ownBlock = none ∨ v.ownBlock ≠ some r := by
  cases hv : v.ownBlock with
  | none => exact .inl rfl
  | some y => exact .inr fun e => by have := hb y hv; cases e; omega
theorem OwnK.stored {B : Nat} {w : World} {g n c : Nat} {L M : List Int} (h : OwnI B w (.slice (some ⟨g, 0, none⟩) n c) n L) (x : Int) (j : Nat) (hM : L.set j x = M) : OwnI B (w.setCell ⟨g, j, none⟩ (.int .i64 x)) (.slice (some ⟨g, 0, none⟩) n c) n M := by
  subst hM
  refine ⟨by simp [h.1], ?_⟩
  rw [List.map_set]
  exact (World.ownsRow.stored h.2 j _).1
theorem cuts_in {m : Md} {q : Qy} {b : Bx} {k : Int} (hb : featB q k = true) (z : Int) : z ∈ cutsI m q b k ↔ z ∈ atsT m.ts (featF q k) m.ts.length ∧ (b.at k).lo ≤ z ∧ z < (b.at k).hi := by
  unfold cutsI
  rw [if_pos hb, cutS_mem]
  unfold thrM
  rw [thr_mem]

set_option maxRecDepth 100000 in
set_option maxHeartbeats 12800000 in
theorem rcuts_any {m : Md} {q : Qy} {b : Bx} {k : Int} {ww : World} (hm : m.ok ww) (hr : RightM m) (w : World) (hjw : Jk ww w) : Calls Tryz.prog 15 #[modelV m, queryV q, boxV b, .int .i64 k] w fun e w' => GotCu w (cutsI m q b k) e w' := by
  have J := rules8
  have hmw := hm.jk hjw
  have hT := hmw.is
  have h8 := hr.n8 hmw
  have HTs : Hid (∀ i, i < m.n → TreeP (tA m.ts i).ws m.d) := fun i hi => (hr.trees.2 i (by rw [hT.len]; exact hi)).tree
  have HC0 : featB q k = false → cutsI m q b k = [] := fun h => by unfold cutsI; rw [h]; rfl
  have HCi : Hid (featB q k = true → ∀ z, z ∈ cutsI m q b k ↔ z ∈ atsT m.ts (featF q k) m.ts.length ∧ (b.at k).lo ≤ z ∧ z < (b.at k).hi) := hid fun h z => cuts_in h z
  have HUp : Hid ((cutsI m q b k).Pairwise (fun a b => a < b)) := hid (cutsI_up m q b k).1
  have hfb := featB_iff q k
  have hff : featF q k = if k = 4 then q.f else k := rfl
  obtain ⟨C, hC⟩ : ∃ z, cutsI m q b k = z := ⟨_, rfl⟩
  obtain ⟨F, hF⟩ : ∃ z, featF q k = z := ⟨_, rfl⟩
  rw [hC] at HC0 HCi HUp ⊢
  rw [hF] at hff HCi
  clear hm hr hjw hmw hC hF
  have hsp : ∀ K : Nat, k = (K : Int) → ∃ s, b.at (K : Int) = s := fun K _ => ⟨_, rfl⟩
  clear hsp
  obtain ⟨s, hs⟩ : ∃ z, b.at k = z := ⟨_, rfl⟩
  rw [hs] at HCi
  obtain ⟨fb, hfbe⟩ : ∃ z, featB q k = z := ⟨_, rfl⟩
  rw [hfbe] at hfb HC0 HCi
  have HS := hid hs
  clear hs hfbe
  obtain ⟨d, k', b0, b1, b2, ma, mn, mc, ts⟩ := m
  obtain ⟨kd, cl, ⟨⟨ra, rb⟩, ⟨rc, rd⟩, ⟨re, rf⟩, ⟨rg, rh⟩, ⟨ri, rj⟩⟩, lo, hi, f, fa, bu⟩ := q
  obtain ⟨⟨xa, xb⟩, ⟨xc, xd⟩, ⟨xe, xf⟩, ⟨xg, xh⟩, ⟨xi, xj⟩⟩ := b
  have hin := in3_laid w d k' b0 b1 b2 ma mn mc ts kd cl ra rb rc rd re rf rg rh ri rj lo hi f fa bu xa xb xc xd xe xf xg xh xi xj
  simp only [modelV, queryV, boxV] at hT h8 HTs hfb hff ⊢
  obtain ⟨w0, hw0⟩ : ∃ w0, (((w.alloc (.cells #[.int .i64 d, .int .i64 k', .int .i64 b0, .int .i64 b1, .int .i64 b2, .slice ma mn mc] 31)).alloc (.cells #[.int .i64 kd, .int .i64 cl, .int .i64 ra, .int .i64 rb, .int .i64 rc, .int .i64 rd, .int .i64 re, .int .i64 rf, .int .i64 rg, .int .i64 rh, .int .i64 ri, .int .i64 rj, .int .i64 lo, .int .i64 hi, .int .i64 f, .bool fa, .int .i64 bu] 38)).alloc (.cells #[.int .i64 xa, .int .i64 xb, .int .i64 xc, .int .i64 xd, .int .i64 xe, .int .i64 xf, .int .i64 xg, .int .i64 xh, .int .i64 xi, .int .i64 xj] 36)) = w0 := ⟨_, rfl⟩
  rw [hw0] at hin
  have H3 := hid hin
  have HT0 : Hid (IsT w0 ma mn mc ts) := hT.jk hin.j
  clear hin hT
  obtain ⟨q0, q1, q2, q3, q4, q5, q6, q7, q8, q9, q10, q11, q12, q13, q14, q15, q16⟩ := H3.out.q.in
  simp only at q0 q1 q2 q3 q4 q5 q6 q7 q8 q9 q10 q11 q12 q13 q14 q15 q16
  have ql := H3.out.q.lt
  go_enter Tryz.func15, Tryz.ntmps15
  go_upto_region 2 with fail
  go_cut [22] (fun v wc => v = .bool (decide (k = 4)) ∧ w0 = wc)
  case first =>
    go_wp2
    go_meet
    case rel => exact ⟨by simp [Bool.beq_eq_decide_eq], rfl⟩
  case rest =>
  obtain ⟨rfl, rfl⟩ := hcut
  go_upto_if 22 with fail
  go_cut [9] (fun v wc => v = .int .i64 F ∧ w0 = wc)
  case first =>
    by_cases hk4 : k = 4
    · subst hk4
      obtain rfl : F = f := by rw [hff]; simp
      clear hff
      go_wp2
      go_meet
      case rel => exact ⟨rfl, rfl⟩
    · obtain rfl : F = k := by rw [hff, if_neg hk4]
      clear hff
      go_wp2
      go_meet
      case rel => exact ⟨rfl, rfl⟩
  case rest =>
  obtain ⟨rfl, rfl⟩ := hcut
  clear hff
  cases fb
  · obtain rfl := HC0 rfl
    have hnk : k < 0 ∨ 4 < k ∨ (k = 4 ∧ ¬ kd = 3) := by
      have h1 : ¬ ((k = 4 ∧ kd = 3) ∨ (0 ≤ k ∧ k < 4)) := fun h => by have := hfb.2 h; cases this
      omega
    clear hfb HC0 HCi
    go_upto_region 4 with fail
    go_cut [39] (fun v wc => v = .bool true ∧ w0 = wc)
    case first =>
      rcases hnk with h | h | ⟨h, h2⟩
      · go_wp2
        go_meet
        case rel => exact ⟨rfl, rfl⟩
      · have h0 : ¬ k < 0 := by omega
        go_wp2
        go_meet
        case rel => exact ⟨rfl, rfl⟩
      · subst h
        go_wp2
        go_meet
        case rel => exact ⟨by simp [h2], rfl⟩
    case rest =>
    obtain ⟨rfl, rfl⟩ := hcut
    go_wp2
    go_ret
    exact ⟨none, 0, 0, rfl, IsI.nil _, fun h => absurd h (Nat.lt_irrefl _), H3.out.j⟩
  · have hk5 : (k = 4 ∧ kd = 3) ∨ (0 ≤ k ∧ k < 4) := hfb.1 rfl
    have HCm := hid (HCi.out rfl)
    clear hfb HC0 HCi
    go_upto_region 4 with fail
    go_cut [39] (fun v wc => v = .bool false ∧ w0 = wc)
    case first =>
      rcases hk5 with ⟨h, h2⟩ | ⟨h, h2⟩
      · subst h h2
        go_wp2
        go_meet
        case rel => exact ⟨rfl, rfl⟩
      · have h3 : ¬ k < 0 := by omega
        have h4 : ¬ 4 < k := by omega
        have h5 : ¬ k = 4 := by omega
        go_wp2
        go_meet
        case rel => exact ⟨rfl, rfl⟩
    case rest =>
    obtain ⟨rfl, rfl⟩ := hcut
    clear q0 q1 q2 q3 q4 q5 q6 q7 q8 q9 q10 q11 q12 q13 q14 q15 q16 ql
    obtain ⟨kk, rfl⟩ := Int.eq_ofNat_of_zero_le (show 0 ≤ k by omega)
    have hkk : kk < 5 := by omega
    have HBc : Hid (∀ w', Jk w0 w' → w'.cell? ⟨w.heap.size + 1 + 1, kk * 2, none⟩ = some (.int .i64 s.lo) ∧ w'.cell? ⟨w.heap.size + 1 + 1, kk * 2 + 1, none⟩ = some (.int .i64 s.hi)) := hid fun w' hj => by
      have := (H3.out.b.jk hj).cellAt hkk
      rw [HS.out] at this
      exact this
    clear hk5 HS
    obtain ⟨wm, hwm⟩ : ∃ wm, w0.alloc (.map #[] 0) = wm := ⟨_, rfl⟩
    obtain ⟨bm, hbm⟩ : ∃ bm, w0.heap.size = bm := ⟨_, rfl⟩
    have HMp : Hid (MapZ wm bm 0 []) := hbm ▸ hwm ▸ MapZ.made w0
    have HJm : Hid (Jk w0 wm) := hwm ▸ (Jk.refl w0).alloc _
    have hwbm : w0.heap.size ≤ bm := by omega
    have HB0 := hid hwbm
    obtain ⟨m0, m1, m2, m3, m4, m5, m6⟩ := (H3.out.m.jk HJm.out).in
    simp only at m1 m2 m3 m4 m5 m6
    have L1 := lt_more3 m0
    have hmm := @run_makeMap Tryz.prog
    have HLn : Hid (ts.length = mn) := HT0.out.len
    clear hwbm
    go_upto_region 8 with fail
    clear hmm hwm hbm
    go_loopg [44] mn (fun r idx wr => ∃ (i q : Nat) (K : List Int), i + r = mn ∧ idx = .int .i64 (i : Int) ∧ Hid (MapZ wr bm q K) ∧ q ≤ 31 * i ∧ K.length ≤ 31 * i ∧ Hid (∀ z, z ∈ K ↔ z ∈ atsT ts F i ∧ s.lo ≤ z ∧ z < s.hi) ∧ Hid (Jk w0 wr))
    case atStart => exact ⟨0, 0, [], by omega, rfl, HMp, by omega, by simp, hid (fun z => by simp [atsT]), HJm⟩
    case round =>
      obtain ⟨i, q, K, hi, rfl, HK, hq, hKl, HKm, HJ⟩ := hrel
      by_cases hfuel : gk = 0
      · subst hfuel
        obtain rfl : i = mn := by omega
        clear m0 m1 m2 m3 m4 m5 m6 L1
        have HK0 : Hid (∀ z, z ∈ K → I64b z) := hid fun z hz => by
          obtain ⟨i2, _, h5⟩ := atsT_mem.1 ((HKm.out z).1 hz).1
          have := atsW_bd h5
          exact ⟨by omega, by omega⟩
        have HCK : Hid (∀ z, z ∈ K ↔ z ∈ C) := hid fun z => by rw [HKm.out z, HCm.out z]; simp only [HLn.out]
        have hnd := HK.out.nodup
        obtain ⟨w1, rfl⟩ : ∃ z, z = wr := ⟨_, rfl⟩
        have hbw1 := HK.out.lt
        go_upto_region 19 with fail
        go_upto_region 20 with (at_range; refine list_rangeZ rfl _ rfl HK.out rfl ?_; intro w2 hR hg2 hsz2; have HR := hid hR; have HG2 := hid hg2; clear hR hg2)
        go_frame
        have HJ2 : Hid (Jk w0 w2) := hid (HJ.out.grown HG2.out (fun k hk => by cases hk))
        obtain ⟨r0, hr0⟩ : ∃ z, w1.heap.size = z := ⟨_, rfl⟩
        rw [hr0] at HR hsz2 hbw1 ⊢
        have hr00 : w0.heap.size ≤ r0 := hr0 ▸ HJ.out.below.size
        have HQ0 := hid hr00
        clear hr0 hr00 HKm HCm HT0 HTs HLn
        go_loopg [17, 18, 19] K.length (fun r v17 v18 v19 wr => ∃ (out R : List Int) (n1 : Nat), OwnI (r0 + 1) wr v17 n1 out ∧ n1 + r ≤ 248 ∧ Hid (RngZ wr bm r0 R r) ∧ Hid (out.Pairwise (fun a b => a < b)) ∧ Hid (∀ z, z ∈ C ↔ z ∈ out ∨ z ∈ R) ∧ Hid (∀ z, z ∈ out → z ∉ R) ∧ Hid (Jk w0 wr) ∧ Hid R.Nodup)
        case atStart => exact ⟨[], K, 0, ⟨rfl, World.ownsRow_nil _ _ _ _⟩, by omega, HR, hid (by simp), hid (fun z => by rw [← HCK.out z]; simp), hid (by simp), HJ2, hid hnd⟩
        case round =>
          obtain ⟨out, R, n1, hO, hn1, HR3, HUo, HC3, HD3, HJ3, HN3⟩ := hrel
          have HO := hid hO
          clear hO
          have hlen := HO.out.1
          obtain ⟨w3, rfl⟩ : ∃ z, z = wr := ⟨_, rfl⟩
          obtain ⟨av, cv, rfl, hcv1, hcv2, -⟩ := row_form HO.out.2
          go_wp2_with (first | (at_next; refine list_nextZ rfl _ rfl HR3.out rfl ?_ ?_) | go_in)
          · intro hdone
            have hRe : ∀ z, z ∉ R := fun z hz => hdone z (HK0.out z ((HCK.out z).2 ((HC3.out z).2 (.inr hz)))) hz
            have hOC : out = C := up_ext HUo.out HUp.out fun z => by
              rw [HC3.out z]
              exact ⟨.inl, fun h => h.resolve_right (hRe z)⟩
            clear hdone
            go_wp2
            go_ret
            obtain ⟨a, c, e, h1, h2⟩ := own_isF HO.out (fun z hz => by have := HK0.out z ((HCK.out z).2 ((HC3.out z).2 (.inl hz))); exact this)
            simp only [Value.slice.injEq, true_and] at e
            obtain ⟨rfl, rfl⟩ := e
            exact ⟨_, n1, _, rfl, hOC ▸ h1, fun h0 => by obtain ⟨g, h3, h4⟩ := h2 h0; exact ⟨g, h3, by have := H3.out.sz; have := HQ0.out; omega⟩, H3.out.j.trans HJ3.out⟩
          · intro x c w4 cnt4 hx64 hxR hR4 hlt hg4 hs4 hen
            obtain ⟨w5, rfl⟩ : ∃ z, z = w4 := ⟨_, rfl⟩
            have HG4 := hid hg4
            have HR4 := hid hR4
            have hbr := HQ0.out
            have hb0 := HB0.out
            have HO4 := hid (HO.out.kept hg4 (own_ne HO.out.base (Nat.lt_succ_self r0)))
            have HJ4 := hid (HJ3.out.grown hg4 (fun k hk => by cases hk; exact HQ0.out))
            have hxo : x ∉ out := fun h => HD3.out x h hxR
            have HXm := hid (show x ∉ out ∧ x ∈ R from ⟨hxo, hxR⟩)
            clear hg4 hR4 HO HJ3 HR3 hxo hxR hbr hb0 hs4
            have hr5 := HR4.out.lt
            go_upto_region 24 with (at_builtin; refine list_appI rfl _ _ rfl (HO4.out.jk ((Jk.refl w5).alloc _)) (by rw [World.size_alloc]; omega) rfl _ 0 1 _ [x] rfl (by decide) rfl (fun i hi => new_cells _ #[.int .i64 x] _ _ rfl (0 + i) _ (by simp at hi; subst hi; rfl)) (by omega) ?_; intro g6 c6 w6 hO6 hG6; have HO6 := hid hO6; have HG6 := hid hG6; clear hO6 hG6)
            have HRx : Hid (RngZ w6 bm r0 (R.erase x) cnt4) := hid ((HR4.out.jk ((Jk.refl w5).alloc _)).kept HG6.out (fun e => by have := HO4.out.base bm e.symm; have := hbw1; omega) (fun e => by have := HO4.out.base r0 e.symm; omega))
            have HJ6 : Hid (Jk w0 w6) := hid ((HJ4.out.alloc _).grown HG6.out (fun k hk => by have := HO4.out.base k hk; have := HQ0.out; omega))
            have HO6' : Hid (OwnI (r0 + 1) w6 (.slice (some ⟨g6, 0, none⟩) (n1 + 1) c6) (n1 + 1) (gapL out out.length x)) := hid (by rw [gap_end]; exact HO6.out)
            have hgl := HO6.out.base g6 rfl
            have hcap6 : n1 + 1 ≤ c6 ∧ c6 ≤ maxLen := by
              obtain ⟨_, _, e, h1, h2, _⟩ := row_form HO6.out.2
              simp only [Value.slice.injEq, true_and] at e
              obtain ⟨_, rfl⟩ := e
              exact ⟨h1, h2⟩
            have hcap7 : c6 ≤ 9223372036854775807 := hcap6.2
            clear HO6 HG6 HO4 HR4 HJ4 hen
            go_loopg [19] out.length (fun r v19 wr => ∃ (y : Int), v19 = .int .i64 (r : Int) ∧ r ≤ out.length ∧ OwnI (r0 + 1) wr (.slice (some ⟨g6, 0, none⟩) (n1 + 1) c6) (n1 + 1) (gapL out r y) ∧ Hid (∀ i, r ≤ i → i < out.length → x < wd out i) ∧ Hid (RngZ wr bm r0 (R.erase x) cnt4) ∧ Hid (Jk w0 wr))
            case atStart => exact ⟨x, by rw [hlen], Nat.le_refl _, HO6'.out, hid (fun i h1 h2 => by omega), HRx, HJ6⟩
            case round =>
              obtain ⟨y, rfl, hjn, hOj, HDj, HRj, HJj⟩ := hrel
              have HOk := hid hOj
              have hgl2 := HOk.out.1
              have HA := hid HOk.out.at
              have hfz : ∀ i, wr.frozen? ⟨g6, i, none⟩ = false := fun i => HOk.out.2.frozenAt i
              have hlt6 : g6 < wr.heap.size := (World.ownsRow.lt HOk.out.2 g6 rfl).2
              clear hOj
              by_cases hz : gk = 0
              · subst hz
                have hc0 : wr.cell? ⟨g6, 0, none⟩ = some (.int .i64 (wd (gapL out 0 y) 0)) := HA.out 0 (by rw [hgl2]; omega)
                go_wp2
                go_roundg cnt4
                case measure => exact hlt
                case rel =>
                  refine ⟨gapL out 0 x, R.erase x, n1 + 1, OwnK.stored HOk.out x 0 (gap_set out (Nat.zero_le _) y x), by omega, hid (HRj.out.kept (grown_set wr g6 0 (.int .i64 x)) (fun e => by cases e; omega) (fun e => by cases e; omega)), hid (gap_up HUo.out (Nat.zero_le _) HXm.out.1 HDj.out (.inl rfl)), hid (fun z => ?_), hid (fun z hz => ?_), hid (HJj.out.grown (grown_set wr g6 0 (.int .i64 x)) (fun k hk => by cases hk; have := HQ0.out; omega)), hid (HN3.out.erase x)⟩
                  · rw [HC3.out z, gap_mem, HN3.out.mem_erase_iff]
                    by_cases e : z = x
                    · subst e; simp [HXm.out.2]
                    · simp [e]
                  · rw [HN3.out.mem_erase_iff]
                    rintro ⟨h1, h2⟩
                    rcases (gap_mem out _ x z).1 hz with h | h
                    · exact HD3.out z h h2
                    · exact h1 h
              · obtain ⟨j, rfl⟩ : ∃ j, gk = j + 1 := ⟨gk - 1, by omega⟩
                have hcj : wr.cell? ⟨g6, j, none⟩ = some (.int .i64 (wd out j)) := by
                  have := HA.out j (by rw [hgl2]; omega)
                  rw [gap_low out (Nat.lt_succ_self j) hjn] at this
                  simpa using this
                have hcj1 : wr.cell? ⟨g6, j + 1, none⟩ = some (.int .i64 (wd (gapL out (j + 1) y) (j + 1))) := by
                  have := HA.out (j + 1) (by rw [hgl2]; omega)
                  simpa using this
                have hwd : I64b (wd out j) := HK0.out _ ((HCK.out _).2 ((HC3.out _).2 (.inl (wd_mem (by omega)))))
                obtain ⟨wj, hwj⟩ : ∃ z, wd out j = z := ⟨_, rfl⟩
                rw [hwj] at hcj hwd
                have HWj := hid hwj
                clear hwj
                by_cases hgt : x < wj
                · go_wp2
                  go_roundg j
                  case measure => omega
                  case rel =>
                    refine ⟨wj, rfl, by omega, ?_, hid (fun i h1 h2 => ?_), hid (HRj.out.kept (grown_set wr g6 (j + 1) (.int .i64 wj)) (fun e => by cases e; omega) (fun e => by cases e; omega)), hid (HJj.out.grown (grown_set wr g6 (j + 1) (.int .i64 wj)) (fun k hk => by cases hk; have := HQ0.out; omega))⟩
                    · refine OwnK.stored HOk.out wj (j + 1) ?_
                      rw [gap_set out hjn, ← HWj.out, gap_step out hjn]
                    · by_cases e : i = j
                      · subst e; rw [HWj.out]; exact hgt
                      · exact HDj.out i (by omega) h2
                · go_wp2
                  go_roundg cnt4
                  case measure => exact hlt
                  case rel =>
                    refine ⟨gapL out (j + 1) x, R.erase x, n1 + 1, OwnK.stored HOk.out x (j + 1) (gap_set out hjn y x), by omega, hid (HRj.out.kept (grown_set wr g6 (j + 1) (.int .i64 x)) (fun e => by cases e; omega) (fun e => by cases e; omega)), hid (gap_up HUo.out hjn HXm.out.1 HDj.out (.inr (by rw [Nat.add_sub_cancel, HWj.out]; omega))), hid (fun z => ?_), hid (fun z hz => ?_), hid (HJj.out.grown (grown_set wr g6 (j + 1) (.int .i64 x)) (fun k hk => by cases hk; have := HQ0.out; omega)), hid (HN3.out.erase x)⟩
                    · rw [HC3.out z, gap_mem, HN3.out.mem_erase_iff]
                      by_cases e : z = x
                      · subst e; simp [HXm.out.2]
                      · simp [e]
                    · rw [HN3.out.mem_erase_iff]
                      rintro ⟨h1, h2⟩
                      rcases (gap_mem out _ x z).1 hz with h | h
                      · exact HD3.out z h h2
                      · exact h1 h
      · obtain ⟨r, rfl⟩ : ∃ r, gk = r + 1 := ⟨gk - 1, by omega⟩
        have hin : (i : Int) < (mn : Int) := by omega
        obtain ⟨g, o, rfl, hg, hat⟩ := HT0.out.lies (by omega)
        have hgr : g < wr.heap.size := Nat.lt_of_lt_of_le hg HJ.out.below.size
        obtain ⟨k0, k1⟩ := (hat.jk HJ.out hg) i (by have := HLn.out; omega)
        have hok := (HT0.out.all i (by omega)).is
        have HTr : Hid (TreeP (tA ts i).ws d) := HTs.out i (by omega)
        have HAt : Hid (atsT ts F (i + 1) = atsT ts F i ++ atsW (tA ts i).ws F (tA ts i).ws.length) := rfl
        obtain ⟨t, ht⟩ : ∃ t, tA ts i = t := ⟨_, rfl⟩
        rw [ht] at k0 k1 hok HTr HAt
        clear ht hat
        obtain ⟨cl, ta, tn, tc, tw⟩ := t
        simp only at k0 k1 HTr HAt hok
        have HW := hid hok
        have hmax2 := hok.max
        have hcap2 := hok.cap
        have HLw : Hid (tw.length = tn) := hok.len
        have h31 : tn ≤ 31 := by have := HTr.out.few; rw [HLw.out] at this; exact this
        unfold maxLen at hmax2
        clear hok
        have L2 := lt_more3 hgr
        go_upto_region 11 with fail
        go_loopg [51] tn (fun r idx wr => ∃ (x q2 : Nat) (K2 : List Int), x + r = tn ∧ idx = .int .i64 (x : Int) ∧ Hid (MapZ wr bm q2 K2) ∧ q2 ≤ 31 * i + x ∧ K2.length ≤ 31 * i + x ∧ Hid (∀ z, z ∈ K2 ↔ (z ∈ atsT ts F i ∨ z ∈ atsW tw F x) ∧ s.lo ≤ z ∧ z < s.hi) ∧ Hid (Jk w0 wr))
        case atStart => exact ⟨0, q, K, by omega, rfl, hid (HK.out.jk ((Jk.refl wr).alloc _)), by omega, by omega, hid (fun z => by rw [HKm.out z]; simp [atsW]), hid (HJ.out.alloc _)⟩
        case round =>
          obtain ⟨x, q2, K2, hx, rfl, HK2, hq2, hK2l, HK2m, HJ2⟩ := hrel
          clear k0 k1
          by_cases hfuel2 : gk = 0
          · subst hfuel2
            obtain rfl : x = tn := by omega
            go_wp2
            go_roundg r
            case measure => omega
            case rel => exact ⟨i + 1, q2, K2, by omega, by go_num, HK2, by omega, by omega, hid (fun z => by rw [HK2m.out z, HAt.out, List.mem_append, HLw.out]), HJ2⟩
          · obtain ⟨r2, rfl⟩ : ∃ r, gk = r + 1 := ⟨gk - 1, by omega⟩
            have hxn : (x : Int) < (tn : Int) := by omega
            obtain ⟨g2, o2, rfl, hg2, hat2⟩ := HW.out.lies (by omega)
            have hgr2 : g2 < wr.heap.size := Nat.lt_of_lt_of_le hg2 HJ2.out.below.size
            have k2 : wr.cell? ⟨g2, o2 + x, none⟩ = some (.int .u64 (wd tw x)) := (hat2.jk HJ2.out hg2) x (by rw [HLw.out]; omega)
            obtain ⟨bd1, bd2⟩ := HW.out.bd x (by omega)
            have hu : unB (wd tw x) = true := HTr.out.can x (by rw [HLw.out]; omega)
            have HU := hid (runpack_ans (wd tw x) bd1 bd2)
            have HAx : Hid (atsW tw F (x + 1) = atsW tw F x ++ (if partB (wd tw x) F = true then [sgI (wd tw x)] else [])) := rfl
            have HPt : Hid ((partB (wd tw x) F = true ↔ (unI (wd tw x)).leaf = false ∧ (unI (wd tw x)).f = F) ∧ (partB (wd tw x) F = true → sgI (wd tw x) = (unI (wd tw x)).a)) := ⟨part_iff hu, fun h => part_at hu h⟩
            have HA32 : Hid (I64b (unI (wd tw x)).a) := by
              show I64b (unI (wd tw x)).a
              unfold unI
              rw [if_pos hu]
              unfold readI
              split
              · exact ⟨by show (-9223372036854775808 : Int) ≤ 0; omega, by show (0 : Int) ≤ 9223372036854775807; omega⟩
              · have := sg_bd (wd tw x)
                exact ⟨by show _ ≤ sgI (wd tw x); omega, by show sgI (wd tw x) ≤ _; omega⟩
            rw [hu] at HU
            obtain ⟨z, hz⟩ : ∃ z, unI (wd tw x) = z := ⟨_, rfl⟩
            rw [hz] at HU HPt HA32
            obtain ⟨pb, hpb⟩ : ∃ pb, partB (wd tw x) F = pb := ⟨_, rfl⟩
            obtain ⟨sg, hsg⟩ : ∃ sg, sgI (wd tw x) = sg := ⟨_, rfl⟩
            rw [hpb, hsg] at HPt HAx
            clear hz bd1 bd2 hat2 hu hpb hsg
            obtain ⟨leaf, v, ff, aa, ll, rr⟩ := z
            simp only [nodeV] at HU HPt HA32
            go_upto_region 13 with fail
            go_cut [15, 16] (fun p ok wc => ∃ gn, p = .pointer (some ⟨gn, 0, none⟩) ∧ ok = .bool true ∧ wc.heap[gn]? = some (.cells #[.bool leaf, .int .i64 v, .int .i64 ff, .int .i64 aa, .int .i64 ll, .int .i64 rr] 77 (0, 0)) ∧ Jk wr wc)
            case first =>
              go_wp2_with (first | (go_at_call 31; refine (HU.out.on _).mono ?_; rintro e w5 ⟨rfl, X5, rfl⟩))
              go_meet
              case rel => exact ⟨_, rfl, rfl, by have := heap_alloc_new (junk wr X5) (.cells #[.bool leaf, .int .i64 v, .int .i64 ff, .int .i64 aa, .int .i64 ll, .int .i64 rr] 77 (0, 0)); rwa [junk_size] at this, ((Jk.refl wr).junk X5).alloc _⟩
            case rest =>
            obtain ⟨gn, rfl, rfl, hN, hj3⟩ := hcut
            obtain ⟨w3, rfl⟩ : ∃ z, z = wc := ⟨_, rfl⟩
            have HJ3 := hid (HJ2.out.trans hj3)
            have HK3 := hid (HK2.out.jk hj3)
            clear hj3 k2 HK2 HJ2 HU
            have c0 : w3.cell? ⟨gn, 0, none⟩ = some (.bool leaf) := by rw [cell_of_row _ _ _ _ _ _ hN]; rfl
            have c2 : w3.cell? ⟨gn, 2, none⟩ = some (.int .i64 ff) := by rw [cell_of_row _ _ _ _ _ _ hN]; rfl
            have c3 : w3.cell? ⟨gn, 3, none⟩ = some (.int .i64 aa) := by rw [cell_of_row _ _ _ _ _ _ hN]; rfl
            have cl := (Array.getElem?_eq_some_iff.1 hN).1
            obtain ⟨b0, b1⟩ := HBc.out w3 HJ3.out
            have bl : w.heap.size + 1 + 1 < w3.heap.size := Nat.lt_of_lt_of_le H3.out.b.lt HJ3.out.below.size
            have hkb : (kk : Int) < 5 := by omega
            obtain ⟨hb, hhb⟩ : ∃ hb : Bool, hb = true ↔ leaf = false ∧ ff = F ∧ s.lo ≤ aa ∧ aa < s.hi := ⟨decide (leaf = false ∧ ff = F ∧ s.lo ≤ aa ∧ aa < s.hi), by simp⟩
            go_upto_region 14 with fail
            go_cut [89] (fun v wc => v = .bool hb ∧ ∃ Y, wc = junk w3 Y)
            case first =>
              cases leaf
              · by_cases h1 : ff = F
                · by_cases h2 : s.lo ≤ aa
                  · by_cases h3 : aa < s.hi
                    · obtain rfl : true = hb := (hhb.2 ⟨rfl, h1, h2, h3⟩).symm
                      refine region_junk (by kernel_rfl) (by kernel_rfl) ?_
                      repeat (go_big_quiet_step (exact rfl))
                      refine wpQuiet_nil ?_
                      rintro _ ⟨Y, rfl⟩
                      go_wp2
                      go_meet
                      case rel => exact ⟨rfl, Y, rfl⟩
                    · obtain rfl : false = hb := (Bool.eq_false_iff.2 fun e => h3 (hhb.1 e).2.2.2).symm
                      refine region_junk (by kernel_rfl) (by kernel_rfl) ?_
                      repeat (go_big_quiet_step (exact rfl))
                      refine wpQuiet_nil ?_
                      rintro _ ⟨Y, rfl⟩
                      go_wp2
                      go_meet
                      case rel => exact ⟨rfl, Y, rfl⟩
                  · obtain rfl : false = hb := (Bool.eq_false_iff.2 fun e => h2 (hhb.1 e).2.2.1).symm
                    refine region_junk (by kernel_rfl) (by kernel_rfl) ?_
                    iterate 21 (go_big_quiet_step (exact rfl))
                    refine WQ.out ?_
                    refine WQ.move (by kernel_rfl) _ rfl _ rfl ?_
                    simp only [Act.put, List.setIfInBounds_toArray, List.set_cons_succ, List.set_cons_zero]
                    iterate 7 (refine WQ.skip (by kernel_rfl) ?_; simp only [Act.put, List.setIfInBounds_toArray, List.set_cons_succ, List.set_cons_zero])
                    refine WQ.pickF (by kernel_rfl) _ _ _ rfl rfl _ rfl ?_
                    simp only [Act.put, List.setIfInBounds_toArray, List.set_cons_succ, List.set_cons_zero]
                    refine ⟨?_⟩
                    refine wpQuiet_nil ?_
                    rintro _ ⟨Y, rfl⟩
                    go_wp2
                    go_meet
                    case rel => exact ⟨rfl, Y, rfl⟩
                · obtain rfl : false = hb := (Bool.eq_false_iff.2 fun e => h1 (hhb.1 e).2.1).symm
                  have h1b : (ff == F) = false := by simpa using h1
                  refine region_junk (by kernel_rfl) (by kernel_rfl) ?_
                  iterate 12 (go_big_quiet_step (exact rfl))
                  refine WQ.out ?_
                  refine WQ.move (by kernel_rfl) _ rfl _ rfl ?_
                  simp only [Act.put, List.setIfInBounds_toArray, List.set_cons_succ, List.set_cons_zero]
                  iterate 7 (refine WQ.skip (by kernel_rfl) ?_; simp only [Act.put, List.setIfInBounds_toArray, List.set_cons_succ, List.set_cons_zero])
                  refine WQ.pickF (by kernel_rfl) _ _ _ rfl rfl _ rfl ?_
                  simp only [Act.put, List.setIfInBounds_toArray, List.set_cons_succ, List.set_cons_zero]
                  refine WQ.move (by kernel_rfl) _ rfl _ rfl ?_
                  simp only [Act.put, List.setIfInBounds_toArray, List.set_cons_succ, List.set_cons_zero]
                  iterate 7 (refine WQ.skip (by kernel_rfl) ?_; simp only [Act.put, List.setIfInBounds_toArray, List.set_cons_succ, List.set_cons_zero])
                  refine WQ.pickF (by kernel_rfl) _ _ _ rfl rfl _ rfl ?_
                  simp only [Act.put, List.setIfInBounds_toArray, List.set_cons_succ, List.set_cons_zero]
                  refine ⟨?_⟩
                  refine wpQuiet_nil ?_
                  rintro _ ⟨Y, rfl⟩
                  go_wp2
                  go_meet
                  case rel => exact ⟨rfl, Y, rfl⟩
              · obtain rfl : false = hb := (Bool.eq_false_iff.2 fun e => by have := (hhb.1 e).1; cases this).symm
                refine region_junk (by kernel_rfl) (by kernel_rfl) ?_
                iterate 6 (go_big_quiet_step (exact rfl))
                refine WQ.out ?_
                refine WQ.move (by kernel_rfl) _ rfl _ rfl ?_
                simp only [Act.put, List.setIfInBounds_toArray, List.set_cons_succ, List.set_cons_zero]
                iterate 4 (refine WQ.skip (by kernel_rfl) ?_; simp only [Act.put, List.setIfInBounds_toArray, List.set_cons_succ, List.set_cons_zero])
                refine WQ.pickF (by kernel_rfl) _ _ _ rfl rfl _ rfl ?_
                simp only [Act.put, List.setIfInBounds_toArray, List.set_cons_succ, List.set_cons_zero]
                refine WQ.move (by kernel_rfl) _ rfl _ rfl ?_
                simp only [Act.put, List.setIfInBounds_toArray, List.set_cons_succ, List.set_cons_zero]
                iterate 7 (refine WQ.skip (by kernel_rfl) ?_; simp only [Act.put, List.setIfInBounds_toArray, List.set_cons_succ, List.set_cons_zero])
                refine WQ.pickF (by kernel_rfl) _ _ _ rfl rfl _ rfl ?_
                simp only [Act.put, List.setIfInBounds_toArray, List.set_cons_succ, List.set_cons_zero]
                refine WQ.move (by kernel_rfl) _ rfl _ rfl ?_
                simp only [Act.put, List.setIfInBounds_toArray, List.set_cons_succ, List.set_cons_zero]
                iterate 7 (refine WQ.skip (by kernel_rfl) ?_; simp only [Act.put, List.setIfInBounds_toArray, List.set_cons_succ, List.set_cons_zero])
                refine WQ.pickF (by kernel_rfl) _ _ _ rfl rfl _ rfl ?_
                simp only [Act.put, List.setIfInBounds_toArray, List.set_cons_succ, List.set_cons_zero]
                refine ⟨?_⟩
                refine wpQuiet_nil ?_
                rintro _ ⟨Y, rfl⟩
                go_wp2
                go_meet
                case rel => exact ⟨rfl, Y, rfl⟩
            case rest =>
            obtain ⟨rfl, Y, rfl⟩ := hcut
            have HJx : Hid (Jk w3 (junk w3 Y)) := ⟨Y, rfl⟩
            have d3 : (junk w3 Y).cell? ⟨gn, 3, none⟩ = some (.int .i64 aa) := by
              rw [HJx.out.below.cell (p := ⟨gn, 3, none⟩) cl]; exact c3
            have dl : gn < (junk w3 Y).heap.size := Nat.lt_of_lt_of_le cl HJx.out.below.size
            generalize junk w3 Y = w4 at HJx d3 dl ⊢
            have HJ4 := hid (HJ3.out.trans HJx.out)
            have HK4 := hid (HK3.out.jk HJx.out)
            have HHb := hid hhb
            clear c0 c2 c3 cl b0 b1 bl hkb hN HJx HJ3 HK3 hhb
            cases hb
            · go_wp2
              go_roundg r2
              case measure => omega
              case rel =>
                refine ⟨x + 1, q2, K2, by omega, by go_num, HK4, by omega, by omega, hid (fun z => ?_), HJ4⟩
                rw [HK2m.out z, HAx.out]
                by_cases hp : pb = true
                · rw [if_pos hp, List.mem_append, List.mem_singleton]
                  have h1 := HPt.out.1.1 hp
                  have h2 := HPt.out.2 hp
                  constructor
                  · rintro ⟨h | h, h3⟩
                    · exact ⟨.inl h, h3⟩
                    · exact ⟨.inr (.inl h), h3⟩
                  · rintro ⟨h | h | h, h3⟩
                    · exact ⟨.inl h, h3⟩
                    · exact ⟨.inr h, h3⟩
                    · subst h
                      have := HHb.out.2 ⟨h1.1, h1.2, h2 ▸ h3⟩
                      cases this
                · rw [if_neg hp, List.append_nil]
            · have hbb := HHb.out.1 rfl
              have hbw := HK4.out.lt
              go_wp2_with (at_mapUpdate; refine list_updZ rfl _ _ _ rfl HK4.out (by omega) rfl aa HA32.out rfl true rfl ?_; intro w7 hM7 hG7; have HM7 := hid hM7; have HG7 := hid hG7; clear hM7 hG7)
              go_roundg r2
              case measure => omega
              case rel =>
                refine ⟨x + 1, q2 + 1, _, by omega, by go_num, HM7, by omega, by have := addZ_len K2 aa; omega, hid (fun z => ?_), hid (HJ4.out.grown HG7.out (fun k hk => by cases hk; exact HB0.out))⟩
                have hp : pb = true := HPt.out.1.2 ⟨hbb.1, hbb.2.1⟩
                have hsg := HPt.out.2 hp
                rw [addZ_mem, HK2m.out z, HAx.out, if_pos hp, List.mem_append, List.mem_singleton]
                constructor
                · rintro (⟨h | h, h3⟩ | h)
                  · exact ⟨.inl h, h3⟩
                  · exact ⟨.inr (.inl h), h3⟩
                  · subst h
                    exact ⟨.inr (.inr hsg.symm), hbb.2.2⟩
                · rintro ⟨h | h | h, h3⟩
                  · exact .inl ⟨.inl h, h3⟩
                  · exact .inl ⟨.inr h, h3⟩
                  · exact .inr (h.trans hsg)

/-- a row of numbers, in every world that grew from ww -/
theorem rcuts_ans {m : Md} (q : Qy) (b : Bx) (k : Int) {ww : World} (hm : m.ok ww) (hr : RightM m) {zs : List Int} (hz : cutsI m q b k = zs) : AnsZ ww 15 #[modelV m, queryV q, boxV b, .int .i64 k] zs := fun w hj => hz ▸ rcuts_any hm hr w hj

end Go.Proofs.YtkkbeobocbgmeaaGreat

namespace Go.Proofs.YtkkbeobocbgmeaaGreat
open Go.RowKit M

def flatX : List Bx → List Value
  | [] => []
  | x :: L => boxL x ++ flatX L
theorem flatX_append (L M : List Bx) : flatX (L ++ M) = flatX L ++ flatX M := by
  induction L with
  | nil => rfl
  | cons x L ih => simp [flatX, ih]
theorem flatX_length (L : List Bx) : (flatX L).length = L.length * 10 := by
  induction L with
  | nil => rfl
  | cons x L ih => simp [flatX, ih]; omega
theorem flatX_at (L : List Bx) (i j : Nat) (v : Value) (h : i < L.length) (hv : (boxL (xA L i))[j]? = some v) : (flatX L)[i * 10 + j]? = some v := by
  induction L generalizing i with
  | nil => simp at h
  | cons x L ih =>
    cases i with
    | zero =>
      have hj : j < (boxL x).length := (List.getElem?_eq_some_iff.1 hv).1
      rw [Nat.zero_mul, Nat.zero_add, flatX, List.getElem?_append_left hj]
      exact hv
    | succ i =>
      have e : (i + 1) * 10 + j = (boxL x).length + (i * 10 + j) := by simp; omega
      rw [e, flatX, List.getElem?_append_right (by omega), Nat.add_sub_cancel_left]
      exact ih i (by simp at h; omega) hv
theorem flatX_one (L : List Bx) : ∀ u ∈ flatX L, u.oneCell' = true := by
  induction L with
  | nil => intro u h; cases h
  | cons x L ih =>
    intro u h
    rw [flatX, List.mem_append] at h
    rcases h with h | h
    · simp only [List.mem_cons, List.not_mem_nil, or_false] at h
      rcases h with rfl | rfl | rfl | rfl | rfl | rfl | rfl | rfl | rfl | rfl <;> rfl
    · exact ih u h
/-- a row of the call's own: boxes -/
structure OwnX (B : Nat) (w : World) (v : Value) (n : Nat) (L : List Bx) : Prop where
  len : L.length = n
  row : w.ownsRow B 36 10 v n (flatX L)
theorem OwnX.kept {B : Nat} {w w' : World} {v : Value} {n : Nat} {L : List Bx} (h : OwnX B w v n L) {row : Option Nat} (hg : w.grownBy w' row) (hne : v.ownBlock = none ∨ v.ownBlock ≠ row) : OwnX B w' v n L := ⟨h.1, h.2.kept hg hne⟩
theorem OwnX.jk {B : Nat} {w w' : World} {v : Value} {n : Nat} {L : List Bx} (h : OwnX B w v n L) (hj : Jk w w') : OwnX B w' v n L := ⟨h.1, row_below h.2 hj⟩
theorem OwnX.base {B : Nat} {w : World} {v : Value} {n : Nat} {L : List Bx} (h : OwnX B w v n L) : ∀ k, v.ownBlock = some k → B ≤ k := fun k hk => (World.ownsRow.lt h.2 k hk).1
theorem OwnX.mono {B B' : Nat} {w : World} {v : Value} {n : Nat} {L : List Bx} (h : OwnX B w v n L) (hb : B' ≤ B) : OwnX B' w v n L := by
  refine ⟨h.len, h.row.1, ?_⟩
  rcases h.row.2 with h1 | ⟨g, c, cur, e, h2, h3⟩
  · exact .inl h1
  · exact .inr ⟨g, c, cur, e, Nat.le_trans hb h2, h3⟩
theorem OwnX.lt {B : Nat} {w : World} {v : Value} {n : Nat} {L : List Bx} (h : OwnX B w v n L) : ∀ k, v.ownBlock = some k → k < w.heap.size := fun k hk => (World.ownsRow.lt h.2 k hk).2
theorem OwnX.nil (B : Nat) (w : World) : OwnX B w (.slice none 0 0) 0 [] := ⟨rfl, World.ownsRow_nil _ _ _ _⟩
theorem OwnX.rows {B : Nat} {w : World} {g c n : Nat} {L : List Bx} (h : OwnX B w (.slice (some ⟨g, 0, none⟩) n c) n L) : BxA w g (xA L) n := fun i hi j v hv => by
  have h1 := World.ownsRow.cells h.2 (g := g) rfl (i * 10 + j) _ (flatX_at L i j v (by rw [h.1]; exact hi) hv)
  rwa [add_at, Nat.zero_add] at h1
theorem OwnX.form {B : Nat} {w : World} {v : Value} {n : Nat} {L : List Bx} (h : OwnX B w v n L) (hn : 0 < n) : ∃ g c, v = .slice (some ⟨g, 0, none⟩) n c ∧ n ≤ c ∧ c ≤ maxLen ∧ B ≤ g ∧ g < w.heap.size := by
  obtain ⟨a, c, rfl, h1, h2, h3⟩ := row_form h.row
  obtain ⟨g, rfl, h4, h5⟩ := h3 hn
  exact ⟨g, c, rfl, h1, h2, h4, h5⟩
theorem OwnX.one (w : World) (x : Bx) (B : Nat) (hB : B ≤ w.heap.size) : OwnX B (w.alloc (.cells #[.int .i64 x.a.lo, .int .i64 x.a.hi, .int .i64 x.b.lo, .int .i64 x.b.hi, .int .i64 x.c.lo, .int .i64 x.c.hi, .int .i64 x.d.lo, .int .i64 x.d.hi, .int .i64 x.e.lo, .int .i64 x.e.hi] 36)) (.slice (some ⟨w.heap.size, 0, none⟩) 1 1) 1 [x] :=
  ⟨rfl, World.ownsRow_lit w _ 1 hB (by unfold maxLen; omega) rfl⟩
/-- one box, laid in a block of its own -/
def AtX (w : World) (b : Nat) (x : Bx) : Prop := w.rangeAt b 0 (boxL x)
theorem new_box (w : World) (x : Bx) (b : Nat) (hb : b = w.heap.size) : AtX (w.alloc (.cells #[.int .i64 x.a.lo, .int .i64 x.a.hi, .int .i64 x.b.lo, .int .i64 x.b.hi, .int .i64 x.c.lo, .int .i64 x.c.hi, .int .i64 x.d.lo, .int .i64 x.d.hi, .int .i64 x.e.lo, .int .i64 x.e.hi] 36)) b x := fun j v hv => by
  subst hb
  exact new_cells w #[.int .i64 x.a.lo, .int .i64 x.a.hi, .int .i64 x.b.lo, .int .i64 x.b.hi, .int .i64 x.c.lo, .int .i64 x.c.hi, .int .i64 x.d.lo, .int .i64 x.d.hi, .int .i64 x.e.lo, .int .i64 x.e.hi] _ _ rfl (0 + j) _ (by simpa using hv)
/-- ONE APPEND of a box -/
theorem list_appX {ops : Array Oper} {rest : List Oper} {o : Oper} {act : Act} {Q : Exit → Act → World → Prop} {B : Nat} {w : World} {v : Value} {n : Nat} {L : List Bx}
    (hgd : o.guard = none) (s x : Operand) (ho : o.op = .call { callee := .builtin .append, args := #[s, x], argTypes := #[42, 42] })
    (hown : OwnX B w v n L) (hB : B ≤ w.heap.size) (hs : act.eval s = v) (b : Nat) (y : Bx) (hxv : act.eval x = .slice (some ⟨b, 0, none⟩) 1 1) (hx : AtX w b y) (hl : n + 1 ≤ 2000)
    (h : ∀ g' c' w', OwnX B w' (.slice (some ⟨g', 0, none⟩) (n + 1) c') (n + 1) (L ++ [y]) → w.grownBy w' v.ownBlock → (v.ownBlock = some g' ∨ g' = w.heap.size) → wpList Tryz.prog ops Q rest (act.put o.dst (.slice (some ⟨g', 0, none⟩) (n + 1) c')) w') :
    wpList Tryz.prog ops Q (o :: rest) act w := by
  obtain ⟨i0, hi0, hz0, hz1, hz2⟩ := info_parts infoXs
  refine wpList_append_lies (P := Tryz.prog) w hgd s x 42 ho B 36 i0 _ 10 80 Tryz.underlying42 hi0 hz0 hz1 hz2 rfl (by omega) v n (flatX L) hs hown.2 ⟨b, 0, none⟩ 1 1 (flatX [y]) hxv (by rw [flatX_length]; rfl) ?_ (flatX_one [y]) (by omega) (by unfold maxLen; omega) (by omega) hB _ rfl ?_
  · intro j u hu
    rw [add_at]
    exact hx j u (by simpa [flatX] using hu)
  · intro g c' w' h1 h2 h3 _
    exact h g c' w' ⟨by rw [List.length_append, hown.1]; rfl, by rw [flatX_append]; exact h1⟩ h2 h3

/-- all cells of a box, appended one by one; or none -/
def GotXc (w : World) (N : Nat) (ok : Bool) (X : Nat → Bx) (e : Ending) (w' : World) : Prop :=
  (ok = true → ∃ g c, e = .returned (.tuple #[.slice (some ⟨g, 0, none⟩) N c, .bool true]) ∧ N ≤ c ∧ c ≤ maxLen ∧ w.heap.size ≤ g ∧ g < w'.heap.size ∧ BxA w' g X N) ∧ (ok = false → e = .returned (.tuple #[.slice none 0 0, .bool false])) ∧ Jk w w'
theorem BxA.congr {w : World} {g n : Nat} {X Y : Nat → Bx} (h : BxA w g X n) (e : ∀ i, i < n → X i = Y i) : BxA w g Y n := fun i hi => e i hi ▸ h i hi
theorem cuts_bd {m : Md} {q : Qy} {b : Bx} {k z : Int} (h : z ∈ cutsI m q b k) : -2147483648 ≤ z ∧ z ≤ 2147483647 := by
  have h1 := (cutsI_mem.1 h).2.1
  unfold thrM at h1
  obtain ⟨i, _, h5⟩ := atsT_mem.1 (thr_mem.1 h1)
  exact atsW_bd h5
/-- numbers in a block, from its beginning on -/
def AtZ (w : World) (g : Nat) (L : List Int) : Prop := g < w.heap.size ∧ ∀ t, t < L.length → w.cell? ⟨g, t, none⟩ = some (.int .i64 (wd L t))
theorem AtZ.kept {w w' : World} {g : Nat} {L : List Int} (h : AtZ w g L) {row : Option Nat} (hg : w.grownBy w' row) (hne : some g ≠ row) : AtZ w' g L :=
  ⟨Nat.lt_of_lt_of_le h.1 hg.size, fun t ht => by rw [cell_blk (hg.block g h.1 hne)]; exact h.2 t ht⟩
theorem AtZ.jk {w w' : World} {g : Nat} {L : List Int} (h : AtZ w g L) (hj : Jk w w') : AtZ w' g L :=
  ⟨Nat.lt_of_lt_of_le h.1 hj.below.size, fun t ht => by rw [cell_blk (hj.below.block g h.1)]; exact h.2 t ht⟩

end Go.Proofs.YtkkbeobocbgmeaaGreat

namespace Go.Proofs.YtkkbeobocbgmeaaGreat
open Go.RowKit M

set_option maxRecDepth 100000 in
set_option maxHeartbeats 12800000 in
theorem rcells_any {m : Md} (q : Qy) (b : Bx) (most : Int) {ww : World} (hm : m.ok ww) (hr : RightM m) (hmost : most ≤ 1000) {N : Nat} (hN : cntX (cutsI m q b) = N) {X : Nat → Bx} (hX : cellX b (cutsI m q b) = X) {ok : Bool} (hok : decide ((N : Int) ≤ most) = ok) (w : World) (hjw : Jk ww w) : Calls Tryz.prog 9 #[modelV m, queryV q, boxV b, .int .i64 most] w fun e w' => GotXc w N ok X e w' := by
  have J := rules8
  have HC : Hid (∀ k, AnsZ w 15 #[modelV m, queryV q, boxV b, .int .i64 k] (cutsI m q b k)) := fun k => (rcuts_ans q b k hm hr rfl).up hjw
  have H24 : Hid (∀ k, (cutsI m q b k).length ≤ 248) := cutsI_len hr q b
  have HBd : Hid (∀ k z, z ∈ cutsI m q b k → -2147483648 ≤ z ∧ z ≤ 2147483647) := fun k z h => cuts_bd h
  obtain ⟨K, hK⟩ : ∃ K, cutsI m q b = K := ⟨_, rfl⟩
  rw [hK] at HC H24 HBd hN hX
  have HP5 : Hid (prodL K 5 = N) := hN ▸ prodL_all K
  have HPl : Hid (∀ i, i ≤ 5 → prodL K i ≤ N) := fun i hi => hN ▸ prodL_le K hi
  have HX : Hid (∀ n, n < N → xA (cellsL b K 5) n = X n) := fun n hn => by rw [← hX]; exact cellsL_at b K (hN ▸ hn)
  clear hK hm hr hjw hN hX
  have hin := in3_laid w m.d m.k m.b0 m.b1 m.b2 m.a m.n m.c m.ts q.kd q.cl q.rg.a.lo q.rg.a.hi q.rg.b.lo q.rg.b.hi q.rg.c.lo q.rg.c.hi q.rg.d.lo q.rg.d.hi q.rg.e.lo q.rg.e.hi q.lo q.hi q.f q.fa q.bu b.a.lo b.a.hi b.b.lo b.b.hi b.c.lo b.c.hi b.d.lo b.d.hi b.e.lo b.e.hi
  simp only [modelV, queryV, boxV] at HC ⊢
  obtain ⟨w0, hw0⟩ : ∃ w0, ((w.alloc (.cells #[.int .i64 m.d, .int .i64 m.k, .int .i64 m.b0, .int .i64 m.b1, .int .i64 m.b2, .slice m.a m.n m.c] 31)).alloc (.cells #[.int .i64 q.kd, .int .i64 q.cl, .int .i64 q.rg.a.lo, .int .i64 q.rg.a.hi, .int .i64 q.rg.b.lo, .int .i64 q.rg.b.hi, .int .i64 q.rg.c.lo, .int .i64 q.rg.c.hi, .int .i64 q.rg.d.lo, .int .i64 q.rg.d.hi, .int .i64 q.rg.e.lo, .int .i64 q.rg.e.hi, .int .i64 q.lo, .int .i64 q.hi, .int .i64 q.f, .bool q.fa, .int .i64 q.bu] 38)).alloc (.cells #[.int .i64 b.a.lo, .int .i64 b.a.hi, .int .i64 b.b.lo, .int .i64 b.b.hi, .int .i64 b.c.lo, .int .i64 b.c.hi, .int .i64 b.d.lo, .int .i64 b.d.hi, .int .i64 b.e.lo, .int .i64 b.e.hi] 36) = w0 := ⟨_, rfl⟩
  rw [hw0] at hin
  have H3 : Hid (In3 w w0 m q b) := hin
  clear hin
  go_enter Tryz.func9, Tryz.ntmps9
  go_upto_region 3 with fail
  go_loopg [10, 20] 5 (fun r v i wr => ∃ j : Nat, j + r = 5 ∧ i = .int .i64 (j : Int) ∧ v = .int .i64 (prodL K j : Int) ∧ prodL K j ≤ 1000 ∧ (0 < j → (prodL K j : Int) ≤ most) ∧ Hid (Jk w0 wr))
  case atStart => exact ⟨0, by omega, rfl, rfl, by show 1 ≤ 1000; omega, fun h => absurd h (Nat.lt_irrefl 0), hid (Jk.refl w0)⟩
  case round =>
    obtain ⟨j, hj, rfl, rfl, hp, hpm, HJ⟩ := hrel
    obtain ⟨w1, rfl⟩ : ∃ z, z = wr := ⟨_, rfl⟩
    by_cases hfuel : gk = 0
    · subst hfuel
      obtain rfl : j = 5 := by omega
      have hNm : (N : Int) ≤ most := by have := hpm (by omega); rwa [HP5.out] at this
      have hN1 : N ≤ 1000 := by rwa [HP5.out] at hp
      obtain rfl : ok = true := by rw [← hok]; simp [hNm]
      clear hok hp hpm hj
      go_upto_region 9 with fail
      refine wp_region_lit ?_
      refine list_loadX rfl _ rfl (H3.out.b.jk HJ.out) rfl ?_
      go_upto_region 11 with fail
      obtain ⟨w2, hw2⟩ : ∃ z, w1.alloc (.cells #[.int .i64 b.a.lo, .int .i64 b.a.hi, .int .i64 b.b.lo, .int .i64 b.b.hi, .int .i64 b.c.lo, .int .i64 b.c.hi, .int .i64 b.d.lo, .int .i64 b.d.hi, .int .i64 b.e.lo, .int .i64 b.e.hi] 36) = z := ⟨_, rfl⟩
      have HO2 : Hid (OwnX w.heap.size w2 (.slice (some ⟨w1.heap.size, 0, none⟩) 1 1) 1 (cellsL b K 0)) := hw2 ▸ OwnX.one w1 b w.heap.size (Nat.le_trans H3.out.j.below.size HJ.out.below.size)
      have HJ2 : Hid (Jk w0 w2) := hw2 ▸ HJ.out.alloc _
      rw [hw2]
      clear hw2
      have hw02 : w.heap.size ≤ w0.heap.size := H3.out.j.below.size
      have HS0 := hid hw02
      clear hw02
      go_loopg [12, 38] 5 (fun r v i wr => ∃ (j n : Nat), j + r = 5 ∧ i = .int .i64 (j : Int) ∧ Hid (OwnX w.heap.size wr v n (cellsL b K j)) ∧ Hid (Jk w0 wr))
      case atStart => exact ⟨0, 1, by omega, rfl, HO2, HJ2⟩
      case round =>
        obtain ⟨j, n, hj, rfl, HO, HJj⟩ := hrel
        obtain ⟨wj, rfl⟩ : ∃ z, z = wr := ⟨_, rfl⟩
        have hnl : prodL K j = n := (cellsL_len b K j).symm.trans HO.out.len
        have hn0 : 0 < n := hnl ▸ prodL_pos K j
        have hn1 : n ≤ N := hnl ▸ HPl.out j (by omega)
        obtain ⟨g, c, rfl, hc1, hc2, hg1, hg2⟩ := HO.out.form hn0
        unfold maxLen at hc2
        by_cases hfuel : gk = 0
        · subst hfuel
          obtain rfl : j = 5 := by omega
          obtain rfl : N = n := HP5.out.symm.trans hnl
          go_wp2
          refine bodyPost_ret (v := .tuple #[.slice (some ⟨g, 0, none⟩) N c, .bool true]) (by simp [results, Tryz.results9, go_sem]) rfl ⟨fun _ => ⟨g, c, rfl, hc1, hc2, hg1, hg2, HO.out.rows.congr HX.out⟩, fun h => (by cases h), H3.out.j.trans HJj.out⟩
        · obtain ⟨r, rfl⟩ : ∃ r, gk = r + 1 := ⟨gk - 1, by omega⟩
          have hj5 : (j : Int) < 5 := by omega
          obtain ⟨L, hL⟩ : ∃ L, K (j : Int) = L := ⟨_, rfl⟩
          obtain ⟨s, hs⟩ : ∃ s, b.at (j : Int) = s := ⟨_, rfl⟩
          obtain ⟨M, hM⟩ : ∃ M, cellsL b K j = M := ⟨_, rfl⟩
          have HCj := hid (HC.out (j : Int))
          have HLb : Hid (∀ z, z ∈ L → -2147483648 ≤ z ∧ z ≤ 2147483647) := hid fun z hz => HBd.out (j : Int) z (hL ▸ hz)
          have hl8 := H24.out (j : Int)
          have HNx : Hid (cellsL b K (j + 1) = stepL (j : Int) s L M) := by rw [← hL, ← hs, ← hM]; exact hid rfl
          have hnn : n * (L.length + 1) ≤ N := by
            have := HPl.out (j + 1) (by omega)
            have e : prodL K (j + 1) = prodL K j * ((K (j : Int)).length + 1) := rfl
            rw [e, hnl, hL] at this
            exact this
          have HRw := hid HO.out.rows
          have HMl : Hid (M.length = n) := hid (hM ▸ HO.out.len)
          rw [hM] at HRw
          rw [hL] at HCj hl8
          have HBc : Hid (∀ w', Jk w0 w' → w'.cell? ⟨w.heap.size + 1 + 1, j * 2, none⟩ = some (.int .i64 s.lo) ∧ w'.cell? ⟨w.heap.size + 1 + 1, j * 2 + 1, none⟩ = some (.int .i64 s.hi)) := hid fun w' hj' => by
            have := (H3.out.b.jk hj').cellAt (j := j) (by omega)
            rw [hs] at this
            exact this
          clear hnl hL hs hM HO
          go_upto_region 15 with fail
          go_loopg [14, 43] n (fun r u i wr => ∃ (y k : Nat), y + r = n ∧ i = .int .i64 (y : Int) ∧ Hid (OwnX wj.heap.size wr u k (stepL (j : Int) s L (M.take y))) ∧ Hid (Jk wj wr))
          case atStart => exact ⟨0, 0, by omega, rfl, hid (OwnX.nil _ _), hid (Jk.refl wj)⟩
          case round =>
            obtain ⟨y, k, hy, rfl, HO3, HJ3⟩ := hrel
            obtain ⟨w3, rfl⟩ : ∃ z, z = wr := ⟨_, rfl⟩
            by_cases hfuel2 : gk = 0
            · subst hfuel2
              obtain rfl : y = n := by omega
              have ht : M.take y = M := List.take_of_length_le (Nat.le_of_eq HMl.out)
              rw [ht, ← HNx.out] at HO3
              go_wp2
              go_roundg r
              case measure => omega
              case rel => exact ⟨j + 1, k, by omega, by go_num, hid (HO3.out.mono (by have := HJj.out.below.size; have := HS0.out; omega)), hid (HJj.out.trans HJ3.out)⟩
            · obtain ⟨r2, rfl⟩ : ∃ r, gk = r + 1 := ⟨gk - 1, by omega⟩
              have hyn : (y : Int) < (n : Int) := by omega
              obtain ⟨x, hx⟩ : ∃ x, xA M y = x := ⟨_, rfl⟩
              have hky : k = y * (L.length + 1) := by
                rw [← HO3.out.len, stepL_len, List.length_take, HMl.out, Nat.min_eq_left (by omega)]
              have hkn : k + (L.length + 1) ≤ N := by
                have : (y + 1) * (L.length + 1) ≤ n * (L.length + 1) := Nat.mul_le_mul_right _ (by omega)
                rw [Nat.add_mul, Nat.one_mul] at this
                omega
              have HTk : Hid (stepL (j : Int) s L (M.take (y + 1)) = stepL (j : Int) s L (M.take y) ++ fullL (j : Int) s L x) := hid (hx ▸ stepL_next (j : Int) s L M (by rw [HMl.out]; omega))
              have HHk := hid hky
              clear hky
              obtain ⟨av, cv, rfl, -, -, -⟩ := row_form HO3.out.row
              have HUl := hid HO3.out.lt
              go_upto_region 16 with fail
              go_cut [16] (fun p wc => ∃ gx, p = .pointer (some ⟨gx, 0, none⟩) ∧ w3.heap.size ≤ gx ∧ BxB wc gx x ∧ Jk w3 wc)
              case first =>
                refine wp_region_lit ?_
                refine wpList_one rfl fun K1 hK1 => ?_
                go_simp
                refine hK1 _ _ ?_
                clear hK1 K1
                refine list_loadXrow rfl _ rfl (HRw.out.jk hg2 HJ3.out) (i := y) (by omega) hx rfl ?_
                go_wp2
                go_meet
                case rel => exact ⟨_, rfl, Nat.le_refl _, BxB.laid w3 x, (Jk.refl w3).alloc _⟩
              case rest =>
              obtain ⟨gx, rfl, hgx, hBx, hj4⟩ := hcut
              obtain ⟨w4, rfl⟩ : ∃ z, z = wc := ⟨_, rfl⟩
              have HBx := hid hBx
              have HJ4 := hid (HJ3.out.trans hj4)
              have HO4 := hid (HO3.out.jk hj4)
              have hjw3 : wj.heap.size ≤ gx := Nat.le_trans HJ3.out.below.size hgx
              have HXg : Hid ((Value.slice av k cv).ownBlock ≠ some gx) := hid fun e => by have := HUl.out gx e; omega
              clear hBx hj4 HO3 HJ3 hx
              have HJ04 := hid (HJj.out.trans HJ4.out)
              obtain ⟨b0, b1⟩ := HBc.out w4 HJ04.out
              have bl : w.heap.size + 1 + 1 < w4.heap.size := Nat.lt_of_lt_of_le H3.out.b.lt HJ04.out.below.size
              go_upto_region 18 with fail
              clear b0 b1 bl
              refine wp_region_lit ?_
              refine list_loadM rfl _ rfl (H3.out.m.jk HJ04.out) rfl ?_
              refine list_loadQ rfl _ rfl (H3.out.q.jk HJ04.out) rfl ?_
              refine list_loadX rfl _ rfl (H3.out.b.jk HJ04.out) rfl ?_
              go_upto_region 19 with (go_at_call 15; refine (HCj.out.on _ (H3.out.j.trans HJ04.out)).mono ?_; rintro e w5 ⟨a2, n2, c2, rfl, hI, hfr, hj5'⟩; have HI := hid hI; have HF := hid hfr; have HJ5 := hid hj5'; clear hI hfr hj5')
              have HLn := hid HI.out.len
              have hn2 : L.length = n2 := HLn.out
              have hcap2 := HI.out.cap
              have hmax2 := HI.out.max
              unfold maxLen at hmax2
              obtain ⟨g2, hg2z⟩ : ∃ g2, 0 < n2 → a2 = some ⟨g2, 0, none⟩ ∧ w4.heap.size ≤ g2 ∧ AtZ w5 g2 L := by
                by_cases h0 : n2 = 0
                · exact ⟨0, fun h => by omega⟩
                · obtain ⟨ga, e1, e2⟩ := HF.out (by omega)
                  obtain ⟨gb, ob, e3, e4, e5⟩ := HI.out.lies (by omega)
                  rw [e1] at e3
                  cases e3
                  exact ⟨ga, fun _ => ⟨e1, e2, e4, fun t ht => by have := e5 t ht; rwa [Nat.zero_add] at this⟩⟩
              have HG2 := hid hg2z
              have hgx4 := HBx.out.lt
              have HB5 := hid (HBx.out.jk HJ5.out)
              have HO5 := hid (HO4.out.jk HJ5.out)
              have HJ5j := hid (HJ4.out.trans HJ5.out)
              have HGx := hid hjw3
              have HGw4 := hid hgx4
              have HGx3 := hid hgx
              clear HI HF hg2z HBx HO4 HJ5 HJ04 hjw3 hgx hgx4
              rw [hn2] at hkn hl8
              go_loopg [14, 17, 57] n2 (fun r u lo i wr => ∃ (t k' : Nat) (x' : Bx), t + r = n2 ∧ i = .int .i64 (t : Int) ∧ lo = .int .i64 (prt s L t).lo ∧ k' = k + t ∧ Hid (OwnX wj.heap.size wr u k' (stepL (j : Int) s L (M.take y) ++ putL (j : Int) s L x t)) ∧ Hid (BxB wr gx x') ∧ Hid (∀ s', x'.put (j : Int) s' = x.put (j : Int) s') ∧ Hid (u.ownBlock ≠ some gx) ∧ Hid (0 < n2 → AtZ wr g2 L ∧ u.ownBlock ≠ some g2) ∧ Hid (Jk wj wr))
              case atStart => exact ⟨0, k, x, by omega, rfl, rfl, rfl, hid (by rw [putL_zero, List.append_nil]; exact HO5.out), HB5, hid (fun _ => rfl), HXg, hid (fun h => ⟨(HG2.out h).2.2, fun e => by have h1 := HUl.out g2 e; have := (HG2.out h).2.1; have := HGw4.out; have := HGx3.out; omega⟩), HJ5j⟩
              case round =>
                obtain ⟨t, k', x', ht, rfl, rfl, hk', HO5, HB, HPut, HUx, HAz, HJ6a⟩ := hrel
                have HKe := hid hk'
                have hk9 : k' + 1 ≤ 2000 := by omega
                clear hk'
                obtain ⟨lo, hlo⟩ : ∃ z, (prt s L t).lo = z := ⟨_, rfl⟩
                obtain ⟨wt, hwt⟩ : ∃ z, (prt s L t).hi = z := ⟨_, rfl⟩
                have HPr : Hid (prt s L t = ⟨lo, wt⟩) := by rw [← hlo, ← hwt]; exact hid rfl
                obtain ⟨z, hzz⟩ : ∃ z, x'.put (j : Int) ⟨lo, wt⟩ = z := ⟨_, rfl⟩
                have HZx : Hid (z = x.put (j : Int) (prt s L t)) := by rw [← hzz, HPut.out, HPr.out]; exact hid rfl
                have HZp : Hid (∀ s', z.put (j : Int) s' = x.put (j : Int) s') := fun s' => by rw [← hzz, Bx.put_put (by omega), HPut.out]
                rw [hlo]
                obtain ⟨au, cu, rfl, -, -, -⟩ := row_form HO5.out.row
                by_cases hfuel3 : gk = 0
                · subst hfuel3
                  obtain rfl : t = n2 := by omega
                  have hwe : wt = s.hi := by rw [← hwt]; show (if t < L.length then _ else s.hi) = _; rw [if_neg (by omega)]
                  subst hwe
                  clear hlo hwt
                  have HJ0r : Hid (Jk w0 wr) := hid (HJj.out.trans HJ6a.out)
                  obtain ⟨b0, b1⟩ := HBc.out wr HJ0r.out
                  have bl : w.heap.size + 1 + 1 < wr.heap.size := Nat.lt_of_lt_of_le H3.out.b.lt HJ0r.out.below.size
                  go_upto_region 25 with fail
                  refine wp_region_lit ?_
                  iterate 8
                    refine wpList_one rfl fun K1 hK1 => ?_
                    go_simp
                    refine hK1 _ _ ?_
                    clear hK1 K1
                  refine list_storeSp rfl _ _ rfl HB.out (j := j) (by omega) rfl ⟨lo, s.hi⟩ rfl fun w6 hB6 hG6 => ?_
                  rw [hzz] at hB6
                  have HB6 := hid hB6
                  have HO6 := hid (HO5.out.kept hG6 (.inr HUx.out))
                  have HJ6 := hid (HJ6a.out.grown hG6 (fun k hk => by cases hk; exact HGx.out))
                  have hs6 : wr.heap.size ≤ w6.heap.size := hG6.size
                  skip
                  clear hG6 hB6
                  go_upto_region 26 with fail
                  refine wp_region_lit ?_
                  refine wpList_one rfl fun K1 hK1 => ?_
                  go_simp
                  refine hK1 _ _ ?_
                  clear hK1 K1
                  refine list_loadX rfl _ rfl HB6.out rfl ?_
                  have hws : wj.heap.size ≤ w6.heap.size := HJ6.out.below.size
                  go_upto_region 27 with (at_builtin; refine list_appX rfl _ _ rfl (HO6.out.jk ((Jk.refl w6).alloc _)) (by rw [World.size_alloc]; omega) rfl _ z rfl (new_box w6 z _ rfl) hk9 ?_; intro g7 c7 w7 hO7 hG7 hg7; have HO7 := hid hO7; have HG7 := hid hG7; have Hg7 := hid hg7; clear hO7 hG7 hg7)
                  go_wp2
                  go_roundg r2
                  case measure => omega
                  case rel =>
                    refine ⟨y + 1, k' + 1, by omega, by go_num, hid ?_, hid ?_⟩
                    · rw [HTk.out]
                      unfold fullL
                      rw [hn2, putL_succ, ← List.append_assoc, ← HZx.out]
                      exact HO7.out
                    · exact (HJ6.out.alloc _).grown HG7.out (fun k hk => HO6.out.base k hk)
                · obtain ⟨r3, rfl⟩ : ∃ r, gk = r + 1 := ⟨gk - 1, by omega⟩
                  have htn : (t : Int) < (n2 : Int) := by omega
                  obtain ⟨rfl, hg4, hz5⟩ := HG2.out (by omega)
                  have HAt := hid (HAz.out (by omega))
                  have hwe : wt = wd L t := by rw [← hwt]; show (if t < L.length then _ else s.hi) = _; rw [if_pos (by omega)]
                  have hcz : wr.cell? ⟨g2, t, none⟩ = some (.int .i64 wt) := by rw [hwe]; exact HAt.out.1.2 t (by omega)
                  have hlz := HAt.out.1.1
                  have hwb := HLb.out (wd L t) (wd_mem (by omega))
                  rw [← hwe] at hwb
                  have HLo : Hid ((prt s L (t + 1)).lo = wt + 1) := by
                    rw [hwe]
                    show Hid ((if t + 1 = 0 then s.lo else wd L (t + 1 - 1) + 1) = wd L t + 1)
                    rw [if_neg (Nat.succ_ne_zero t), Nat.add_sub_cancel]
                    exact hid rfl
                  have hgg : g2 ≠ gx := by have := HGw4.out; omega
                  have HGG := hid hgg
                  clear hlo hwt hwe hz5 hg4 hgg
                  go_upto_region 21 with fail
                  refine wp_region_lit ?_
                  iterate 5
                    refine wpList_one rfl fun K1 hK1 => ?_
                    go_simp
                    refine hK1 _ _ ?_
                    clear hK1 K1
                  refine list_storeSp rfl _ _ rfl HB.out (j := j) (by omega) rfl ⟨lo, wt⟩ rfl fun w6 hB6 hG6 => ?_
                  rw [hzz] at hB6
                  have HB6 := hid hB6
                  have HO6 := hid (HO5.out.kept hG6 (.inr HUx.out))
                  have HJ6 := hid (HJ6a.out.grown hG6 (fun k hk => by cases hk; exact HGx.out))
                  have hs6 : wr.heap.size ≤ w6.heap.size := hG6.size
                  have HA6 := hid (HAt.out.1.kept hG6 (fun e => by cases e; exact HGG.out rfl))
                  clear hG6 hB6
                  go_upto_region 22 with fail
                  refine wp_region_lit ?_
                  refine wpList_one rfl fun K1 hK1 => ?_
                  go_simp
                  refine hK1 _ _ ?_
                  clear hK1 K1
                  refine list_loadX rfl _ rfl HB6.out rfl ?_
                  have hws : wj.heap.size ≤ w6.heap.size := HJ6.out.below.size
                  go_upto_region 24 with (at_builtin; refine list_appX rfl _ _ rfl (HO6.out.jk ((Jk.refl w6).alloc _)) (by rw [World.size_alloc]; omega) rfl _ z rfl (new_box w6 z _ rfl) hk9 ?_; intro g7 c7 w7 hO7 hG7 hg7; have HO7 := hid hO7; have HG7 := hid hG7; have Hg7 := hid hg7; clear hO7 hG7 hg7)
                  have HL6 := hid HB6.out.lt
                  go_wp2
                  go_roundg r3
                  case measure => omega
                  case rel =>
                    have hnew : ∀ q, q < w6.heap.size → (Value.slice au k' cu).ownBlock ≠ some q → g7 ≠ q := fun q h1 h2 e => by
                      rcases Hg7.out with h | h
                      · exact h2 (e ▸ h)
                      · rw [World.size_alloc] at h; omega
                    refine ⟨t + 1, k' + 1, z, by omega, by go_num, by rw [HLo.out], by have := HKe.out; omega, hid ?_, hid ?_, HZp, hid (fun e => hnew gx HL6.out HUx.out (by injection e)), hid (fun h => ⟨(HA6.out.jk ((Jk.refl w6).alloc _)).kept HG7.out (fun e => HAt.out.2 e.symm), fun e => hnew g2 HA6.out.1 HAt.out.2 (by injection e)⟩), hid ?_⟩
                    · rw [putL_succ, ← List.append_assoc, ← HZx.out]
                      exact HO7.out
                    · exact (HG7.out.block gx (Nat.lt_of_lt_of_le HL6.out ((Jk.refl w6).alloc _).below.size) (fun e => HUx.out e.symm)).trans (HB6.out.jk ((Jk.refl w6).alloc _))
                    · exact (HJ6.out.alloc _).grown HG7.out (fun k hk => HO6.out.base k hk)
    · obtain ⟨r, rfl⟩ : ∃ r, gk = r + 1 := ⟨gk - 1, by omega⟩
      have hj5 : (j : Int) < 5 := by omega
      have hl1 := H24.out (j : Int)
      have hle := HPl.out (j + 1) (by omega)
      obtain ⟨L, hL⟩ : ∃ L, K (j : Int) = L := ⟨_, rfl⟩
      have HCj := hid (HC.out (j : Int))
      have HPj : Hid (prodL K (j + 1) = prodL K j * (L.length + 1)) := by rw [← hL]; exact hid rfl
      rw [hL] at HCj hl1
      have hpb : prodL K j * (L.length + 1) ≤ 249000 := Nat.le_trans (Nat.mul_le_mul hp (show L.length + 1 ≤ 249 by omega)) (by omega)
      rw [HPj.out] at hle
      obtain ⟨pj, hpj⟩ : ∃ z, prodL K j = z := ⟨_, rfl⟩
      rw [hpj] at HPj hpb hle hp hpm ⊢
      obtain ⟨l, hl⟩ : ∃ z, L.length = z := ⟨_, rfl⟩
      rw [hl] at HPj hpb hle hl1
      obtain ⟨pn, hpn⟩ : ∃ z, pj * (l + 1) = z := ⟨_, rfl⟩
      rw [hpn] at HPj hpb hle
      have hpe : (pj : Int) * ((l : Int) + 1) = (pn : Int) := by rw [← hpn]; push_cast; rfl
      have hpe2 : (pj : Int) * (1 + (l : Int)) = (pn : Int) := by rw [← hpe, Int.add_comm]
      clear hpn hpj
      have HLl := hid hl
      clear hl
      go_upto_region 5 with fail
      refine wp_region_lit ?_
      refine wpList_one rfl fun K' hK' => ?_
      go_simp
      refine hK' _ _ ?_
      clear hK' K'
      refine list_loadM rfl _ rfl (H3.out.m.jk HJ.out) rfl ?_
      refine list_loadQ rfl _ rfl (H3.out.q.jk HJ.out) rfl ?_
      refine list_loadX rfl _ rfl (H3.out.b.jk HJ.out) rfl ?_
      by_cases hlt : (pn : Int) ≤ most
      · go_wp2_with (first | (go_at_call 15; refine (HCj.out.on _ (H3.out.j.trans HJ.out)).mono ?_; rintro e w2 ⟨a2, n2, c2, rfl, hI, hfr, hj2⟩; clear hfr; have HJ2 := hid hj2; obtain rfl : l = n2 := HLl.out.symm.trans hI.len; clear hI hj2))
        go_roundg r
        case measure => omega
        case rel => exact ⟨j + 1, by omega, by go_num, by rw [HPj.out], by rw [HPj.out]; omega, fun _ => by rw [HPj.out]; exact hlt, hid (HJ.out.trans HJ2.out)⟩
      · go_wp2_with (first | (go_at_call 15; refine (HCj.out.on _ (H3.out.j.trans HJ.out)).mono ?_; rintro e w2 ⟨a2, n2, c2, rfl, hI, hfr, hj2⟩; clear hfr; have HJ2 := hid hj2; obtain rfl : l = n2 := HLl.out.symm.trans hI.len; clear hI hj2))
        have hokf : ok = false := by rw [← hok]; simp; omega
        refine bodyPost_ret (v := .tuple #[.slice none 0 0, .bool false]) (by simp [results, Tryz.results9, go_sem]) rfl ⟨fun h => (by rw [hokf] at h; cases h), fun _ => rfl, H3.out.j.trans (HJ.out.trans HJ2.out)⟩

end Go.Proofs.YtkkbeobocbgmeaaGreat

namespace Go.Proofs.YtkkbeobocbgmeaaGreat
open Go.RowKit M

set_option maxRecDepth 100000 in
set_option maxHeartbeats 3200000 in
theorem rlow_ans (b : Bx) : Ans 28 #[boxV b] (pointV (lowF b)) := fun w => by
  have J := rules20
  obtain ⟨p, hp⟩ : ∃ p, lowF b = p := ⟨_, rfl⟩
  have HLo : Hid (∀ j : Nat, (b.at (j : Int)).lo = p (j : Int)) := hid fun j => by rw [← hp]; rfl
  rw [hp]
  clear hp
  obtain ⟨w0, hw0⟩ : ∃ w0, ((w.alloc (.cells #[.int .i64 b.a.lo, .int .i64 b.a.hi, .int .i64 b.b.lo, .int .i64 b.b.hi, .int .i64 b.c.lo, .int .i64 b.c.hi, .int .i64 b.d.lo, .int .i64 b.d.hi, .int .i64 b.e.lo, .int .i64 b.e.hi] 36)).alloc (.cells #[.int .i64 0, .int .i64 0, .int .i64 0, .int .i64 0] 70)).alloc (.cells #[.int .i64 0, .int .i64 0, .int .i64 0, .int .i64 0] 70) = w0 := ⟨_, rfl⟩
  have HJ0 : Hid (Jk w w0) := hw0 ▸ hid ((((Jk.refl w).alloc _).alloc _).alloc _)
  have HB0 : Hid (BxB w0 w.heap.size b) := hw0 ▸ hid ((BxB.laid w b).jk (((Jk.refl _).alloc _).alloc _))
  have HZ0 : Hid (PtB w0 (w.heap.size + 1) 0 0 0 0) := by
    rw [← hw0]
    have := (PtB.laid (w.alloc (.cells #[.int .i64 b.a.lo, .int .i64 b.a.hi, .int .i64 b.b.lo, .int .i64 b.b.hi, .int .i64 b.c.lo, .int .i64 b.c.hi, .int .i64 b.d.lo, .int .i64 b.d.hi, .int .i64 b.e.lo, .int .i64 b.e.hi] 36)) 0 0 0 0).jk ((Jk.refl _).alloc (.cells #[.int .i64 0, .int .i64 0, .int .i64 0, .int .i64 0] 70))
    rw [World.size_alloc] at this
    exact hid this
  have HP0 : Hid (PtF w0 (w.heap.size + 1 + 1) (ptN p 0)) := by
    rw [← hw0]
    have := PtB.laid ((w.alloc (.cells #[.int .i64 b.a.lo, .int .i64 b.a.hi, .int .i64 b.b.lo, .int .i64 b.b.hi, .int .i64 b.c.lo, .int .i64 b.c.hi, .int .i64 b.d.lo, .int .i64 b.d.hi, .int .i64 b.e.lo, .int .i64 b.e.hi] 36)).alloc (.cells #[.int .i64 0, .int .i64 0, .int .i64 0, .int .i64 0] 70)) 0 0 0 0
    rw [World.size_alloc, World.size_alloc] at this
    exact hid this
  go_enter Tryz.func28, Tryz.ntmps28
  go_upto_region 3 with fail
  go_loopg [5] 4 (fun r i wr => ∃ j, j + r = 4 ∧ i = .int .i64 (j : Int) ∧ Hid (BxB wr w.heap.size b ∧ PtB wr (w.heap.size + 1) 0 0 0 0 ∧ PtF wr (w.heap.size + 1 + 1) (ptN p j) ∧ Jk w wr))
  case atStart => exact ⟨0, by omega, rfl, hid ⟨HB0.out, HZ0.out, HP0.out, HJ0.out⟩⟩
  case round =>
    obtain ⟨j, hj, rfl, HS⟩ := hrel
    clear HB0 HZ0 HP0 HJ0 hw0
    by_cases hfuel : gk = 0
    · subst hfuel
      obtain rfl : j = 4 := by omega
      have HP4 : Hid (PtB wr (w.heap.size + 1 + 1) (p 0) (p 1) (p 2) (p 3)) := hid HS.out.2.2.1
      have HJ4 := hid HS.out.2.2.2
      have HZ4 := hid HS.out.2.1
      obtain ⟨pl, p0, p1, p2, p3⟩ := HP4.out.in
      obtain ⟨zl, z0, z1, z2, z3⟩ := HZ4.out.in
      have zf := HZ4.out.frozen
      go_wp2
      have hle : w.heap.size ≤ w.heap.size + 1 := Nat.le_succ _
      have HP9 : PtB ((((wr.setCell ⟨w.heap.size + 1, 0, none⟩ (.int .i64 (p 0))).setCell ⟨w.heap.size + 1, 1, none⟩ (.int .i64 (p 1))).setCell ⟨w.heap.size + 1, 2, none⟩ (.int .i64 (p 2))).setCell ⟨w.heap.size + 1, 3, none⟩ (.int .i64 (p 3))) (w.heap.size + 1) (p 0) (p 1) (p 2) (p 3) := heap_setCell_same _ _ _ _ _ _ (heap_setCell_same _ _ _ _ _ _ (heap_setCell_same _ _ _ _ _ _ (heap_setCell_same _ _ _ _ _ _ HZ4.out)))
      exact bodyPost_ret (results_cell Tryz.results28 rfl (load_Pt HP9)) rfl ⟨rfl, (((HJ4.out.set hle _).set hle _).set hle _).set hle _⟩
    · obtain ⟨r, rfl⟩ : ∃ r, gk = r + 1 := ⟨gk - 1, by omega⟩
      have hj4 : (j : Int) < 4 := by omega
      have hj5 : (j : Int) < 5 := by omega
      have hj0 : (0 : Int) ≤ (j : Int) := by omega
      obtain ⟨k1, k2⟩ := HS.out.1.cellAt (j := j) (by omega)
      have kl := HS.out.1.lt
      rw [HLo.out j] at k1
      have kq := PtF.cell HS.out.2.2.1 (j := j) (by omega)
      have kf := HS.out.2.2.1.frozen j
      have kl2 := HS.out.2.2.1.lt
      have HPy : Hid (PtF (wr.setCell ⟨w.heap.size + 1 + 1, j, none⟩ (.int .i64 (p (j : Int)))) (w.heap.size + 1 + 1) (ptN p (j + 1))) := hid (PtF.put HS.out.2.2.1 (by omega))
      have HGy := hid (grown_set wr (w.heap.size + 1 + 1) j (.int .i64 (p (j : Int))))
      have HBy := hid (HS.out.1.by HGy.out (by omega))
      have HZy : Hid (PtB (wr.setCell ⟨w.heap.size + 1 + 1, j, none⟩ (.int .i64 (p (j : Int)))) (w.heap.size + 1) 0 0 0 0) := hid ((HGy.out.block _ HS.out.2.1.lt (by simp)).trans HS.out.2.1)
      have HJz := hid (HS.out.2.2.2.grown HGy.out (fun k hk => by cases hk; omega))
      clear HGy
      go_wp2
      go_roundg r
      case measure => omega
      case rel => exact ⟨j + 1, by omega, by go_num, hid ⟨HBy.out, HZy.out, HPy.out, HJz.out⟩⟩

/-- a slice of boxes that a call made, or none -/
def SliX (N : Nat) (ok : Bool) (X : Nat → Bx) (v : Value) (w : World) : Prop := (ok = true → ∃ g c, v = .slice (some ⟨g, 0, none⟩) N c ∧ N ≤ c ∧ c ≤ maxLen ∧ g < w.heap.size ∧ BxA w g X N) ∧ (ok = false → v = .slice none 0 0)
theorem SliX.jk {N : Nat} {ok : Bool} {X : Nat → Bx} {v : Value} {w w' : World} (h : SliX N ok X v w) (hj : Jk w w') : SliX N ok X v w' := by
  refine ⟨fun e => ?_, h.2⟩
  obtain ⟨g, c, h1, h2, h3, h4, h5⟩ := h.1 e
  exact ⟨g, c, h1, h2, h3, Nat.lt_of_lt_of_le h4 hj.below.size, h5.jk h4 hj⟩
def TupX (N : Nat) (ok : Bool) (X : Nat → Bx) (v : Value) (w : World) : Prop := ∃ u, v = .tuple #[u, .bool ok] ∧ SliX N ok X u w
theorem TupX.jk {N : Nat} {ok : Bool} {X : Nat → Bx} {v : Value} {w w' : World} (h : TupX N ok X v w) (hj : Jk w w') : TupX N ok X v w' := by
  obtain ⟨u, h1, h2⟩ := h
  exact ⟨u, h1, h2.jk hj⟩
theorem GotXc.tup {w w' : World} {N : Nat} {ok : Bool} {X : Nat → Bx} {e : Ending} (h : GotXc w N ok X e w') : ∃ v, e = .returned v ∧ TupX N ok X v w' := by
  cases ok
  · exact ⟨_, h.2.1 rfl, _, rfl, fun e => (by cases e), fun _ => rfl⟩
  · obtain ⟨g, c, h1, h2, h3, _, h5, h6⟩ := h.1 rfl
    exact ⟨_, h1, _, rfl, fun _ => ⟨g, c, rfl, h2, h3, h5, h6⟩, fun e => (by cases e)⟩
/-- what the operations of Truth's first region yield -/
def TruG (m : Md) (q : Qy) (b : Bx) (most : Int) (N : Nat) (ok : Bool) (X : Nat → Bx) : Nat → Value → World → Prop
  | 0, v, _ => v = modelV m
  | 1, v, _ => v = queryV q
  | 2, v, _ => v = queryV q
  | 3, v, _ => v = boxW b
  | 4, v, _ => v = .int .i64 most
  | 5, v, w => TupX N ok X v w
  | 6, v, w => TupX N ok X v w
  | 7, v, w => SliX N ok X v w
  | 8, v, _ => v = .bool ok
  | 9, v, w => SliX N ok X v w
  | _, _, _ => True
theorem TruG.mono {m : Md} {q : Qy} {b : Bx} {most : Int} {N : Nat} {ok : Bool} {X : Nat → Bx} : ∀ k v w w', Jk w w' → TruG m q b most N ok X k v w → TruG m q b most N ok X k v w' := fun k v w w' hj h => by
  match k, h with
  | 0, h => exact h
  | 1, h => exact h
  | 2, h => exact h
  | 3, h => exact h
  | 4, h => exact h
  | 5, h => exact TupX.jk h hj
  | 6, h => exact TupX.jk h hj
  | 7, h => exact SliX.jk h hj
  | 8, h => exact h
  | 9, h => exact SliX.jk h hj
  | k + 10, h => trivial

set_option maxRecDepth 100000 in
set_option maxHeartbeats 12800000 in
theorem rtruth_any {m : Md} (q : Qy) (most : Int) {ww : World} (hm : m.ok ww) (hr : RightM m) (hmost : most ≤ 1000) {H : Bool} (hH : H = true ↔ CellsHold m q) {N : Nat} (hN : cntX (cutsI m q (startI q)) = N) (w : World) (hjw : Jk ww w) : Calls Tryz.prog 12 #[modelV m, queryV q, .int .i64 most] w fun e w' => e = .returned (.tuple #[.bool (decide ((N : Int) ≤ most) && H), .bool (decide ((N : Int) ≤ most))]) ∧ Jk w w' := by
  have J := rules8
  have HSt : Hid (Ans 26 #[queryV q] (boxW (startI q))) := rstart_ans q
  obtain ⟨ok, hok⟩ : ∃ z, decide ((N : Int) ≤ most) = z := ⟨_, rfl⟩
  have HBk : Hid (∀ (c : Bx) (b : Bool), (b = true ↔ BreaksP m q (lowF c) c.e.hi) → AnsW w 27 #[modelV m, queryV q, pointV (lowF c), .int .i64 c.e.hi] (.bool b)) := fun c b hb => (rbreaks_ans (lowF c) c.e.hi hm hb).up hjw
  have HBool : Hid (∀ c : Bx, ∃ b : Bool, b = true ↔ BreaksP m q (lowF c) c.e.hi) := hid fun c => breaks_bool m q (lowF c) c.e.hi
  have HH : Hid (H = true ↔ ∀ n, n < N → ¬ BreaksP m q (lowF (cellX (startI q) (cutsI m q (startI q)) n)) (cellX (startI q) (cutsI m q (startI q)) n).e.hi) := by
    rw [← hN]
    exact hid hH
  have HCl : Hid (∀ (X : Nat → Bx), cellX (startI q) (cutsI m q (startI q)) = X → ∀ w', Jk w w' → Calls Tryz.prog 9 #[modelV m, queryV q, boxV (startI q), .int .i64 most] w' fun e w'' => GotXc w' N ok X e w'') := hid fun X hX w' hj => rcells_any q (startI q) most hm hr hmost hN hX hok w' (hjw.trans hj)
  obtain ⟨X, hX⟩ : ∃ X, cellX (startI q) (cutsI m q (startI q)) = X := ⟨_, rfl⟩
  rw [hX] at HH
  have HCx := hid (HCl.out X hX)
  obtain ⟨b, hb⟩ : ∃ b, startI q = b := ⟨_, rfl⟩
  rw [hb] at HSt HCx
  rw [hok]
  clear hm hr hjw hH hN hX hb HCl
  obtain ⟨w0, hw0⟩ : ∃ w0, (w.alloc (.cells #[.int .i64 m.d, .int .i64 m.k, .int .i64 m.b0, .int .i64 m.b1, .int .i64 m.b2, .slice m.a m.n m.c] 31)).alloc (.cells #[.int .i64 q.kd, .int .i64 q.cl, .int .i64 q.rg.a.lo, .int .i64 q.rg.a.hi, .int .i64 q.rg.b.lo, .int .i64 q.rg.b.hi, .int .i64 q.rg.c.lo, .int .i64 q.rg.c.hi, .int .i64 q.rg.d.lo, .int .i64 q.rg.d.hi, .int .i64 q.rg.e.lo, .int .i64 q.rg.e.hi, .int .i64 q.lo, .int .i64 q.hi, .int .i64 q.f, .bool q.fa, .int .i64 q.bu] 38) = w0 := ⟨_, rfl⟩
  have HJ0 : Hid (Jk w w0) := hw0 ▸ hid (((Jk.refl w).alloc _).alloc _)
  have HM : Hid (MdB w0 w.heap.size m) := hw0 ▸ hid ((MdB.laid w m).jk ((Jk.refl _).alloc _))
  have HQ : Hid (QyB w0 (w.heap.size + 1) q) := by
    rw [← hw0]
    have := QyB.laid (w.alloc (.cells #[.int .i64 m.d, .int .i64 m.k, .int .i64 m.b0, .int .i64 m.b1, .int .i64 m.b2, .slice m.a m.n m.c] 31)) q
    rw [World.size_alloc] at this
    exact hid this
  simp only [modelV, queryV, boxV] at HSt HBk HCx ⊢
  go_enter Tryz.func12, Tryz.ntmps12
  go_upto_region 1 with fail
  go_cut [8, 9] (fun v8 v9 wc => v9 = .bool ok ∧ SliX N ok X v8 wc ∧ Jk w0 wc)
  case first =>
    refine region_good 10 (fun k => [_, _, _, _, _, _, _, _, _, _].getD k undef) (fun x => ⟨#[_, _, _, _, _, _, _, _, x 9, _, _, _, x 6, x 0, x 1, x 2, x 3, x 4, x 5, x 7, x 8, _, _, _, _, _, _, _, _, _, _, _, _, _, _, _, _, _], []⟩) (Jk w0) Jk (TruG m q b most N ok X) (by kernel_rfl) (by kernel_rfl) (Jk.refl w0).drew TruG.mono ?_ ?_
    · intro i o' ho hi x w' hC hd L hK
      match i, ho with
      | 0, _ =>
        simp at hi
        subst hi
        refine wp_load_row 31 _ rfl w.heap.size rfl _ _ _ _ (HM.out.jk hC) Tryz.underlying31 rfl (by kernel_rfl) ?_
        simp only [Act.put, List.setIfInBounds_toArray, List.set_cons_succ, List.set_cons_zero]
        exact hK _ _ hC (Jk.refl _) rfl
      | 1, _ =>
        simp at hi
        subst hi
        refine wp_load_row 38 _ rfl (w.heap.size + 1) rfl _ _ _ _ (HQ.out.jk hC) Tryz.underlying38 rfl (by kernel_rfl) ?_
        simp only [Act.put, List.setIfInBounds_toArray, List.set_cons_succ, List.set_cons_zero]
        exact hK _ _ hC (Jk.refl _) rfl
      | 2, _ =>
        simp at hi
        subst hi
        refine wp_load_row 38 _ rfl (w.heap.size + 1) rfl _ _ _ _ (HQ.out.jk hC) Tryz.underlying38 rfl (by kernel_rfl) ?_
        simp only [Act.put, List.setIfInBounds_toArray, List.set_cons_succ, List.set_cons_zero]
        exact hK _ _ hC (Jk.refl _) rfl
      | 3, _ =>
        simp at hi
        subst hi
        obtain ⟨x, rfl⟩ := upd_know (show x 2 = queryV q from hd 2 (by kernel_rfl))
        simp only [upd, reduceIte, Nat.reduceEqDiff]
        go_simp
        go_at_call 26
        refine (HSt.out.on _).mono ?_
        rintro e z1 ⟨rfl, X1, rfl⟩
        go_simp
        exact hK _ _ (hC.trans ⟨X1, rfl⟩) ⟨X1, rfl⟩ rfl
      | 4, _ =>
        simp at hi
        subst hi
        go_simp
        exact hK _ _ hC (Jk.refl _) rfl
      | 5, _ =>
        simp at hi
        subst hi
        have e0 : x 0 = modelV m := hd 0 (by kernel_rfl)
        have e1 : x 1 = queryV q := hd 1 (by kernel_rfl)
        have e3 : x 3 = boxW b := hd 3 (by kernel_rfl)
        have e4 : x 4 = .int .i64 most := hd 4 (by kernel_rfl)
        obtain ⟨x, rfl⟩ := upd_know e0
        obtain ⟨x, rfl⟩ := upd_know (show x 1 = queryV q from by simpa [upd] using e1)
        obtain ⟨x, rfl⟩ := upd_know (show x 3 = boxW b from by simpa [upd] using e3)
        obtain ⟨x, rfl⟩ := upd_know (show x 4 = .int .i64 most from by simpa [upd] using e4)
        simp only [upd, reduceIte, Nat.reduceEqDiff]
        go_simp
        go_at_call 9
        refine (HCx.out _ (HJ0.out.trans hC)).mono ?_
        rintro e w2 h2
        obtain ⟨v, rfl, h3⟩ := h2.tup
        have hj2 := h2.2.2
        go_simp
        exact hK _ _ (hC.trans hj2) hj2 h3
      | 6, _ =>
        simp at hi
        subst hi
        have h5 : TupX N ok X (x 5) w' := hd 5 (by kernel_rfl)
        obtain ⟨y, hy⟩ : ∃ y, x 5 = y := ⟨_, rfl⟩
        rw [hy] at h5
        obtain ⟨x, rfl⟩ := upd_know hy
        simp only [upd, reduceIte, Nat.reduceEqDiff]
        go_simp
        exact hK _ _ hC (Jk.refl _) h5
      | 7, _ =>
        simp at hi
        subst hi
        obtain ⟨u, h6, h7⟩ : TupX N ok X (x 6) w' := hd 6 (by kernel_rfl)
        obtain ⟨x, rfl⟩ := upd_know h6
        simp only [upd, reduceIte, Nat.reduceEqDiff]
        go_simp
        exact hK _ _ hC (Jk.refl _) h7
      | 8, _ =>
        simp at hi
        subst hi
        obtain ⟨u, h6, h7⟩ : TupX N ok X (x 6) w' := hd 6 (by kernel_rfl)
        obtain ⟨x, rfl⟩ := upd_know h6
        simp only [upd, reduceIte, Nat.reduceEqDiff]
        go_simp
        exact hK _ _ hC (Jk.refl _) rfl
      | 9, _ =>
        simp at hi
        subst hi
        have h5 : SliX N ok X (x 7) w' := hd 7 (by kernel_rfl)
        obtain ⟨y, hy⟩ : ∃ y, x 7 = y := ⟨_, rfl⟩
        rw [hy] at h5
        obtain ⟨x, rfl⟩ := upd_know hy
        simp only [upd, reduceIte, Nat.reduceEqDiff]
        go_simp
        exact hK _ _ hC (Jk.refl _) h5
      | i + 10, ho => omega
    · intro x w' hC hG
      have h8 : x 8 = .bool ok := hG 8 (by decide)
      have h9 : SliX N ok X (x 9) w' := hG 9 (by decide)
      obtain ⟨y, hy⟩ : ∃ y, x 9 = y := ⟨_, rfl⟩
      rw [hy] at h9
      obtain ⟨x, rfl⟩ := upd_know h8
      obtain ⟨x, rfl⟩ := upd_know (show x 9 = y from by simpa [upd] using hy)
      simp only [upd, reduceIte, Nat.reduceEqDiff]
      dsimp only [List.drop]
      go_wp2
      go_meet
      case rel => exact ⟨rfl, h9, hC⟩
  case rest =>
  obtain ⟨rfl, hS8, hj2⟩ := hcut
  obtain ⟨w2, rfl⟩ : ∃ z, z = wc := ⟨_, rfl⟩
  have HJ2 := hid hj2
  clear hj2
  cases ok
  · obtain rfl := hS8.2 rfl
    clear hS8
    go_wp2
    exact bodyPost_ret (v := .tuple #[.bool false, .bool false]) (by simp [results, Tryz.results12, go_sem]) rfl ⟨rfl, HJ0.out.trans HJ2.out⟩
  · obtain ⟨g, c0, rfl, hc1, hc2, hg2, hgx⟩ := hS8.1 rfl
    have HX2 := hid hgx
    unfold maxLen at hc2
    clear hgx hS8
    have HM2 := hid (HM.out.jk HJ2.out)
    have HQ2 := hid (HQ.out.jk HJ2.out)
    have HJa := hid (HJ0.out.trans HJ2.out)
    clear HM HQ HJ0 HJ2 HCx HSt hw0
    go_upto_region 5 with fail
    go_loopg [25] N (fun r i wr => ∃ n, n + r = N ∧ i = .int .i64 (n : Int) ∧ Hid ((∀ k, k < n → ¬ BreaksP m q (lowF (X k)) (X k).e.hi) ∧ Jk w2 wr))
    case atStart => exact ⟨0, by omega, rfl, hid ⟨fun k hk => absurd hk (Nat.not_lt_zero _), Jk.refl w2⟩⟩
    case round =>
      obtain ⟨n, hn, rfl, HS⟩ := hrel
      by_cases hfuel : gk = 0
      · subst hfuel
        obtain rfl : n = N := by omega
        obtain rfl : H = true := HH.out.2 HS.out.1
        go_wp2
        exact bodyPost_ret (v := .tuple #[.bool true, .bool true]) (by simp [results, Tryz.results12, go_sem]) rfl ⟨rfl, HJa.out.trans HS.out.2⟩
      · obtain ⟨r, rfl⟩ : ∃ r, gk = r + 1 := ⟨gk - 1, by omega⟩
        have hnN : (n : Int) < (N : Int) := by omega
        obtain ⟨c, hc⟩ : ∃ c, X n = c := ⟨_, rfl⟩
        obtain ⟨bk, hbk⟩ := HBool.out c
        have HBn := hid (HBk.out c bk hbk)
        have HBi := hid hbk
        go_upto_region 6 with fail
        go_cut [11] (fun p wc => ∃ g, p = .pointer (some ⟨g, 0, none⟩) ∧ BxB wc g c ∧ Jk wr wc)
        case first =>
          refine wp_region_lit ?_
          refine wpList_one rfl fun K1 hK1 => ?_
          go_simp
          refine hK1 _ _ ?_
          clear hK1 K1
          refine list_loadXrow rfl _ rfl (HX2.out.jk hg2 HS.out.2) (i := n) (by omega) hc rfl ?_
          go_wp2
          go_meet
          case rel => exact ⟨_, rfl, BxB.laid wr c, (Jk.refl wr).alloc _⟩
        case rest =>
        obtain ⟨g2, rfl, hB2, hj4⟩ := hcut
        obtain ⟨w4, rfl⟩ : ∃ z, z = wc := ⟨_, rfl⟩
        have HB2 := hid hB2
        have HJ4 := hid hj4
        clear hB2 hj4
        obtain ⟨x0, x1, x2, x3, x4, x5, x6, x7, x8, x9⟩ := HB2.out.in
        have xl := HB2.out.lt
        have HM4 := hid (HM2.out.jk (HS.out.2.trans HJ4.out))
        have HQ4 := hid (HQ2.out.jk (HS.out.2.trans HJ4.out))
        have HL4 : Hid (Ans 28 #[boxV c] (pointV (lowF c))) := hid (rlow_ans c)
        have HB4 := hid (HBn.out.up ((HJa.out.trans HS.out.2).trans HJ4.out))
        simp only [boxV, pointV] at HL4 HB4
        go_upto_region 7 with fail
        refine region_junk (by kernel_rfl) (by kernel_rfl) ?_
        refine quiet_loadM (by rintro _ ⟨X, rfl⟩; exact HM4.out.jk ⟨X, rfl⟩) rfl _ rfl rfl ?_
        intro K hK
        simp only [Act.put, List.setIfInBounds_toArray, List.set_cons_succ, List.set_cons_zero]
        go_big_quiet_on
        refine quiet_loadQ (by rintro _ ⟨X, rfl⟩; exact HQ4.out.jk ⟨X, rfl⟩) rfl _ rfl rfl ?_
        intro K hK
        simp only [Act.put, List.setIfInBounds_toArray, List.set_cons_succ, List.set_cons_zero]
        go_big_quiet_on
        refine quiet_loadX (by rintro _ ⟨X, rfl⟩; exact HB2.out.jk ⟨X, rfl⟩) rfl _ rfl rfl ?_
        intro K hK
        simp only [Act.put, List.setIfInBounds_toArray, List.set_cons_succ, List.set_cons_zero]
        go_big_quiet_on
        repeat (go_big_quiet_step (first | (go_at_call 28; exact on_junk HL4.out _) | (go_at_call 27; exact AnsW.junk (by with_reducible exact HB4.out) _) | exact rfl))
        refine wpQuiet_nil ?_
        rintro _ ⟨Y, rfl⟩
        cases bk
        · go_wp2
          go_roundg r
          case measure => omega
          case rel =>
            refine ⟨n + 1, by omega, by go_num, hid ⟨fun k hk => ?_, (HS.out.2.trans HJ4.out).junk Y⟩⟩
            by_cases e : k = n
            · subst e
              rw [hc]
              exact fun hb => by have := HBi.out.2 hb; cases this
            · exact HS.out.1 k (by omega)
        · obtain rfl : H = false := by
            cases H
            · rfl
            · exact absurd (HBi.out.1 rfl) (hc ▸ HH.out.1 rfl n (by omega))
          go_wp2
          exact bodyPost_ret (v := .tuple #[.bool false, .bool true]) (by simp [results, Tryz.results12, go_sem]) rfl ⟨rfl, (HJa.out.trans HS.out.2).trans (HJ4.out.junk Y)⟩
theorem rtruth_ans {m : Md} (q : Qy) (most : Int) {ww : World} (hm : m.ok ww) (hr : RightM m) (hmost : most ≤ 1000) {H : Bool} (hH : H = true ↔ CellsHold m q) {N : Nat} (hN : cntX (cutsI m q (startI q)) = N) {x y : Bool} (hx : (decide ((N : Int) ≤ most) && H) = x) (hy : decide ((N : Int) ≤ most) = y) : AnsW ww 12 #[modelV m, queryV q, .int .i64 most] (.tuple #[.bool x, .bool y]) := fun w hj => by
  have := rtruth_any q most hm hr hmost hH hN w hj
  rw [hx, hy] at this
  exact this

end Go.Proofs.YtkkbeobocbgmeaaGreat
