/- The law TreeMoves of chapter 7 answers true for any numbers, any two points: points that go the same way at each threshold come to the same leaf; a feature that no node asks changes nothing. -/
import Derived.Test.YtdhmibjokacfpaaLawTreeRuns
import Derived.Test.YtdhmibjokacfpaaNodesB
import Derived.Test.YtdhmibjokacfpaaMapB
namespace Go.Proofs.Ytdhmibjokacfpaa
open Go.RowKit M

def sameTo (ws : List Int) (p q : Int → Int) : Nat → Bool
  | 0 => true
  | j + 1 => match (ndA ws j).leaf with
    | true => sameTo ws p q j
    | false => sameTo ws p q j && (decide (p (ndA ws j).f ≤ (ndA ws j).a) == decide (q (ndA ws j).f ≤ (ndA ws j).a))
def askedTo (ws : List Int) : Nat → Nat → Bool
  | 0, _ => false
  | j + 1, k => match (ndA ws j).leaf with
    | true => askedTo ws j k
    | false => if (k : Int) = (ndA ws j).f then true else askedTo ws j k
theorem sameTo_spec {ws : List Int} {p q : Int → Int} : ∀ {j : Nat}, sameTo ws p q j = true → ∀ i, i < j → (ndA ws i).leaf = false → (p (ndA ws i).f ≤ (ndA ws i).a ↔ q (ndA ws i).f ≤ (ndA ws i).a) := by
  intro j
  induction j with
  | zero => intro _ i hi; omega
  | succ j ih =>
    intro h i hi hl
    simp only [sameTo] at h
    by_cases e : i = j
    · subst e
      rw [hl] at h
      simp at h
      have := h.2
      simpa using this
    · cases hb : (ndA ws j).leaf
      · rw [hb] at h
        simp at h
        exact ih h.1 i (by omega) hl
      · rw [hb] at h
        exact ih h i (by omega) hl
theorem askedTo_spec {ws : List Int} : ∀ {j i : Nat}, i < j → (ndA ws i).leaf = false → ∀ k : Nat, (k : Int) = (ndA ws i).f → askedTo ws j k = true := by
  intro j
  induction j with
  | zero => intro i hi; omega
  | succ j ih =>
    intro i hi hl k hk
    simp only [askedTo]
    by_cases e : i = j
    · subst e
      rw [hl]
      simp [hk]
    · have := ih (show i < j by omega) hl k hk
      cases hb : (ndA ws j).leaf
      · simp [this]
      · simpa using this
/-- the third point -/
def rPt (p q : Int → Int) (f : Nat → Bool) (m : Nat) : Int → Int := fun i => if i < m ∧ f i.toNat = true then p i else q i

theorem rPt_zero (p q : Int → Int) (f : Nat → Bool) (k : Nat) : rPt p q f 0 k = q k := by unfold rPt; rw [if_neg (by omega)]
theorem rPt_no {p q : Int → Int} {f : Nat → Bool} {m : Nat} (h : f m = false) (k : Nat) : rPt p q f m k = rPt p q f (m + 1) k := by
  unfold rPt
  by_cases e : k = m
  · subst e; rw [if_neg (by omega), if_neg (by simp [h])]
  · by_cases e3 : (k : Int) < (m : Int)
    · by_cases e2 : f (k : Int).toNat = true
      · rw [if_pos ⟨e3, e2⟩, if_pos ⟨by omega, e2⟩]
      · rw [if_neg (fun h => e2 h.2), if_neg (fun h => e2 h.2)]
    · rw [if_neg (fun h => e3 h.1), if_neg (fun h => by have := h.1; omega)]
theorem rPt_yes {p q : Int → Int} {f : Nat → Bool} {m : Nat} (h : f m = true) (k : Nat) : updN (fun k => rPt p q f m k) m (p m) k = rPt p q f (m + 1) k := by
  show (if k = m then p m else rPt p q f m k) = rPt p q f (m + 1) k
  unfold rPt
  by_cases e : k = m
  · subst e; rw [if_pos rfl, if_pos ⟨by omega, by simpa using h⟩]
  · rw [if_neg e]
    by_cases e3 : (k : Int) < (m : Int)
    · by_cases e2 : f (k : Int).toNat = true
      · rw [if_pos ⟨e3, e2⟩, if_pos ⟨by omega, e2⟩]
      · rw [if_neg (fun h => e2 h.2), if_neg (fun h => e2 h.2)]
    · rw [if_neg (fun h => e3 h.1), if_neg (fun h => by have := h.1; omega)]
theorem IsW.grown {w w' : World} {g n c h : Nat} {ws : List Int} (H : IsW w (some ⟨g, 0, none⟩) n c ws) (hg : w.grownBy w' (some h)) (hne : g ≠ h) : IsW w' (some ⟨g, 0, none⟩) n c ws :=
  ⟨H.len, H.cap, H.max, H.bd, fun h0 => by
    obtain ⟨g', o', e, h2, h3⟩ := H.lies h0
    cases e
    exact ⟨g, 0, rfl, Nat.lt_of_lt_of_le h2 hg.size, fun i hi => hg.cell (h3 i hi) (by simpa using hne)⟩⟩
/-- N ints in block h -/
def IntsN (N : Nat) (t : TypeId) (w : World) (h : Nat) (f : Nat → Int) : Prop := ∃ cur : Array Value, w.heap[h]? = some (.cells cur t (0, 0)) ∧ cur.size = N ∧ ∀ q, q < N → cur[q]? = some (.int .i64 (f q))
theorem IntsN.cell {N : Nat} {t : TypeId} {w : World} {h : Nat} {f : Nat → Int} (H : IntsN N t w h f) {q : Nat} (hq : q < N) : w.cell? ⟨h, q, none⟩ = some (.int .i64 (f q)) := by
  obtain ⟨cur, h1, h2, h3⟩ := H
  rw [cell_of_row _ _ _ _ _ _ h1]
  exact h3 q hq
theorem IntsN.frozen {N : Nat} {t : TypeId} {w : World} {h : Nat} {f : Nat → Int} (H : IntsN N t w h f) (q : Nat) : w.frozen? ⟨h, q, none⟩ = false := by
  obtain ⟨cur, h1, h2, h3⟩ := H
  exact frozen_of_row _ _ _ _ _ h1
theorem IntsN.set {N : Nat} {t : TypeId} {w : World} {h : Nat} {f : Nat → Int} (H : IntsN N t w h f) {q : Nat} (hq : q < N) (x : Int) : IntsN N t (w.setCell ⟨h, q, none⟩ (.int .i64 x)) h (updN f q x) := by
  obtain ⟨cur, h1, h2, h3⟩ := H
  refine ⟨_, heap_setCell_same _ _ _ _ _ _ h1, by simpa using h2, fun k hk => ?_⟩
  unfold updN
  by_cases e : k = q
  · subst e
    rw [Array.getElem?_setIfInBounds_self_of_lt (by omega), if_pos rfl]
  · rw [Array.getElem?_setIfInBounds_ne (by omega), if_neg e]
    exact h3 k hk
theorem IntsN.congr {N : Nat} {t : TypeId} {w : World} {h : Nat} {f f' : Nat → Int} (H : IntsN N t w h f) (e : ∀ q, q < N → f q = f' q) : IntsN N t w h f' := by
  obtain ⟨cur, h1, h2, h3⟩ := H
  exact ⟨cur, h1, h2, fun q hq => by rw [← e q hq]; exact h3 q hq⟩
theorem IntsN.lt {N : Nat} {t : TypeId} {w : World} {h : Nat} {f : Nat → Int} (H : IntsN N t w h f) : h < w.heap.size := by
  obtain ⟨cur, h1, h2, h3⟩ := H
  exact (Array.getElem?_eq_some_iff.1 h1).1

set_option maxRecDepth 100000 in
set_option maxHeartbeats 4000000 in
theorem treeMoves_walk (x1 : Seed) (a2 : Int) (p q : Int → Int) (w : World) (wx1 : x1.ok w) (w2 : (Lit.int .i64 a2).wf = true) (_wx3 : PtFit p) (_wx4 : PtFit q) :
    Calls Try.prog 7 #[seedV x1, .int .i64 a2, pointV p, pointV q] w fun e w' => e = .returned (.bool true) ∧ Jk w w' := by
  have J := rules8
  obtain ⟨d1, d2⟩ := bdi w2
  obtain ⟨q1, q2, q3, q4, q5, q6, q7, q8, q9, r1, r2, r3, r4, r5, r6, r7, r8⟩ := x1
  obtain ⟨w1, hw1⟩ : ∃ w1, w.alloc (.cells #[.int .i64 q1, .slice q2 q3 q4, .slice q6 q7 q8, .slice r1 r2 r3, .slice r5 r6 r7] 37) = w1 := ⟨_, rfl⟩
  obtain ⟨w2', hw2⟩ : ∃ w2', w1.alloc (.cells #[.int .i64 (p 0), .int .i64 (p 1), .int .i64 (p 2), .int .i64 (p 3)] 30) = w2' := ⟨_, rfl⟩
  obtain ⟨W0, hW0⟩ : ∃ W0, w2'.alloc (.cells #[.int .i64 (q 0), .int .i64 (q 1), .int .i64 (q 2), .int .i64 (q 3)] 30) = W0 := ⟨_, rfl⟩
  have hJ1 : Jk w w1 := hw1 ▸ (Jk.refl w).alloc _
  have hJ2 : Jk w1 w2' := hw2 ▸ (Jk.refl w1).alloc _
  have hJ3 : Jk w2' W0 := hW0 ▸ (Jk.refl w2').alloc _
  have HJ0 := hid ((hJ1.trans hJ2).trans hJ3)
  have hs1 : w.heap.size < w1.heap.size := by rw [← hw1]; simp
  have hs2 : w1.heap.size < w2'.heap.size := by rw [← hw2]; simp
  have hs3 : w2'.heap.size < W0.heap.size := by rw [← hW0]; simp
  have hs02 : w1.heap.size < W0.heap.size := by omega
  have hs01 : w.heap.size < W0.heap.size := by omega
  have HP : Hid (∀ F : Nat, F < 4 → W0.cell? ⟨w1.heap.size, F, none⟩ = some (.int .i64 (p F))) := by
    intro F hF
    rw [hJ3.below.cell (p := ⟨w1.heap.size, F, none⟩) hs2, ← hw2, World.cell?_alloc_at _ _ _ _ rfl]
    have : F = 0 ∨ F = 1 ∨ F = 2 ∨ F = 3 := by omega
    rcases this with rfl | rfl | rfl | rfl <;> rfl
  have HQ : Hid (∀ F : Nat, F < 4 → W0.cell? ⟨w2'.heap.size, F, none⟩ = some (.int .i64 (q F))) := by
    intro F hF
    rw [← hW0, World.cell?_alloc_at _ _ _ _ rfl]
    have : F = 0 ∨ F = 1 ∨ F = 2 ∨ F = 3 := by omega
    rcases this with rfl | rfl | rfl | rfl <;> rfl
  have hSd : W0.cell? ⟨w.heap.size, 0, none⟩ = some (.int .i64 q1) ∧ W0.cell? ⟨w.heap.size, 1, none⟩ = some (.slice q2 q3 q4) ∧ W0.cell? ⟨w.heap.size, 2, none⟩ = some (.slice q6 q7 q8) ∧ W0.cell? ⟨w.heap.size, 3, none⟩ = some (.slice r1 r2 r3) ∧ W0.cell? ⟨w.heap.size, 4, none⟩ = some (.slice r5 r6 r7) := by
    have e : ∀ i, W0.cell? ⟨w.heap.size, i, none⟩ = w1.cell? ⟨w.heap.size, i, none⟩ := fun i => (hJ3.below.cell (p := ⟨w.heap.size, i, none⟩) (Nat.lt_trans hs1 hs2)).trans (hJ2.below.cell (p := ⟨w.heap.size, i, none⟩) hs1)
    rw [e, e, e, e, e, ← hw1]
    exact ⟨World.cell?_alloc_at _ _ _ _ rfl, World.cell?_alloc_at _ _ _ _ rfl, World.cell?_alloc_at _ _ _ _ rfl, World.cell?_alloc_at _ _ _ _ rfl, World.cell?_alloc_at _ _ _ _ rfl⟩
  obtain ⟨g0, g1, g2, g3, g4⟩ := hSd
  obtain ⟨d, hd⟩ : ∃ d, withinI a2 1 4 = d := ⟨_, rfl⟩
  have bd := hd ▸ within_bd a2 1 4 (by decide)
  have HWi := hid (within_is hd d1 d2 (by decide) (by decide) (by decide))
  have HNd := hid (fun X => nodes_any ⟨q1, q2, q3, q4, q5, q6, q7, q8, q9, r1, r2, r3, r4, r5, r6, r7, r8⟩ d (junk W0 X) ((wx1.jk HJ0.out).jk ⟨X, rfl⟩) bd.1 bd.2)
  have hmm := @run_makeMap Try.prog
  show Calls Try.prog 7 #[.agg #[.int .i64 q1, .slice q2 q3 q4, .slice q6 q7 q8, .slice r1 r2 r3, .slice r5 r6 r7], .int .i64 a2, .agg #[.int .i64 (p 0), .int .i64 (p 1), .int .i64 (p 2), .int .i64 (p 3)], .agg #[.int .i64 (q 0), .int .i64 (q 1), .int .i64 (q 2), .int .i64 (q 3)]] w fun e w' => e = .returned (.bool true) ∧ Jk w w'
  clear wx1 hJ1 hJ2 hJ3 hd
  go_enter Try.func7, Try.ntmps7
  go_wp2_with (first | (go_at_call 16; refine (HWi.out.on _).mono ?_; rintro e w1 ⟨rfl, X, rfl⟩) | (go_at_call 15; refine (HNd.out X).mono ?_; rintro e wn ⟨gt, n, ct, ws, rfl, hIt, hTt, hnt, hgt, hJt⟩; have HI := hid hIt; have HT := hid hTt; have HJn : Hid (Jk W0 wn) := (((Jk.refl W0).junk X).trans hJt); clear hIt hTt hgt hJt))
  have HM := hid (MapB.made wn)
  obtain ⟨h, hh⟩ : ∃ h, wn.heap.size = h := ⟨_, rfl⟩
  have hn0 : W0.heap.size ≤ h := by rw [← hh]; exact HJn.out.below.size
  have HJm : Hid (Jk W0 (wn.alloc (.map #[] 0))) := HJn.out.alloc _
  have HIm := hid (HI.out.jk ((Jk.refl wn).alloc (.map #[] 0)))
  rw [hh] at HM ⊢
  obtain ⟨gl, ol, hgeq, hgl, _⟩ := HI.out.lies (by have := HT.out.full; rw [HI.out.len] at this; omega)
  cases hgeq
  rw [hh] at hgl
  obtain ⟨Wm, hWm⟩ : ∃ Wm, wn.alloc (.map #[] 0) = Wm := ⟨_, rfl⟩
  rw [hWm] at HM HJm HIm ⊢
  have hlen := HI.out.len
  clear hh hWm HWi HNd g0 g1 g2 g3 g4 hmm HI HJn hw1 hw2 hW0
  go_loopg [11, 27] n (fun k sm i wr => ∃ j : Nat, j + k = n ∧ i = .int .i64 (j : Int) ∧ sm = .bool (sameTo ws p q j) ∧ MapB wr h j (askedTo ws j) ∧ Jk W0 wr ∧ h < wr.heap.size ∧ IsW wr (some ⟨gt, 0, none⟩) n ct ws)
  case atStart => exact ⟨0, by omega, rfl, rfl, HM.out, HJm.out, HM.out.lt, HIm.out⟩
  case round =>
    obtain ⟨j, hj, rfl, rfl, hM, hJ, hhs, hI⟩ := hrel
    have HM' := hid hM
    have HJ' := hid hJ
    have HI' := hid hI
    clear hM hJ hI HM HJm HIm
    by_cases hlt : j < n
    · have i0 : (0 : Int) ≤ (j : Int) := by omega
      have i1 : (j : Int) < (n : Int) := by omega
      have hat := (HI'.out.lies (by omega))
      obtain ⟨_, _, eq, hgs, hat⟩ := hat
      cases eq
      have e1 : wr.cell? ⟨gt, j, none⟩ = some (.int .u64 (wd ws j)) := by
        have := hat j (by rw [HI'.out.len]; exact hlt)
        rwa [Nat.zero_add] at this
      obtain ⟨b1, b2⟩ := HI'.out.bd j hlt
      have HU := hid (unpack_ans (wd ws j) b1 b2)
      have HN : Hid (unI (wd ws j) = ndA ws j) := rfl
      rw [HN.out, HT.out.can j (by rw [hlen]; exact hlt)] at HU
      have hR := Nd.right_iff.1 (HT.out.right (k := j) (by rw [hlen]; exact hlt))
      have HSm : Hid (sameTo ws p q (j + 1) = match (ndA ws j).leaf with | true => sameTo ws p q j | false => sameTo ws p q j && (decide (p (ndA ws j).f ≤ (ndA ws j).a) == decide (q (ndA ws j).f ≤ (ndA ws j).a))) := rfl
      have HAs : Hid (∀ k : Nat, askedTo ws (j + 1) k = match (ndA ws j).leaf with | true => askedTo ws j k | false => if (k : Int) = (ndA ws j).f then true else askedTo ws j k) := fun _ => rfl
      obtain ⟨x, hx⟩ : ∃ x, ndA ws j = x := ⟨_, rfl⟩
      rw [hx] at HU hR HSm HAs
      obtain ⟨leaf, v, f, a', l, r⟩ := x
      clear hx hat b1 b2
      obtain ⟨sm, hsm⟩ : ∃ s, sameTo ws p q j = s := ⟨_, rfl⟩
      have HSj := hid hsm
      rw [hsm] at HSm ⊢
      clear hsm
      cases leaf
      case true =>
        go_wp2_with (first | (go_at_call 22; refine (HU.out.on _).mono ?_; rintro e w3 ⟨rfl, X1, rfl⟩))
        go_roundg (gk - 1)
        case measure => omega
        case rel => exact ⟨j + 1, by omega, by go_num, by rw [HSm.out], ((HM'.out.jk (((Jk.refl _).junk X1).alloc _)).more (by omega)).congr (fun q _ => (HAs.out q).symm), (HJ'.out.junk _).alloc _, by rw [World.size_alloc, junk_size]; omega, HI'.out.jk (((Jk.refl _).junk X1).alloc _)⟩
      case false =>
        simp [Nd.Right] at hR
        obtain ⟨F, rfl⟩ := Int.eq_ofNat_of_zero_le (show 0 ≤ f by omega)
        have hF4 : (F : Int) < 4 := by omega
        have hF0 : (0 : Int) ≤ (F : Int) := by omega
        have kP : wr.cell? ⟨w1.heap.size, F, none⟩ = some (.int .i64 (p F)) := (HJ'.out.below.cell (p := ⟨w1.heap.size, F, none⟩) hs02).trans (HP.out F (by omega))
        have kQ : wr.cell? ⟨w2'.heap.size, F, none⟩ = some (.int .i64 (q F)) := (HJ'.out.below.cell (p := ⟨w2'.heap.size, F, none⟩) hs3).trans (HQ.out F (by omega))
        have hsr := HJ'.out.below.size
        obtain ⟨y1, hy1⟩ : ∃ y, p F = y := ⟨_, rfl⟩
        obtain ⟨y2, hy2⟩ : ∃ y, q F = y := ⟨_, rfl⟩
        have HSm : Hid (sameTo ws p q (j + 1) = (sm && (decide (y1 ≤ a') == decide (y2 ≤ a')))) := by rw [← hy1, ← hy2]; exact HSm
        have HAs : Hid (∀ k : Nat, askedTo ws (j + 1) k = updB (askedTo ws j) F true k) := by
          intro k
          rw [HAs.out k]
          unfold updB
          show (if (k : Int) = (F : Int) then true else askedTo ws j k) = if k = F then true else askedTo ws j k
          by_cases e : k = F
          · rw [if_pos e, if_pos (by omega)]
          · rw [if_neg e, if_neg (by omega)]
        rw [hy1] at kP
        rw [hy2] at kQ
        have hF1 : F < 4 := by omega
        have hx0 : w1.heap.size < wr.heap.size := by omega
        have hx0' : w2'.heap.size < wr.heap.size := by omega
        clear hy1 hy2 hR
        cases sm
        all_goals
          go_wp2_with (first | (go_at_call 22; refine (HU.out.on _).mono ?_; rintro e w3 ⟨rfl, X1, rfl⟩; have hx1 : w1.heap.size < wr.heap.size + Jn X1 := (by omega); have hx2 : w2'.heap.size < wr.heap.size + Jn X1 := (by omega)))
          go_quiet (fail)
          go_wp2_with (at_mapUpdate; refine list_updB rfl _ _ _ rfl (HM'.out.jk (by repeat (with_reducible first | exact Jk.refl _ | apply Jk.junk | apply Jk.alloc | apply Jk.drewN))) (by omega) rfl F (by omega) rfl true rfl ?_; intro w4 hM4 hG4; have HM4 := hid hM4; have HG4 := hid hG4; clear hM4 hG4)
          go_roundg (gk - 1)
          case measure => omega
          case rel =>
            refine ⟨j + 1, by omega, by go_num, by rw [HSm.out]; simp, HM4.out.congr (fun q _ => (HAs.out q).symm), Jk.grown (by repeat (with_reducible first | exact HJ'.out | apply Jk.junk | apply Jk.alloc | apply Jk.drewN)) HG4.out (fun k hk => by cases hk; exact hn0), HM4.out.lt, (HI'.out.jk (by repeat (with_reducible first | exact Jk.refl _ | apply Jk.junk | apply Jk.alloc | apply Jk.drewN))).grown HG4.out (by omega)⟩
    · have e : j = n := by omega
      subst e
      obtain ⟨SM, hSM⟩ : ∃ s, sameTo ws p q j = s := ⟨_, rfl⟩
      have HSM := hid hSM
      rw [hSM]
      obtain ⟨fa, hfa⟩ : ∃ f, askedTo ws j = f := ⟨_, rfl⟩
      have HFa := hid hfa
      rw [hfa] at HM'
      clear hSM hfa
      have hsr := HJ'.out.below.size
      have k0 : wr.cell? ⟨w2'.heap.size, 0, none⟩ = some (.int .i64 (q 0)) := (HJ'.out.below.cell (p := ⟨w2'.heap.size, 0, none⟩) hs3).trans (HQ.out 0 (by omega))
      have k1 : wr.cell? ⟨w2'.heap.size, 1, none⟩ = some (.int .i64 (q 1)) := (HJ'.out.below.cell (p := ⟨w2'.heap.size, 1, none⟩) hs3).trans (HQ.out 1 (by omega))
      have k2 : wr.cell? ⟨w2'.heap.size, 2, none⟩ = some (.int .i64 (q 2)) := (HJ'.out.below.cell (p := ⟨w2'.heap.size, 2, none⟩) hs3).trans (HQ.out 2 (by omega))
      have k3 : wr.cell? ⟨w2'.heap.size, 3, none⟩ = some (.int .i64 (q 3)) := (HJ'.out.below.cell (p := ⟨w2'.heap.size, 3, none⟩) hs3).trans (HQ.out 3 (by omega))
      have hs2r : w2'.heap.size < wr.heap.size := by omega
      go_wp2
      have HR0 : Hid (IntsN 4 30 (wr.alloc (.cells #[.int .i64 (q 0), .int .i64 (q 1), .int .i64 (q 2), .int .i64 (q 3)] 30)) wr.heap.size (fun k => rPt p q fa 0 k)) := by
        refine ⟨_, heap_alloc_new _ _, rfl, ?_⟩
        intro k hk
        show _ = some (Value.int .i64 (rPt p q fa 0 (k : Int)))
        rw [rPt_zero]
        match k, hk with
        | 0, _ | 1, _ | 2, _ | 3, _ => rfl
        | k + 4, h => omega
      have HJ1 : Hid (Jk W0 (wr.alloc (.cells #[.int .i64 (q 0), .int .i64 (q 1), .int .i64 (q 2), .int .i64 (q 3)] 30))) := HJ'.out.alloc _
      have HM1 := hid (HM'.out.jk ((Jk.refl wr).alloc (.cells #[.int .i64 (q 0), .int .i64 (q 1), .int .i64 (q 2), .int .i64 (q 3)] 30)))
      have HI1 := hid (HI'.out.jk ((Jk.refl wr).alloc (.cells #[.int .i64 (q 0), .int .i64 (q 1), .int .i64 (q 2), .int .i64 (q 3)] 30)))
      obtain ⟨hr, hhr⟩ : ∃ hr, wr.heap.size = hr := ⟨_, rfl⟩
      rw [hhr] at HR0 hsr hhs ⊢
      obtain ⟨wy', hwy⟩ : ∃ wy', wr.alloc (.cells #[.int .i64 (q 0), .int .i64 (q 1), .int .i64 (q 2), .int .i64 (q 3)] 30) = wy' := ⟨_, rfl⟩
      rw [hwy] at HR0 HJ1 HM1 HI1 ⊢
      clear hwy HM' HI' HJ' k0 k1 k2 k3 hhr hs2r
      go_loopg [65] 4 (fun k i wx => ∃ m : Nat, m + k = 4 ∧ i = .int .i64 (m : Int) ∧ IntsN 4 30 wx hr (fun k => rPt p q fa m k) ∧ Jk W0 wx ∧ MapB wx h j fa ∧ IsW wx (some ⟨gt, 0, none⟩) j ct ws)
      case atStart => exact ⟨0, by omega, rfl, HR0.out, HJ1.out, HM1.out, HI1.out⟩
      case round =>
        obtain ⟨m, hm, rfl, hR, hJ, hM, hI⟩ := hrel
        have HR := hid hR
        have HJx := hid hJ
        have HMx := hid hM
        have HIx := hid hI
        have hhx := hR.lt
        clear hR hJ hM hI HR0 HJ1 HM1 HI1
        by_cases hm4 : m < 4
        · have i0 : (0 : Int) ≤ (m : Int) := by omega
          have i4 : (m : Int) < 4 := by omega
          obtain ⟨B, hB⟩ : ∃ B, fa m = B := ⟨_, rfl⟩
          have HB := hid hB
          clear hB
          cases B
          case false =>
            go_wp2_with (at_lookup; refine list_lookB rfl _ _ rfl HMx.out rfl m (by omega) rfl false HB.out ?_)
            go_roundg (gk - 1)
            case measure => omega
            case rel =>
              exact ⟨m + 1, by omega, by go_num, HR.out.congr (fun k _ => rPt_no HB.out k), HJx.out, HMx.out, HIx.out⟩
          case true =>
            have kp : wr.cell? ⟨w1.heap.size, m, none⟩ = some (.int .i64 (p m)) := (HJx.out.below.cell (p := ⟨w1.heap.size, m, none⟩) hs02).trans (HP.out m hm4)
            have kr := HR.out.cell hm4
            have kf := HR.out.frozen m
            obtain ⟨y1, hy1⟩ : ∃ y, p m = y := ⟨_, rfl⟩
            have HY := hid hy1
            obtain ⟨y2, hy2⟩ : ∃ y, rPt p q fa m m = y := ⟨_, rfl⟩
            rw [hy1] at kp
            simp only [hy2] at kr
            have HRs := hid (HR.out.set hm4 y1)
            clear hy1 hy2
            go_wp2_with (at_lookup; refine list_lookB rfl _ _ rfl HMx.out rfl m (by omega) rfl true HB.out ?_)
            go_roundg (gk - 1)
            case measure => omega
            case rel =>
              exact ⟨m + 1, by omega, by go_num, HRs.out.congr (fun k _ => by rw [← HY.out]; exact rPt_yes HB.out k), HJx.out.set (p := ⟨hr, m, none⟩) (by show W0.heap.size ≤ hr; omega) _, HMx.out.kept (grown_set _ hr m _) (by simp; omega), HIx.out.grown (grown_set _ hr m _) (by omega)⟩
        · have em : m = 4 := by omega
          subst em
          obtain ⟨rr, hrr⟩ : ∃ r, rPt p q fa 4 = r := ⟨_, rfl⟩
          have c0 := HR.out.cell (q := 0) (by decide)
          have c1 := HR.out.cell (q := 1) (by decide)
          have c2 := HR.out.cell (q := 2) (by decide)
          have c3 := HR.out.cell (q := 3) (by decide)
          simp only [hrr] at c0 c1 c2 c3
          have HWp := hid (walk_ans p HIx.out)
          have HWq := hid (walk_ans q HIx.out)
          have HWr := hid (walk_ans rr HIx.out)
          have hrp : wayW ws rr 31 0 = wayW ws p 31 0 := by
            refine wayW_same (fun i hi hu hl => ?_) 31 0
            have hb := Nd.right_iff.1 (HT.out.right hi)
            have hf : (ndA ws i).f = ((ndA ws i).f.toNat : Int) ∧ (ndA ws i).f < 4 := by
              rcases hb with ⟨h1, _⟩ | ⟨_, _, h2, h3, _⟩
              · rw [hl] at h1; cases h1
              · omega
            have : rr (ndA ws i).f = p (ndA ws i).f := by
              rw [← hrr]
              unfold rPt
              rw [if_pos ⟨hf.2, by rw [← HFa.out]; exact askedTo_spec (by rw [← hlen]; exact hi) hl _ hf.1.symm⟩]
            rw [this]
          obtain ⟨A, hA1, hA2, _⟩ := HT.out.leaf p
          rw [hrp, hA1] at HWr
          rw [hA1] at HWp
          have HWp : Hid (AnsW wr 10 #[.slice (some ⟨gt, 0, none⟩) j ct, .agg #[.int .i64 (p 0), .int .i64 (p 1), .int .i64 (p 2), .int .i64 (p 3)]] (.int .i64 (A : Int))) := HWp
          have HWr : Hid (AnsW wr 10 #[.slice (some ⟨gt, 0, none⟩) j ct, .agg #[.int .i64 (rr 0), .int .i64 (rr 1), .int .i64 (rr 2), .int .i64 (rr 3)]] (.int .i64 (A : Int))) := HWr
          have HWq' : Hid (SM = true → AnsW wr 10 #[.slice (some ⟨gt, 0, none⟩) j ct, .agg #[.int .i64 (q 0), .int .i64 (q 1), .int .i64 (q 2), .int .i64 (q 3)]] (.int .i64 (A : Int))) := by
            intro hs
            have hqp : wayW ws q 31 0 = wayW ws p 31 0 := wayW_same (fun i hi _ hl => (sameTo_spec (HSM.out.trans hs) i (by rw [← hlen]; exact hi) hl).symm) 31 0
            have := HWq.out
            rw [hqp, hA1] at this
            exact this
          have HRn := hid (treeRuns_ans.ansW wr)
          have f0 : wr.cell? ⟨w1.heap.size, 0, none⟩ = some (.int .i64 (p 0)) := (HJx.out.below.cell (p := ⟨w1.heap.size, 0, none⟩) hs02).trans (HP.out 0 (by omega))
          have f1 : wr.cell? ⟨w1.heap.size, 1, none⟩ = some (.int .i64 (p 1)) := (HJx.out.below.cell (p := ⟨w1.heap.size, 1, none⟩) hs02).trans (HP.out 1 (by omega))
          have f2 : wr.cell? ⟨w1.heap.size, 2, none⟩ = some (.int .i64 (p 2)) := (HJx.out.below.cell (p := ⟨w1.heap.size, 2, none⟩) hs02).trans (HP.out 2 (by omega))
          have f3 : wr.cell? ⟨w1.heap.size, 3, none⟩ = some (.int .i64 (p 3)) := (HJx.out.below.cell (p := ⟨w1.heap.size, 3, none⟩) hs02).trans (HP.out 3 (by omega))
          have k0 : wr.cell? ⟨w2'.heap.size, 0, none⟩ = some (.int .i64 (q 0)) := (HJx.out.below.cell (p := ⟨w2'.heap.size, 0, none⟩) hs3).trans (HQ.out 0 (by omega))
          have k1 : wr.cell? ⟨w2'.heap.size, 1, none⟩ = some (.int .i64 (q 1)) := (HJx.out.below.cell (p := ⟨w2'.heap.size, 1, none⟩) hs3).trans (HQ.out 1 (by omega))
          have k2 : wr.cell? ⟨w2'.heap.size, 2, none⟩ = some (.int .i64 (q 2)) := (HJx.out.below.cell (p := ⟨w2'.heap.size, 2, none⟩) hs3).trans (HQ.out 2 (by omega))
          have k3 : wr.cell? ⟨w2'.heap.size, 3, none⟩ = some (.int .i64 (q 3)) := (HJx.out.below.cell (p := ⟨w2'.heap.size, 3, none⟩) hs3).trans (HQ.out 3 (by omega))
          have hx1 : w1.heap.size < wr.heap.size := by omega
          have hx2 : w2'.heap.size < wr.heap.size := by omega
          have hA0 : (0 : Int) ≤ (A : Int) := by omega
          have HJc := hid (HJ0.out.trans HJx.out)
          clear hrr hrp hA1 hA2 HWq
          cases SM
          case' false => have HWq : Hid True := trivial
          case' true => have HWq := hid (HWq'.out rfl)
          all_goals
            clear HWq' HSM HP HQ HR
            go_upto_region 20 with fail
            refine region_junk (by kernel_rfl) (by kernel_rfl) ?_
            repeat (go_big_quiet_step (first | (go_at_call 10; exact AnsW.junk (by with_reducible first | exact HWp.out | exact HWr.out | exact HWq.out) _) | (go_at_call 3; exact AnsW.junk (by with_reducible exact HRn.out) _) | exact rfl))
            refine wpQuiet_nil ?_
            rintro _ ⟨X, rfl⟩
            go_wp2
            go_ret
            exact ⟨rfl, HJc.out.junk X⟩

end Go.Proofs.Ytdhmibjokacfpaa
