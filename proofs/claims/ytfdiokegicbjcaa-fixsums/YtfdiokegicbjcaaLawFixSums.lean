/- The law FixSums of chapter 2 answers true for any list and any three ints: in whatever order things are added they come to the same; of two it is Add; what is taken away and added again is as it was. -/
import Derived.Test.YtfdiokegicbjcaaLawFixRuns
import Derived.Test.YtfdiokegicbjcaaBookInts
import Derived.Test.YtfdiokegicbjcaaWithinB
import Derived.OpenShut
import Derived.Deep.RegionHeld3
import Derived.Deep.DeepCutAuto
namespace Go.Proofs.Ytfdiokegicbjcaa
open Go.RowKit M

def IsInts (k : IntKind) (w : World) (a : Option Addr) (len cap : Nat) (zs : List Int) : Prop :=
  (a = none ∧ len = 0 ∧ cap = 0 ∧ zs = []) ∨
  ∃ x, a = some x ∧ len ≤ cap ∧ cap ≤ maxLen ∧ zs.length = cap ∧ (∀ i, i < zs.length → w.cell? (x.add i) = some (.int k (zs.getD i 0))) ∧ ∀ n ∈ zs, (Lit.int k n).wf = true

def Fit (zs : List Int) : Prop := ∀ i, i < zs.length → -9223372036854775808 ≤ nth zs i ∧ nth zs i ≤ 9223372036854775807

theorem sumTo_append (xs ys : List Int) : ∀ j, sumTo (xs ++ ys) (xs.length + j) = sumTo xs xs.length + sumTo ys j := by
  have h0 : ∀ j, j ≤ xs.length → sumTo (xs ++ ys) j = sumTo xs j := by
    intro j
    induction j with
    | zero => intro _; rfl
    | succ j ih => intro h; simp only [sumTo]; rw [ih (by omega), nth_append_left _ _ _ (by omega)]
  intro j
  induction j with
  | zero => simp [sumTo, h0]
  | succ j ih =>
    have e : xs.length + (j + 1) = (xs.length + j) + 1 := by omega
    rw [e]
    simp only [sumTo]
    rw [ih, nth_append_right _ _ _ (by omega), show xs.length + j - xs.length = j by omega]
    omega
theorem sum_turned (zs : List Int) (k : Nat) : sumTo (zs.drop k ++ zs.take k) (zs.drop k ++ zs.take k).length = sumTo zs zs.length := by
  have h1 := sumTo_append (zs.drop k) (zs.take k) (zs.take k).length
  have h2 := sumTo_append (zs.take k) (zs.drop k) (zs.drop k).length
  rw [List.take_append_drop, ← List.length_append, List.take_append_drop] at h2
  rw [List.length_append, h1, h2]
  omega
theorem Fit.turned {zs : List Int} (h : Fit zs) (k : Nat) : Fit (zs.drop k ++ zs.take k) := by
  intro i hi
  simp at hi
  by_cases hl : i < (zs.drop k).length
  · rw [nth_append_left _ _ _ hl, nth_drop]
    simp at hl
    exact h (k + i) (by omega)
  · rw [nth_append_right _ _ _ (by omega)]
    simp at hl
    rw [nth_take _ _ _ (by simp; omega)]
    exact h _ (by simp; omega)

theorem sum_row (g off len cap : Nat) (zs : List Int) (w : World) (hn : zs.length = len) (hl : len ≤ 1000) (hf : Fit zs) (h : At w g off zs) :
    Calls Try.prog 9 #[.slice (some ⟨g, off, none⟩) len cap] w fun e w' => e = .returned (.tuple #[.int .i64 (valI (sumTo zs zs.length)), .bool (okB (sumTo zs zs.length))]) ∧ w' = w := by
  subst hn
  exact sum_at g off zs.length cap zs w (by omega) (fun i hi => ⟨h i hi, hf i hi⟩)

theorem sum_new2 (a b : Int) (cap : Nat) (w : World) (ha : okB a = true) (hb : okB b = true) :
    Calls Try.prog 9 #[.slice (some ⟨w.heap.size, 0, none⟩) 2 cap] (w.alloc (.cells #[.int .i64 a, .int .i64 b] 3)) fun e w' =>
      e = .returned (.tuple #[.int .i64 (valI (a + b)), .bool (okB (a + b))]) ∧ w' = w.alloc (.cells #[.int .i64 a, .int .i64 b] 3) := by
  have h := sum_at w.heap.size 0 2 cap [a, b] (w.alloc (.cells #[.int .i64 a, .int .i64 b] 3)) (by decide) ?_
  · have e : sumTo [a, b] 2 = a + b := by simp [sumTo, nth]
    rw [e] at h
    exact h
  · intro i hi
    have h1 := ok_of ha
    have h2 := ok_of hb
    rw [World.cell?_alloc_at _ _ _ _ rfl]
    have : i = 0 ∨ i = 1 := by omega
    rcases this with rfl | rfl
    · exact ⟨rfl, h1.1, h1.2⟩
    · exact ⟨rfl, h2.1, h2.2⟩

theorem below_drewN {B : Nat} {a w : World} (h : Below B a w) (n : Nat) : Below B a (w.drewN n) := ⟨h.os, h.tape, h.output, h.size, h.block⟩

def Owned (w : World) (v : Value) (wc : World) : Prop :=
  ∃ (g cap : Nat) (zs : List Int), v = .slice (some ⟨g, 0, none⟩) zs.length cap ∧ zs.length ≤ 40 ∧ Fit zs ∧ OwnR w.heap.size wc g cap zs ∧ Below w.heap.size w wc ∧ w.heap.size ≤ wc.heap.size

set_option maxRecDepth 100000 in
set_option maxHeartbeats 1600000 in
theorem fixSums_walk (a0 : Option Addr) (len0 cap0 : Nat) (z0 : List Int) (a b cut : Int) (w : World) (w0 : IsInts .i64 w a0 len0 cap0 z0) (w1 : (Lit.int .i64 a).wf = true) (w2 : (Lit.int .i64 b).wf = true) (w3 : (Lit.int .i64 cut).wf = true) :
    Calls Try.prog 5 #[.slice a0 len0 cap0, .int .i64 a, .int .i64 b, .int .i64 cut] w fun e w' => e = .returned (.bool true) ∧ Below w.heap.size w w' := by
  obtain ⟨a1, a2⟩ := bdi w1
  obtain ⟨b1, b2⟩ := bdi w2
  obtain ⟨c1, c2⟩ := bdi w3
  clear w1 w2 w3
  go_enter Try.func5, Try.ntmps5
  go_upto_region 1 with fail
  go_cut [9] (fun v9 wc => Owned w v9 wc)
  case first =>
    have HO : Hid (OwnR w.heap.size (w.alloc (.cells #[] 3)) w.heap.size 0 []) := OwnR.empty w.heap.size w (Nat.le_refl _)
    have HL : Hid (w.heap.size ≤ (w.alloc (.cells #[] 3)).heap.size) := by show _ ≤ _; simp
    have HB : Hid (Below w.heap.size w (w.alloc (.cells #[] 3))) := (Below.refl _ _).alloc (Nat.le_refl _) _
    have fin : ∀ (g' cap' : Nat) (w' : World) (ys : List Int), OwnR w.heap.size w' g' cap' ([] ++ ys) → (w.alloc (.cells #[] 3)).grownBy w' (some w.heap.size) → ys.length ≤ 40 → Fit ys → Owned w (.slice (some ⟨g', 0, none⟩) ys.length cap') w' := by
      intro g' cap' w' ys hO hG h40 hf
      exact ⟨g', cap', ys, rfl, h40, hf, hO, HB.out.grown hG HL.out (fun k hk => by cases hk; exact Nat.le_refl _), Nat.le_trans HL.out hG.size⟩
    have HF : Hid (∀ (g' cap' : Nat) (w' : World) (ys : List Int), OwnR w.heap.size w' g' cap' ([] ++ ys) → (w.alloc (.cells #[] 3)).grownBy w' (some w.heap.size) → ys.length ≤ 40 → Fit ys → Owned w (.slice (some ⟨g', 0, none⟩) ys.length cap') w') := fin
    clear fin
    by_cases hz : cap0 = 0
    · have hl0 : len0 = 0 := by
        rcases w0 with ⟨_, h, _⟩ | ⟨_, _, h, _⟩ <;> omega
      subst hz hl0
      clear w0
      go_wp2_with (at_builtin; refine list_app (ys := []) rfl _ _ rfl HO.out HL.out rfl _ _ _ rfl rfl (fun h => absurd h (by simp)) (by simp) ?_; intro g' cap' w' hO hG hg)
      go_meet
      case rel => exact HF.out _ _ _ [] hO hG (by simp) (fun i hi => absurd hi (by simp))
    · obtain ⟨k0, o0, rfl, hlc, hcm, hzl, hcell, hfit⟩ : ∃ k0 o0, a0 = some ⟨k0, o0, none⟩ ∧ len0 ≤ cap0 ∧ cap0 ≤ maxLen ∧ z0.length = cap0 ∧ At w k0 o0 z0 ∧ Fit z0 := by
        rcases w0 with ⟨_, _, h, _⟩ | ⟨x, rfl, h1, h2, h3, h4, h5⟩
        · omega
        · obtain ⟨k0, o0, rfl, hc⟩ := ints_at h4 (by omega)
          refine ⟨k0, o0, rfl, h1, h2, h3, fun i hi => hc i hi, fun i hi => ?_⟩
          have hm : nth z0 i ∈ z0 := by simp [nth, List.getElem?_eq_getElem hi]
          exact bdi (h5 _ hm)
      have hlt : k0 < w.heap.size := block_lt_of_cell (hcell 0 (by omega))
      obtain ⟨m, hm, hm2⟩ : ∃ m, m ≤ len0 ∧ (len0 ≤ 40 ∧ m = len0 ∨ 40 < len0 ∧ m = 40) := by
        by_cases h : len0 ≤ 40
        · exact ⟨len0, Nat.le_refl _, .inl ⟨h, rfl⟩⟩
        · exact ⟨40, by omega, .inr ⟨by omega, rfl⟩⟩
      obtain ⟨ys, hys⟩ : ∃ ys, z0.take m = ys := ⟨_, rfl⟩
      have hyl : ys.length = m := by rw [← hys]; simp; omega
      have HY : Hid (m = ys.length ∧ Behind (w.alloc (.cells #[] 3)) (some ⟨k0, o0, none⟩) ys ∧ ys.length ≤ 40 ∧ Fit ys) := by
        refine ⟨hyl.symm, fun _ => ⟨k0, o0, rfl, ?_⟩, by omega, ?_⟩
        · rw [← hys]; exact (hcell.take m).below HB.out hlt
        · intro i hi
          rw [← hys, nth_take _ _ _ (by omega)]
          exact hfit i (by omega)
      unfold maxLen at hcm
      clear hys hyl hcell hfit hzl w0
      rcases hm2 with ⟨h40, rfl⟩ | ⟨h40, rfl⟩
      · go_wp2_with (at_builtin; refine list_app (ys := ys) rfl _ _ rfl HO.out HL.out rfl _ m _ HY.out.1 rfl HY.out.2.1 (by have := HY.out.2.2.1; simp; omega) ?_; intro g' cap' w' hO hG hg)
        go_meet
        case rel => exact HF.out _ _ _ ys hO hG HY.out.2.2.1 HY.out.2.2.2
      · go_wp2_with (at_builtin; refine list_app (ys := ys) rfl _ _ rfl HO.out HL.out rfl _ 40 _ HY.out.1 rfl HY.out.2.1 (by have := HY.out.2.2.1; simp; omega) ?_; intro g' cap' w' hO hG hg)
        go_meet
        case rel => exact HF.out _ _ _ ys hO hG HY.out.2.2.1 HY.out.2.2.2
  case rest =>
    obtain ⟨g, cap, zs, rfl, h40, hfit, hO, hB, hsz⟩ := hcut
    obtain ⟨hcp, hcm⟩ := hO.cap
    unfold maxLen at hcm
    obtain ⟨hg1, hg2⟩ := hO.lt
    have hat := hO.at
    obtain ⟨n, hn⟩ : ∃ n, zs.length = n := ⟨_, rfl⟩
    rw [hn] at hcp h40
    obtain ⟨k, hk⟩ : ∃ k, withinI cut 0 (n : Int) = k := ⟨_, rfl⟩
    obtain ⟨k1, k2⟩ : 0 ≤ k ∧ k ≤ (n : Int) := hk ▸ within_bd cut 0 (n : Int) (by omega)
    obtain ⟨K, rfl⟩ := Int.eq_ofNat_of_zero_le k1
    obtain ⟨s, hs⟩ : ∃ s, valI (sumTo zs zs.length) = s := ⟨_, rfl⟩
    obtain ⟨p, hp⟩ : ∃ p, okB (sumTo zs zs.length) = p := ⟨_, rfl⟩
    have HN : Hid (zs.length = n) := hn
    have HO : Hid (OwnR w.heap.size wc g cap zs) := hO
    have HA : Hid (At wc g 0 zs) := hat
    have HF : Hid (Fit zs) := hfit
    have HB : Hid (Below w.heap.size w wc) := hB
    clear hO hat hfit hB
    rw [hn]
    clear hn
    go_upto_region 5 with (first
      | (go_at_call 14; refine (roomy_any g 0 n cap 7 zs wc HN.out (by omega) HA.out).mono ?_; rintro e wd ⟨rfl, hd1, hd2, hd3⟩; have HD : Hid (At wd wc.heap.size 0 (zs ++ List.replicate 80 7) ∧ Below wc.heap.size wc wd) := ⟨hd1, hd3⟩; clear hd1 hd3)
      | (go_at_call 9; refine (sum_row wc.heap.size 0 n _ zs _ HN.out (by omega) HF.out HD.out.1.left).mono ?_; rintro e w' ⟨rfl, hw⟩; obtain rfl := hw.symm; simp only [hs, hp])
      | (go_at_call 15; refine (within_any _ _ _ _ ?_ ?_ ?_ ?_ ?_).mono ?_; assumption; assumption; omega; omega; omega; rintro e w' ⟨rfl, hw⟩; obtain rfl := hw.symm; simp only [hk]))
    obtain ⟨ys1, hy1⟩ : ∃ ys, zs.drop K = ys := ⟨_, rfl⟩
    obtain ⟨ys2, hy2⟩ : ∃ ys, zs.take K = ys := ⟨_, rfl⟩
    have HL1 : Hid (n - K = ys1.length) := by show _ = _; rw [← hy1, List.length_drop, HN.out]
    have HL2 : Hid (K = ys2.length) := by show _ = _; rw [← hy2, List.length_take, HN.out]; omega
    have hKn : K ≤ n := by omega
    have hKc : (K : Int) ≤ (cap : Int) := by omega
    have hKc' : K ≤ cap := by omega
    have hnc : (n : Int) ≤ (cap : Int) := by omega
    have HY : Hid (zs.drop K = ys1 ∧ zs.take K = ys2) := ⟨hy1, hy2⟩
    have HT1 : Hid (Below wd.heap.size wd (wd.alloc (.cells #[] 3)).drew) := ((Below.refl _ _).alloc (Nat.le_refl _) _).drew
    have HD1 : Hid (At wd g K ys1) := by
      have h := (HA.out.below HD.out.2 hg2).drop K
      rw [hy1, Nat.zero_add] at h
      exact h
    have HD2 : Hid (At wd g 0 ys2) := by
      have h := (HA.out.below HD.out.2 hg2).take K
      rw [hy2] at h
      exact h
    have HG : Hid (g < wd.heap.size) := by show _ < _; omega
    have HO1 : Hid (OwnR wd.heap.size (wd.alloc (.cells #[] 3)).drew wd.heap.size 0 []) := (OwnR.empty _ _ (Nat.le_refl _)).drew
    have HS1 : Hid (wd.heap.size ≤ (wd.alloc (.cells #[] 3)).drew.heap.size) := HT1.out.size
    have HC1 : Hid (([] : List Int).length + ys1.length ≤ 1000000) := by have := HL1.out; show _ ≤ _; simp; omega
    clear hy1 hy2
    have HP : Hid (At wd wc.heap.size 0 (zs ++ List.replicate 80 7) ∧ At wd g 0 zs ∧ Below w.heap.size w wd) := ⟨HD.out.1, HA.out.below HD.out.2 hg2, HB.out.trans (HD.out.2.mono hsz)⟩
    have hwd : w.heap.size ≤ wd.heap.size := by omega
    clear HD HA HB HO
    generalize wc.heap.size = H1 at *
    clear wc
    go_cut [14] (fun v14 wx => ∃ g5 c5, v14 = .slice (some ⟨g5, 0, none⟩) n c5 ∧ At wx g5 0 (ys1 ++ ys2) ∧ Below wd.heap.size wd wx ∧ wd.heap.size ≤ wx.heap.size)
    case first =>
      have HC2 : Hid (ys1.length + ys2.length ≤ 1000000) := by have := HL1.out; have := HL2.out; show _ ≤ _; omega
      have HT : Hid (∀ (p1 q1 : Nat) (x1 : World), OwnR wd.heap.size x1 p1 q1 ([] ++ ys1) → (wd.alloc (.cells #[] 3)).drew.grownBy x1 (some wd.heap.size) → OwnR wd.heap.size x1 p1 q1 ys1 ∧ wd.heap.size ≤ x1.heap.size ∧ Below wd.heap.size wd x1 ∧ Behind x1 (some ⟨g, 0, none⟩) ys2) := by
        intro p1 q1 x1 hO hG
        have hb := HT1.out.grown hG HS1.out (fun k hk => by cases hk; exact Nat.le_refl _)
        exact ⟨hO, hb.size, hb, fun _ => ⟨g, 0, rfl, HD2.out.below hb HG.out⟩⟩
      by_cases hkc : cap = K
      · subst hkc
        have e0 : n = cap := by omega
        subst e0
        have HL1' : Hid (0 = ys1.length) := by have := HL1.out; show _ = _; omega
        have hb1 : Hid (Behind (wd.alloc (.cells #[] 3)).drew (some ⟨g, 0, none⟩) ys1) := fun h => absurd h (by have := HL1'.out; omega)
        clear hnc hKc hKc' hKn hcp
        go_region_held3 (fun _ => True) (trivial)
          (first
            | (refine step_app (ys := ys1) (by rfl) (.tmp 48) (.tmp 51) (by rfl) HO1.out HS1.out (by rfl) (some ⟨g, 0, none⟩) 0 0 HL1'.out (by rfl) hb1.out HC1.out ?_; intro p1 q1 x1 hO1 hG1 hp1; obtain ⟨hO1', hS1', hB1', hb2⟩ := HT.out p1 q1 x1 hO1 hG1)
            | (refine step_app (xs := ys1) (ys := ys2) (by rfl) (.tmp 52) (.tmp 55) (by rfl) hO1' hS1' (by rfl) (some ⟨g, 0, none⟩) n n HL2.out (by rfl) hb2 HC2.out ?_; intro p2 q2 x2 hO2 hG2 hp2))
        all_goals
          go_wp2_with fail
          go_meet
          case rel =>
            have hb2' := hB1'.grown hG2 hS1' (fun k hk => by cases hk; exact hO1'.lt.1)
            exact ⟨p2, q2, by have h1 := HL1.out; have h2 := HL2.out; rw [show ys1.length + ys2.length = n by omega], hO2.at, hb2', hb2'.size⟩
      · have hb1 : Hid (Behind (wd.alloc (.cells #[] 3)).drew (some ⟨g, K, none⟩) ys1) := fun _ => ⟨g, K, rfl, HD1.out.below HT1.out HG.out⟩
        go_region_held3 (fun _ => True) (trivial)
          (first
            | (refine step_app (ys := ys1) (by rfl) (.tmp 48) (.tmp 51) (by rfl) HO1.out HS1.out (by rfl) (some ⟨g, K, none⟩) (n - K) (cap - K) HL1.out (by rfl) hb1.out HC1.out ?_; intro p1 q1 x1 hO1 hG1 hp1; obtain ⟨hO1', hS1', hB1', hb2⟩ := HT.out p1 q1 x1 hO1 hG1)
            | (refine step_app (xs := ys1) (ys := ys2) (by rfl) (.tmp 52) (.tmp 55) (by rfl) hO1' hS1' (by rfl) (some ⟨g, 0, none⟩) K cap HL2.out (by rfl) hb2 HC2.out ?_; intro p2 q2 x2 hO2 hG2 hp2))
        all_goals
          go_wp2_with fail
          go_meet
          case rel =>
            have hb2' := hB1'.grown hG2 hS1' (fun k hk => by cases hk; exact hO1'.lt.1)
            exact ⟨p2, q2, by have h1 := HL1.out; have h2 := HL2.out; rw [show ys1.length + ys2.length = n by omega], hO2.at, hb2', hb2'.size⟩
    case rest =>
      obtain ⟨g5, c5, rfl, hat5, hb5, hsz5⟩ := hcut
      have HX : Hid (At wc g5 0 (ys1 ++ ys2) ∧ Below wd.heap.size wd wc) := ⟨hat5, hb5⟩
      have HE : Hid ((ys1 ++ ys2).length = n ∧ Fit (ys1 ++ ys2) ∧ sumTo (ys1 ++ ys2) (ys1 ++ ys2).length = sumTo zs zs.length) := by
        have h1 := HL1.out
        have h2 := HL2.out
        refine ⟨by rw [List.length_append]; omega, ?_, ?_⟩
        · rw [← HY.out.1, ← HY.out.2]; exact HF.out.turned K
        · rw [← HY.out.1, ← HY.out.2]; exact sum_turned zs K
      have HI : Hid (At (wc.alloc (.cells #[.int .i64 a, .int .i64 b] 3)) H1 0 (zs ++ List.replicate 80 7) ∧ At (wc.alloc (.cells #[.int .i64 a, .int .i64 b] 3)) g 0 zs ∧ Below w.heap.size w (wc.alloc (.cells #[.int .i64 a, .int .i64 b] 3)) ∧ w.heap.size ≤ (wc.alloc (.cells #[.int .i64 a, .int .i64 b] 3)).heap.size) := by
        have hb := hb5.alloc hsz5 (.cells #[.int .i64 a, .int .i64 b] 3)
        refine ⟨HP.out.1.below hb hd2, HP.out.2.1.below hb HG.out, HP.out.2.2.trans (hb.mono hwd), Nat.le_trans hwd hb.size⟩
      clear hat5 hb5 HY HT1 HD1 HD2 HO1 HS1 HC1 HP
      obtain ⟨x, hx⟩ : ∃ x, valI (a + b) = x := ⟨_, rfl⟩
      obtain ⟨q, hq⟩ : ∃ q, okB (a + b) = q := ⟨_, rfl⟩
      obtain ⟨d, hd⟩ : ∃ d, valI (a - b) = d := ⟨_, rfl⟩
      obtain ⟨r, hr⟩ : ∃ r, okB (a - b) = r := ⟨_, rfl⟩
      obtain ⟨d1, d2⟩ : -9223372036854775808 ≤ d ∧ d ≤ 9223372036854775807 := hd ▸ val_bd _
      obtain ⟨e, he⟩ : ∃ e, valI (d + b) = e := ⟨_, rfl⟩
      obtain ⟨u, hu⟩ : ∃ u, okB (d + b) = u := ⟨_, rfl⟩
      have F1 : Aside (r = true ∧ e = a ∧ u = true ∨ r = false ∧ d = 0) := by
        cases r
        · right
          exact ⟨rfl, by rw [← hd]; exact val_no (no_of hr)⟩
        · left
          obtain ⟨h1, h2⟩ := ok_of hr
          have ed : d + b = a := by rw [← hd, val_yes h1 h2]; omega
          rw [ed] at he hu
          exact ⟨rfl, by rw [← he]; exact val_yes a1 a2, by rw [← hu]; exact ok_yes a1 a2⟩
      have oa := ok_yes a1 a2
      have ob := ok_yes b1 b2
      go_upto_region 8 with (first
        | (go_at_call 9; refine (sum_row g5 0 n _ (ys1 ++ ys2) _ HE.out.1 (by omega) HE.out.2.1 HX.out.1).mono ?_; rintro e w' ⟨rfl, hw⟩; obtain rfl := hw.symm; simp only [HE.out.2.2, hs, hp])
        | (go_at_call 8; refine (add_any _ _ _ ?_ ?_ ?_ ?_).mono ?_; assumption; assumption; assumption; assumption; rintro e w' ⟨rfl, hw⟩; obtain rfl := hw.symm; simp only [hx, hq]))
      go_upto_region 11 with (first
        | (go_at_call 9; refine (sum_new2 a b _ _ oa ob).mono ?_; rintro e w' ⟨rfl, hw⟩; obtain rfl := hw.symm; simp only [hx, hq])
        | (go_at_call 13; refine (sub_any _ _ _ ?_ ?_ ?_ ?_).mono ?_; assumption; assumption; assumption; assumption; rintro e w' ⟨rfl, hw⟩; obtain rfl := hw.symm; simp only [hd, hr])
        | (go_at_call 8; refine (add_any _ _ _ ?_ ?_ ?_ ?_).mono ?_; assumption; assumption; assumption; assumption; rintro e w' ⟨rfl, hw⟩; obtain rfl := hw.symm; simp only [he, hu]))
      go_cut [124] (fun o wy => o = .bool false ∧ wy = wc.alloc (.cells #[.int .i64 a, .int .i64 b] 3))
      case first =>
        rcases F1.out with ⟨rfl, rfl, rfl⟩ | ⟨rfl, rfl⟩
        all_goals
          go_wp2_with fail
          go_meet
          case rel => exact ⟨rfl, rfl⟩
      case rest =>
        obtain ⟨rfl, rfl⟩ := hcut
        clear F1 HX HE
        go_wp2_with (first
          | (go_at_call 9; refine (sum_none _ _ _).mono ?_; rintro e w' ⟨rfl, hw⟩; obtain rfl := hw.symm)
          | (go_at_call 16; refine (intact_any H1 (n + 80) g 0 n cap 7 zs _ HN.out (by omega) (Nat.le_refl _) HI.out.1 HI.out.2.1).mono ?_; rintro e w' ⟨rfl, q1, rfl⟩)
          | (go_at_call 3; refine (fruns_any _).mono ?_; rintro e w' ⟨rfl, cs, rfl⟩))
        go_ret
        exact ⟨rfl, (below_drewN HI.out.2.2.1 _).alloc HI.out.2.2.2 _⟩

end Go.Proofs.Ytfdiokegicbjcaa
