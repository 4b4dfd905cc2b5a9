/- What Eval, Best and Size of package model answer. -/
import Derived.Test.YtnjfbmnecfiliaaModelC
namespace Go.Proofs.Ytnjfbmnecfiliaa
open Go.RowKit M

theorem RightM.n8 {m : Md} {w : World} (h : RightM m) (hw : m.ok w) : m.n ≤ 8 := by have := h.trees.1; rw [hw.is.len] at this; exact this
theorem RightM.bc {m : Md} (h : RightM m) {c : Int} : m.b c = 0 ∨ fit32 (m.b c) = true := by
  obtain ⟨⟨h0, h1, h2⟩, _⟩ := h.bias
  right
  unfold Md.b
  split
  · exact h0
  · split <;> assumption
/-- what Eval comes to -/
def EvalP (m : Md) (p : Int → Int) (c E : Int) : Prop := (RightM m → 0 ≤ c → c < m.k → m.sum p c = E) ∧ (¬ (RightM m ∧ 0 ≤ c ∧ c < m.k) → E = 0)
open Classical in
theorem evalP_is (m : Md) (p : Int → Int) (c : Int) : ∃ E, EvalP m p c E := by
  by_cases h : RightM m ∧ 0 ≤ c ∧ c < m.k
  · exact ⟨_, fun _ _ _ => rfl, fun h' => absurd h h'⟩
  · exact ⟨0, fun h1 h2 h3 => absurd ⟨h1, h2, h3⟩ h, fun _ => rfl⟩
theorem EvalP.at {m : Md} {p : Int → Int} {c E : Int} (h : EvalP m p c E) (hr : RightM m) (h0 : 0 ≤ c) (h1 : c < m.k) : E = m.sum p c := (h.1 hr h0 h1).symm
theorem EvalP.no {m : Md} {p : Int → Int} {c E : Int} (h : EvalP m p c E) (hr : ¬ (RightM m ∧ 0 ≤ c ∧ c < m.k)) : E = 0 := h.2 hr
theorem RightM.evalP {m : Md} (hr : RightM m) (p : Int → Int) {c : Int} (h0 : 0 ≤ c) (h1 : c < m.k) : EvalP m p c (m.sum p c) := ⟨fun _ _ _ => rfl, fun h => absurd ⟨hr, h0, h1⟩ h⟩

set_option maxRecDepth 100000 in
set_option maxHeartbeats 1600000 in
theorem eval_ans {m : Md} {c E : Int} (p : Int → Int) {ww : World} (hw : m.ok ww) (hE : EvalP m p c E) : AnsW ww 11 #[modelV m, .int .i64 c, pointV p] (.int .i64 E) := fun w hjw => by
  have hw' := hw.jk hjw
  obtain ⟨x, hx⟩ := right_bool m
  have HX := hid (rightM_ans hw' hx)
  have HG := hid (has_ans m.d m.k m.b0 m.b1 m.b2 m.a m.n m.c c)
  obtain ⟨y, hy⟩ : ∃ y, hasB m.k c = y := ⟨_, rfl⟩
  rw [hy] at HG
  have HS : Hid (x = true → y = true → AnsW w 27 #[modelV m, .int .i64 c, pointV p] (.int .i64 E)) := fun e1 e2 => by
    have hr := hx.1 e1
    rw [e2] at hy
    have h := hasB_iff.1 hy
    exact sum_ans p hw' (hr.n8 hw') hr.bc h.1 (by have := hr.k3; omega) (hE.1 hr h.1 h.2)
  have HN : Hid (x = false ∨ y = false → 0 = E) := fun e => by
    refine (hE.2 fun h => ?_).symm
    rcases e with rfl | rfl
    · have := hx.2 h.1; cases this
    · have := hasB_iff.2 h.2; rw [hy] at this; cases this
  clear hE hw hw' hjw hx hy
  obtain ⟨d, k, b0, b1, b2, a, n, cp, ts⟩ := m
  simp only at HX HG HS
  obtain ⟨p0, e0⟩ : ∃ z, p 0 = z := ⟨_, rfl⟩
  obtain ⟨p1, e1⟩ : ∃ z, p 1 = z := ⟨_, rfl⟩
  obtain ⟨p2, e2⟩ : ∃ z, p 2 = z := ⟨_, rfl⟩
  obtain ⟨p3, e3⟩ : ∃ z, p 3 = z := ⟨_, rfl⟩
  simp only [pointV, modelV, e0, e1, e2, e3] at HS HX ⊢
  clear e0 e1 e2 e3
  have J := rules8
  cases x
  · obtain rfl := HN.out (.inl rfl)
    clear HS
    go_enter Try.func11, Try.ntmps11
    go_wp2_with (first | (go_at_call 10; refine (HX.out.on _ (by repeat (with_reducible first | exact Jk.refl _ | apply Jk.junk | apply Jk.alloc))).mono ?_; rintro e w1 ⟨rfl, X1, rfl⟩) | (go_at_call 26; refine (HG.out.on _).mono ?_; rintro e w1 ⟨rfl, X2, rfl⟩))
    go_ret
    exact ⟨rfl, by repeat (with_reducible first | exact Jk.refl _ | apply Jk.junk | apply Jk.alloc)⟩
  · cases y
    · obtain rfl := HN.out (.inr rfl)
      clear HS
      go_enter Try.func11, Try.ntmps11
      go_wp2_with (first | (go_at_call 10; refine (HX.out.on _ (by repeat (with_reducible first | exact Jk.refl _ | apply Jk.junk | apply Jk.alloc))).mono ?_; rintro e w1 ⟨rfl, X1, rfl⟩) | (go_at_call 26; refine (HG.out.on _).mono ?_; rintro e w1 ⟨rfl, X2, rfl⟩))
      go_ret
      exact ⟨rfl, by repeat (with_reducible first | exact Jk.refl _ | apply Jk.junk | apply Jk.alloc)⟩
    · have HT := hid (HS.out rfl rfl)
      clear HS HN
      go_enter Try.func11, Try.ntmps11
      go_wp2_with (first | (go_at_call 10; refine (HX.out.on _ (by repeat (with_reducible first | exact Jk.refl _ | apply Jk.junk | apply Jk.alloc))).mono ?_; rintro e w1 ⟨rfl, X1, rfl⟩) | (go_at_call 26; refine (HG.out.on _).mono ?_; rintro e w1 ⟨rfl, X2, rfl⟩) | (go_at_call 27; refine (HT.out.on _ (by repeat (with_reducible first | exact Jk.refl _ | apply Jk.junk | apply Jk.alloc))).mono ?_; rintro e w1 ⟨rfl, X3, rfl⟩))
      go_ret
      exact ⟨rfl, by repeat (with_reducible first | exact Jk.refl _ | apply Jk.junk | apply Jk.alloc)⟩

/-- how many words the first j trees have, as the code counts them -/
def sizeI (ts : List Tr) : Nat → Int
  | 0 => 0
  | j + 1 => wrap64 (sizeI ts j + ((tA ts j).n : Int))
set_option maxRecDepth 100000 in
set_option maxHeartbeats 1600000 in
theorem size_ans {m : Md} {S : Int} {ww : World} (hw : m.ok ww) (hS : sizeI m.ts m.n = S) : AnsW ww 14 #[modelV m] (.int .i64 S) := fun w hjw => by
  have hT := (hw.jk hjw).is
  obtain ⟨d, k, b0, b1, b2, a, n, c, ts⟩ := m
  simp only at hT hS
  have HS := hid hS
  have J := rules8
  have HL : Hid (ts.length = n) := hT.len
  have hmax := hT.max
  have hcap := hT.cap
  unfold maxLen at hmax
  clear hw hjw hS
  obtain ⟨w0, hw0⟩ : ∃ w0, w.alloc (.cells #[.int .i64 d, .int .i64 k, .int .i64 b0, .int .i64 b1, .int .i64 b2, .slice a n c] 29) = w0 := ⟨_, rfl⟩
  have HI : Hid (MdIn w0 w.heap.size ⟨d, k, b0, b1, b2, a, n, c, ts⟩) := hw0 ▸ MdIn.laid w ⟨d, k, b0, b1, b2, a, n, c, ts⟩ _
  have H0 : Hid (Jk w w0) := hw0 ▸ (Jk.refl w).alloc _
  have HT : Hid (IsT w0 a n c ts) := hT.jk H0.out
  clear hT
  have hc5 : w0.cell? ⟨w.heap.size, 5, none⟩ = some (.slice a n c) := HI.out.2.2.2.2.2.2
  go_enter Try.func14, Try.ntmps14
  go_wp2
  go_loopg [3, 9] n (fun r s i wr => ∃ j : Nat, j + r = n ∧ i = .int .i64 (j : Int) ∧ s = .int .i64 (sizeI ts j) ∧ Hid (Jk w0 wr))
  case atStart => exact ⟨0, by omega, rfl, rfl, hid (Jk.refl _)⟩
  case round =>
    obtain ⟨j, hj, rfl, rfl, HJ⟩ := hrel
    clear hc5
    obtain ⟨s1, c0, c1, c2, c3, c4, c5⟩ := HI.out.jk HJ.out
    clear c0 c1 c2 c3 c4
    simp only at c5
    by_cases hfuel : gk = 0
    · subst hfuel
      obtain rfl : j = n := by omega
      have e := HS.out
      go_wp2
      go_ret
      exact ⟨ret_int e, H0.out.trans HJ.out⟩
    · obtain ⟨r, rfl⟩ : ∃ r, gk = r + 1 := ⟨gk - 1, by omega⟩
      have hjn : (j : Int) < (n : Int) := by omega
      obtain ⟨g, o, rfl, hg, hat⟩ := HT.out.lies (by omega)
      have hgr : g < wr.heap.size := Nat.lt_of_lt_of_le hg HJ.out.below.size
      obtain ⟨k0, k1⟩ := (hat.jk HJ.out hg) j (by rw [HL.out]; omega)
      obtain ⟨t, ht⟩ : ∃ t, tA ts j = t := ⟨_, rfl⟩
      have HTr : Hid (tA ts j = t) := ht
      rw [ht] at k0 k1
      clear ht hat
      obtain ⟨cl, ta, tn, tc, tw⟩ := t
      simp only at k0 k1
      obtain ⟨q, hq⟩ : ∃ q, sizeI ts j = q := ⟨_, rfl⟩
      have HQ : Hid (sizeI ts j = q) := hq
      rw [hq]
      clear hq
      go_wp2
      go_roundg r
      case measure => omega
      case rel => exact ⟨j + 1, by omega, by go_num, by simp only [sizeI, HTr.out, HQ.out], by repeat (with_reducible first | exact HJ | apply hid | exact HJ.out | apply Jk.junk | apply Jk.alloc)⟩

end Go.Proofs.Ytnjfbmnecfiliaa
