/- What sum, Eval and Size of package model answer.
   What Eval, Best and Size of package model answer.
   What Best of package model answers. -/
import Derived.Test.YtndnijdpafcmoaaModelB
namespace Go.Proofs.Ytndnijdpafcmoaa
open Go.RowKit M

set_option maxRecDepth 100000 in
set_option maxHeartbeats 1600000 in
theorem sum_ans {m : Md} {c S : Int} (p : Int → Int) {ww : World} (hw : m.ok ww) (h8 : m.n ≤ 8) (hb : m.b c = 0 ∨ fit32 (m.b c) = true) (hc0 : 0 ≤ c) (hc3 : c < 3) (hS : m.sum p c = S) : AnsW ww 21 #[modelV m, .int .i64 c, pointV p] (.int .i64 S) := fun w hjw => by
  have hT := (hw.jk hjw).is
  have hB : -2147483648 ≤ m.b c ∧ m.b c ≤ 2147483647 := by
    rcases hb with h | h
    · omega
    · simp [fit32] at h; omega
  obtain ⟨B, hBe⟩ : ∃ B, m.b c = B := ⟨_, rfl⟩
  rw [hBe] at hB
  obtain ⟨d, k, b0, b1, b2, a, n, cp, ts⟩ := m
  simp only at hT h8
  have HL : Hid (ts.length = n) := hT.len
  have HS : Hid (B + sumTo ts p c n = S) := by rw [← hS, Md.sum, hBe, HL.out]; rfl
  have J := rules8
  have hmax := hT.max
  have hcap := hT.cap
  unfold maxLen at hmax
  have HV : Hid (∀ {w : World} {a : Option Addr} {n c : Nat} {ws : List Int}, IsW w a n c ws → AnsW w 33 #[.slice a n c, pointV p] (.int .i64 (valW ws p))) := fun h => value_ans p h
  obtain ⟨p0, e0⟩ : ∃ z, p 0 = z := ⟨_, rfl⟩
  obtain ⟨p1, e1⟩ : ∃ z, p 1 = z := ⟨_, rfl⟩
  obtain ⟨p2, e2⟩ : ∃ z, p 2 = z := ⟨_, rfl⟩
  obtain ⟨p3, e3⟩ : ∃ z, p 3 = z := ⟨_, rfl⟩
  simp only [pointV, e0, e1, e2, e3] at HV ⊢
  clear e0 e1 e2 e3 hw hjw hS hb
  obtain ⟨w0, hw0⟩ : ∃ w0, w.alloc (.cells #[.int .i64 d, .int .i64 k, .int .i64 b0, .int .i64 b1, .int .i64 b2, .slice a n cp] 33) = w0 := ⟨_, rfl⟩
  have HI0 : Hid (MdIn w0 w.heap.size ⟨d, k, b0, b1, b2, a, n, cp, ts⟩) := hw0 ▸ MdIn.laid w ⟨d, k, b0, b1, b2, a, n, cp, ts⟩ _
  have hsz0 : w0.heap.size = w.heap.size + 1 := by rw [← hw0]; simp
  obtain ⟨w9, hw9⟩ : ∃ w9, w0.alloc (.cells #[.int .i64 p0, .int .i64 p1, .int .i64 p2, .int .i64 p3] 29) = w9 := ⟨_, rfl⟩
  have H00 : Hid (Jk w w0) := hw0 ▸ (Jk.refl w).alloc _
  have H09 : Hid (Jk w0 w9) := hw9 ▸ (Jk.refl w0).alloc _
  have HP : Hid (∀ wr, Jk w9 wr → wr.cell? ⟨w.heap.size + 1, 0, none⟩ = some (.int .i64 p0) ∧ wr.cell? ⟨w.heap.size + 1, 1, none⟩ = some (.int .i64 p1) ∧ wr.cell? ⟨w.heap.size + 1, 2, none⟩ = some (.int .i64 p2) ∧ wr.cell? ⟨w.heap.size + 1, 3, none⟩ = some (.int .i64 p3) ∧ w.heap.size + 1 < wr.heap.size) := fun wr hj => by
    rw [← hsz0]
    have hl : w0.heap.size < w9.heap.size := by rw [← hw9]; simp
    have e := fun i => hj.below.cell (p := ⟨w0.heap.size, i, none⟩) hl
    rw [e, e, e, e, ← hw9]
    exact ⟨World.cell?_alloc_at _ _ _ _ rfl, World.cell?_alloc_at _ _ _ _ rfl, World.cell?_alloc_at _ _ _ _ rfl, World.cell?_alloc_at _ _ _ _ rfl, Nat.lt_of_lt_of_le (hw9 ▸ hl) (hw9 ▸ hj.below.size)⟩
  have HI : Hid (MdIn w9 w.heap.size ⟨d, k, b0, b1, b2, a, n, cp, ts⟩) := HI0.out.jk H09.out
  have HT : Hid (IsT w9 a n cp ts) := hT.jk (H00.out.trans H09.out)
  have H0 : Hid (Jk w w9) := H00.out.trans H09.out
  obtain ⟨i0, i1, i2, i3, i4, i5, i6⟩ := HI.out
  simp only at i1 i2 i3 i4 i5 i6
  obtain ⟨C, rfl⟩ := Int.eq_ofNat_of_zero_le hc0
  have hcell : w9.cell? ⟨w.heap.size, 2 + C, none⟩ = some (.int .i64 B) := by
    simp [Md.b] at hBe
    have : C = 0 ∨ C = 1 ∨ C = 2 := by omega
    rcases this with rfl | rfl | rfl <;> simp_all
  clear hT HI0 H00 H09 hBe i1 i2 i3 i4 i5
  go_enter Try.func21, Try.ntmps21
  go_wp2
  go_loopg [7, 17] n (fun r s i wr => ∃ (j : Nat) (s' : Int), j + r = n ∧ i = .int .i64 (j : Int) ∧ s = .int .i64 s' ∧ Hid (B + sumTo ts p C j = s') ∧ Hid (Jk w9 wr))
  case atStart => exact ⟨0, _, by omega, rfl, rfl, hid (by simp [sumTo]), hid (Jk.refl _)⟩
  case round =>
    obtain ⟨j, s', hj, rfl, rfl, HSj, HJ⟩ := hrel
    clear i6 hcell i0
    obtain ⟨s1, c0, c1, c2, c3, c4, c5⟩ := HI.out.jk HJ.out
    clear c0 c1 c2 c3 c4
    obtain ⟨q0, q1, q2, q3, q4⟩ := HP.out _ HJ.out
    simp only at c5
    by_cases hfuel : gk = 0
    · subst hfuel
      obtain rfl : j = n := by omega
      obtain rfl : s' = S := HSj.out.symm.trans HS.out
      go_wp2
      go_ret
      exact ⟨rfl, H0.out.trans HJ.out⟩
    · obtain ⟨r, rfl⟩ : ∃ r, gk = r + 1 := ⟨gk - 1, by omega⟩
      have hjn : (j : Int) < (n : Int) := by omega
      obtain ⟨g, o, rfl, hg, hat⟩ := HT.out.lies (by omega)
      have hgr : g < wr.heap.size := Nat.lt_of_lt_of_le hg HJ.out.below.size
      obtain ⟨k0, k1⟩ := (hat.jk HJ.out hg) j (by rw [HL.out]; omega)
      have hok := (HT.out.all j (by omega)).jk HJ.out
      obtain ⟨t, ht⟩ : ∃ t, tA ts j = t := ⟨_, rfl⟩
      have HTr : Hid (tA ts j = t) := ht
      rw [ht] at k0 k1 hok
      clear ht hat
      obtain ⟨cl, ta, tn, tc, tw⟩ := t
      simp only at k0 k1
      have hv := valW_bd tw p
      have hsb := sumTo_bd ts p C j
      have HR := hid (HV.out hok.is)
      simp only at HR
      obtain ⟨V, hV⟩ : ∃ V, valW tw p = V := ⟨_, rfl⟩
      have HVe : Hid (valW tw p = V) := hV
      rw [hV] at hv HR
      have hs1 : -2147483648 * 9 ≤ s' ∧ s' ≤ 2147483647 * 9 := by have := HSj.out; omega
      have hwr : IntKind.i64.wrap (s' + V) = s' + V := i64_in (by omega) (by omega)
      clear hV hsb hok
      by_cases hcl : cl = C
      · subst hcl
        go_wp2_with (first | (go_at_call 33; refine (HR.out.on _ (by repeat (with_reducible first | exact Jk.refl _ | apply Jk.junk | apply Jk.alloc))).mono ?_; rintro e w1 ⟨rfl, X2, rfl⟩))
        go_roundg r
        case measure => omega
        case rel => exact ⟨j + 1, _, by omega, by go_num, rfl, hid (by simp only [sumTo, HTr.out, if_true, HVe.out]; have := HSj.out; omega), by repeat (with_reducible first | exact HJ | apply hid | exact HJ.out | apply Jk.junk | apply Jk.alloc)⟩
      · have hcl2 : (cl == (C : Int)) = false := by simpa using hcl
        go_wp2
        go_roundg r
        case measure => omega
        case rel => exact ⟨j + 1, _, by omega, by go_num, rfl, hid (by simp only [sumTo, HTr.out, if_neg hcl]; have := HSj.out; omega), by repeat (with_reducible first | exact HJ | apply hid | exact HJ.out | apply Jk.junk | apply Jk.alloc)⟩

end Go.Proofs.Ytndnijdpafcmoaa

namespace Go.Proofs.Ytndnijdpafcmoaa
open Go.RowKit M

theorem RightM.n8 {m : Md} {w : World} (h : RightM m) (hw : m.ok w) : m.n ≤ 8 := by have := h.trees.1; rw [hw.is.len] at this; exact this
theorem RightM.bc {m : Md} (h : RightM m) {c : Int} : m.b c = 0 ∨ fit32 (m.b c) = true := by
  obtain ⟨⟨h0, h1, h2⟩, _⟩ := h.bias
  right
  unfold Md.b
  split
  · exact h0
  · split <;> assumption
/-- what Eval comes to -/
def EvalP (m : Md) (p : Int → Int) (c E : Int) : Prop := (RightM m → 0 ≤ c → c < m.k → m.sum p c = E) ∧ (¬ (RightM m ∧ 0 ≤ c ∧ c < m.k) → E = 0)
open Classical in
theorem evalP_is (m : Md) (p : Int → Int) (c : Int) : ∃ E, EvalP m p c E := by
  by_cases h : RightM m ∧ 0 ≤ c ∧ c < m.k
  · exact ⟨_, fun _ _ _ => rfl, fun h' => absurd h h'⟩
  · exact ⟨0, fun h1 h2 h3 => absurd ⟨h1, h2, h3⟩ h, fun _ => rfl⟩
theorem EvalP.at {m : Md} {p : Int → Int} {c E : Int} (h : EvalP m p c E) (hr : RightM m) (h0 : 0 ≤ c) (h1 : c < m.k) : E = m.sum p c := (h.1 hr h0 h1).symm
theorem EvalP.no {m : Md} {p : Int → Int} {c E : Int} (h : EvalP m p c E) (hr : ¬ (RightM m ∧ 0 ≤ c ∧ c < m.k)) : E = 0 := h.2 hr
theorem RightM.evalP {m : Md} (hr : RightM m) (p : Int → Int) {c : Int} (h0 : 0 ≤ c) (h1 : c < m.k) : EvalP m p c (m.sum p c) := ⟨fun _ _ _ => rfl, fun h => absurd ⟨hr, h0, h1⟩ h⟩

set_option maxRecDepth 100000 in
set_option maxHeartbeats 1600000 in
theorem eval_ans {m : Md} {c E : Int} (p : Int → Int) {ww : World} (hw : m.ok ww) (hE : EvalP m p c E) : AnsW ww 8 #[modelV m, .int .i64 c, pointV p] (.int .i64 E) := fun w hjw => by
  have hw' := hw.jk hjw
  obtain ⟨x, hx⟩ := right_bool m
  have HX := hid (rightM_ans hw' hx)
  have HG := hid (hasC_ans m.d m.k m.b0 m.b1 m.b2 m.a m.n m.c c)
  obtain ⟨y, hy⟩ : ∃ y, hasC m.k c = y := ⟨_, rfl⟩
  rw [hy] at HG
  have HS : Hid (x = true → y = true → AnsW w 21 #[modelV m, .int .i64 c, pointV p] (.int .i64 E)) := fun e1 e2 => by
    have hr := hx.1 e1
    rw [e2] at hy
    have h := hasC_iff.1 hy
    exact sum_ans p hw' (hr.n8 hw') hr.bc h.1 (by have := hr.k3; omega) (hE.1 hr h.1 h.2)
  have HN : Hid (x = false ∨ y = false → 0 = E) := fun e => by
    refine (hE.2 fun h => ?_).symm
    rcases e with rfl | rfl
    · have := hx.2 h.1; cases this
    · have := hasC_iff.2 h.2; rw [hy] at this; cases this
  clear hE hw hw' hjw hx hy
  obtain ⟨d, k, b0, b1, b2, a, n, cp, ts⟩ := m
  simp only at HX HG HS
  obtain ⟨p0, e0⟩ : ∃ z, p 0 = z := ⟨_, rfl⟩
  obtain ⟨p1, e1⟩ : ∃ z, p 1 = z := ⟨_, rfl⟩
  obtain ⟨p2, e2⟩ : ∃ z, p 2 = z := ⟨_, rfl⟩
  obtain ⟨p3, e3⟩ : ∃ z, p 3 = z := ⟨_, rfl⟩
  simp only [pointV, modelV, e0, e1, e2, e3] at HS HX ⊢
  clear e0 e1 e2 e3
  have J := rules8
  cases x
  · obtain rfl := HN.out (.inl rfl)
    clear HS
    go_enter Try.func8, Try.ntmps8
    go_wp2_with (first | (go_at_call 16; refine (HX.out.on _ (by repeat (with_reducible first | exact Jk.refl _ | apply Jk.junk | apply Jk.alloc))).mono ?_; rintro e w1 ⟨rfl, X1, rfl⟩) | (go_at_call 20; refine (HG.out.on _).mono ?_; rintro e w1 ⟨rfl, X2, rfl⟩))
    go_ret
    exact ⟨rfl, by repeat (with_reducible first | exact Jk.refl _ | apply Jk.junk | apply Jk.alloc)⟩
  · cases y
    · obtain rfl := HN.out (.inr rfl)
      clear HS
      go_enter Try.func8, Try.ntmps8
      go_wp2_with (first | (go_at_call 16; refine (HX.out.on _ (by repeat (with_reducible first | exact Jk.refl _ | apply Jk.junk | apply Jk.alloc))).mono ?_; rintro e w1 ⟨rfl, X1, rfl⟩) | (go_at_call 20; refine (HG.out.on _).mono ?_; rintro e w1 ⟨rfl, X2, rfl⟩))
      go_ret
      exact ⟨rfl, by repeat (with_reducible first | exact Jk.refl _ | apply Jk.junk | apply Jk.alloc)⟩
    · have HT := hid (HS.out rfl rfl)
      clear HS HN
      go_enter Try.func8, Try.ntmps8
      go_wp2_with (first | (go_at_call 16; refine (HX.out.on _ (by repeat (with_reducible first | exact Jk.refl _ | apply Jk.junk | apply Jk.alloc))).mono ?_; rintro e w1 ⟨rfl, X1, rfl⟩) | (go_at_call 20; refine (HG.out.on _).mono ?_; rintro e w1 ⟨rfl, X2, rfl⟩) | (go_at_call 21; refine (HT.out.on _ (by repeat (with_reducible first | exact Jk.refl _ | apply Jk.junk | apply Jk.alloc))).mono ?_; rintro e w1 ⟨rfl, X3, rfl⟩))
      go_ret
      exact ⟨rfl, by repeat (with_reducible first | exact Jk.refl _ | apply Jk.junk | apply Jk.alloc)⟩

/-- how many words the first j trees have, as the code counts them -/

def sizeI (ts : List Tr) : Nat → Int
  | 0 => 0
  | j + 1 => wrap64 (sizeI ts j + ((tA ts j).n : Int))

end Go.Proofs.Ytndnijdpafcmoaa

namespace Go.Proofs.Ytndnijdpafcmoaa
open Go.RowKit M

/-- the best of the classes 0 to j -/
def bestTo (m : Md) (p : Int → Int) : Nat → Int
  | 0 => 0
  | j + 1 => if m.sum p (bestTo m p j) < m.sum p ((j + 1 : Nat) : Int) then ((j + 1 : Nat) : Int) else bestTo m p j
theorem bestTo_bd (m : Md) (p : Int → Int) (j : Nat) : 0 ≤ bestTo m p j ∧ bestTo m p j ≤ j := by
  induction j with
  | zero => simp [bestTo]
  | succ j ih =>
    simp only [bestTo]
    split <;> omega
theorem bestTo_best (m : Md) (p : Int → Int) (j : Nat) : ∀ c : Int, 0 ≤ c → c ≤ j → m.sum p c ≤ m.sum p (bestTo m p j) ∧ (c < bestTo m p j → m.sum p c < m.sum p (bestTo m p j)) := by
  induction j with
  | zero =>
    intro c h0 h1
    obtain rfl : c = 0 := by omega
    simp [bestTo]
  | succ j ih =>
    intro c h0 h1
    have hb := bestTo_bd m p j
    simp only [bestTo]
    split
    · by_cases e : c = ((j + 1 : Nat) : Int)
      · subst e; simp
      · have := ih c h0 (by omega)
        constructor <;> intros <;> omega
    · by_cases e : c = ((j + 1 : Nat) : Int)
      · subst e; constructor <;> intros <;> omega
      · exact ih c h0 (by omega)

set_option maxRecDepth 100000 in
set_option maxHeartbeats 1600000 in
theorem best_no {m : Md} (p : Int → Int) {ww : World} (hw : m.ok ww) (hr : ¬ RightM m) : AnsW ww 10 #[modelV m, pointV p] (.int .i64 (-1)) := fun w hjw => by
  have HX := hid (rightM_ans (b := false) (hw.jk hjw) (by simp [hr]))
  clear hw hjw hr
  obtain ⟨d, k, b0, b1, b2, a, n, cp, ts⟩ := m
  simp only [modelV, pointV] at HX ⊢
  have J := rules8
  go_enter Try.func10, Try.ntmps10
  go_wp2_with (first | (go_at_call 16; refine (HX.out.on _ (by repeat (with_reducible first | exact Jk.refl _ | apply Jk.junk | apply Jk.alloc))).mono ?_; rintro e w1 ⟨rfl, X1, rfl⟩))
  go_ret
  exact ⟨rfl, by repeat (with_reducible first | exact Jk.refl _ | apply Jk.junk | apply Jk.alloc)⟩

set_option maxRecDepth 100000 in
set_option maxHeartbeats 1600000 in
theorem best_yes {m : Md} {b : Int} (p : Int → Int) {ww : World} (hw : m.ok ww) (hr : RightM m) (hb : bestTo m p (m.k - 1).toNat = b) : AnsW ww 10 #[modelV m, pointV p] (.int .i64 b) := fun w hjw => by
  have hw' := hw.jk hjw
  have HX := hid (rightM_ans (b := true) hw' (by simp [hr]))
  have HS : Hid (∀ c : Int, 0 ≤ c → c < 3 → AnsW w 21 #[modelV m, .int .i64 c, pointV p] (.int .i64 (m.sum p c))) := fun c h0 h3 => sum_ans p hw' (hr.n8 hw') hr.bc h0 h3 rfl
  have hk1 := hr.k1
  have hk3 := hr.k3
  obtain ⟨K, hK⟩ : ∃ K : Nat, m.k = (K : Int) + 1 := ⟨(m.k - 1).toNat, by omega⟩
  have HB : Hid (bestTo m p K = b) := by
    show _ = _
    rw [← hb, hK]
    simp
  have HK : Hid (m.k = (K : Int) + 1) := hK
  have HD : Hid (∀ j : Nat, (m.sum p (bestTo m p j) < m.sum p ((j + 1 : Nat) : Int) → bestTo m p (j + 1) = ((j + 1 : Nat) : Int)) ∧ (¬ m.sum p (bestTo m p j) < m.sum p ((j + 1 : Nat) : Int) → bestTo m p (j + 1) = bestTo m p j)) := fun j => ⟨fun h => by simp only [bestTo, if_pos h], fun h => by simp only [bestTo, if_neg h]⟩
  have HZ : Hid (bestTo m p 0 = 0) := rfl
  obtain ⟨f, hf⟩ : ∃ f, bestTo m p = f := ⟨_, rfl⟩
  obtain ⟨s, hs⟩ : ∃ s, m.sum p = s := ⟨_, rfl⟩
  rw [hf, hs] at HD
  rw [hf] at HB HZ
  rw [hs] at HS
  clear hf hs hr hw hw' hjw hb hK
  obtain ⟨d, k, b0, b1, b2, a, n, cp, ts⟩ := m
  simp only at HX HS HK hk1 hk3
  obtain ⟨p0, e0⟩ : ∃ z, p 0 = z := ⟨_, rfl⟩
  obtain ⟨p1, e1⟩ : ∃ z, p 1 = z := ⟨_, rfl⟩
  obtain ⟨p2, e2⟩ : ∃ z, p 2 = z := ⟨_, rfl⟩
  obtain ⟨p3, e3⟩ : ∃ z, p 3 = z := ⟨_, rfl⟩
  simp only [pointV, modelV, e0, e1, e2, e3] at HS HX ⊢
  clear e0 e1 e2 e3
  have J := rules8
  obtain ⟨w0, hw0⟩ : ∃ w0, w.alloc (.cells #[.int .i64 d, .int .i64 k, .int .i64 b0, .int .i64 b1, .int .i64 b2, .slice a n cp] 33) = w0 := ⟨_, rfl⟩
  have HI0 : Hid (MdIn w0 w.heap.size ⟨d, k, b0, b1, b2, a, n, cp, ts⟩) := hw0 ▸ MdIn.laid w ⟨d, k, b0, b1, b2, a, n, cp, ts⟩ _
  have hsz0 : w0.heap.size = w.heap.size + 1 := by rw [← hw0]; simp
  obtain ⟨w9, hw9⟩ : ∃ w9, w0.alloc (.cells #[.int .i64 p0, .int .i64 p1, .int .i64 p2, .int .i64 p3] 29) = w9 := ⟨_, rfl⟩
  have H00 : Hid (Jk w w0) := hw0 ▸ (Jk.refl w).alloc _
  have H09 : Hid (Jk w0 w9) := hw9 ▸ (Jk.refl w0).alloc _
  have HP : Hid (∀ wr, Jk w9 wr → wr.cell? ⟨w.heap.size + 1, 0, none⟩ = some (.int .i64 p0) ∧ wr.cell? ⟨w.heap.size + 1, 1, none⟩ = some (.int .i64 p1) ∧ wr.cell? ⟨w.heap.size + 1, 2, none⟩ = some (.int .i64 p2) ∧ wr.cell? ⟨w.heap.size + 1, 3, none⟩ = some (.int .i64 p3) ∧ w.heap.size + 1 < wr.heap.size) := fun wr hj => by
    rw [← hsz0]
    have hl : w0.heap.size < w9.heap.size := by rw [← hw9]; simp
    have e := fun i => hj.below.cell (p := ⟨w0.heap.size, i, none⟩) hl
    rw [e, e, e, e, ← hw9]
    exact ⟨World.cell?_alloc_at _ _ _ _ rfl, World.cell?_alloc_at _ _ _ _ rfl, World.cell?_alloc_at _ _ _ _ rfl, World.cell?_alloc_at _ _ _ _ rfl, Nat.lt_of_lt_of_le (hw9 ▸ hl) (hw9 ▸ hj.below.size)⟩
  have HI : Hid (MdIn w9 w.heap.size ⟨d, k, b0, b1, b2, a, n, cp, ts⟩) := HI0.out.jk H09.out
  have H0 : Hid (Jk w w9) := H00.out.trans H09.out
  obtain ⟨i0, i1, i2, i3, i4, i5, i6⟩ := HI.out
  obtain ⟨j0, j1, j2, j3, j4⟩ := HP.out _ (Jk.refl _)
  simp only at i1 i2 i3 i4 i5 i6
  have HS0 := hid (HS.out 0 (by omega) (by omega))
  clear HI0 H00 H09
  go_enter Try.func10, Try.ntmps10
  go_wp2_with (first | (go_at_call 16; refine (HX.out.on _ (by repeat (with_reducible first | exact H0.out | apply Jk.junk | apply Jk.alloc))).mono ?_; rintro e w1 ⟨rfl, X1, rfl⟩) | (go_at_call 21; refine (HS0.out.on _ (by repeat (with_reducible first | exact H0.out | apply Jk.junk | apply Jk.alloc))).mono ?_; rintro e w1 ⟨rfl, X3, rfl⟩))
  go_loopg [5, 6, 7] K (fun r b' s' c' wr => ∃ j : Nat, j + r = K ∧ c' = .int .i64 ((j : Int) + 1) ∧ b' = .int .i64 (f j) ∧ s' = .int .i64 (s (f j)) ∧ Hid (Jk w9 wr))
  case atStart => exact ⟨0, by omega, rfl, by rw [HZ.out], by rw [HZ.out], by repeat (with_reducible first | apply hid | exact Jk.refl _ | apply Jk.junk | apply Jk.alloc)⟩
  case round =>
    obtain ⟨j, hj, rfl, rfl, rfl, HJ⟩ := hrel
    clear i0 i1 i2 i3 i4 i5 i6 j0 j1 j2 j3 j4
    obtain ⟨s1, c0, c1, c2, c3, c4, c5⟩ := HI.out.jk HJ.out
    simp only at c0 c1 c2 c3 c4 c5
    obtain ⟨q0, q1, q2, q3, q4⟩ := HP.out _ HJ.out
    obtain ⟨F, hF⟩ : ∃ F, f j = F := ⟨_, rfl⟩
    obtain ⟨G, hG⟩ : ∃ G, s F = G := ⟨_, rfl⟩
    have HDj := hid (HD.out j)
    have HFj : Hid (f j = F) := hF
    have HGj : Hid (s F = G) := hG
    rw [hF, hG] at HDj ⊢
    clear hF hG
    by_cases hfuel : gk = 0
    · subst hfuel
      obtain rfl : j = K := by omega
      obtain rfl : F = b := HFj.out.symm.trans HB.out
      have h1 : ¬ ((j : Int) + 1 < k) := by have := HK.out; omega
      go_wp2
      go_ret
      exact ⟨rfl, H0.out.trans HJ.out⟩
    · obtain ⟨r, rfl⟩ : ∃ r, gk = r + 1 := ⟨gk - 1, by omega⟩
      have h1 : (j : Int) + 1 < k := by have := HK.out; omega
      have HSj := hid (HS.out ((j : Int) + 1) (by omega) (by omega))
      obtain ⟨Y, hY⟩ : ∃ Y, s ((j : Int) + 1) = Y := ⟨_, rfl⟩
      have HY : Hid (s ((j : Int) + 1) = Y) := hY
      rw [hY] at HSj
      simp only [Int.natCast_add, Int.cast_ofNat_Int] at HDj
      rw [hY] at HDj
      clear hY
      by_cases hlt : G < Y
      · have HN := hid (HDj.out.1 hlt)
        go_wp2_with (first | (go_at_call 21; refine (HSj.out.on _ (by repeat (with_reducible first | exact (H0.out.trans HJ.out) | apply Jk.junk | apply Jk.alloc))).mono ?_; rintro e w1 ⟨rfl, X3, rfl⟩))
        go_roundg r
        case measure => omega
        case rel => exact ⟨j + 1, by omega, by go_num, by rw [HN.out], by rw [HN.out, HY.out], by repeat (with_reducible first | exact HJ | apply hid | exact HJ.out | apply Jk.junk | apply Jk.alloc)⟩
      · have HN := hid (HDj.out.2 (by omega))
        go_wp2_with (first | (go_at_call 21; refine (HSj.out.on _ (by repeat (with_reducible first | exact (H0.out.trans HJ.out) | apply Jk.junk | apply Jk.alloc))).mono ?_; rintro e w1 ⟨rfl, X3, rfl⟩))
        go_roundg r
        case measure => omega
        case rel => exact ⟨j + 1, by omega, by go_num, by rw [HN.out], by rw [HN.out, HGj.out], by repeat (with_reducible first | exact HJ | apply hid | exact HJ.out | apply Jk.junk | apply Jk.alloc)⟩

end Go.Proofs.Ytndnijdpafcmoaa
