/- What Best of package model answers. -/
import Derived.Test.YtnjfbmnecfiliaaModelD
namespace Go.Proofs.Ytnjfbmnecfiliaa
open Go.RowKit M

/-- the best of the classes 0 to j -/
def bestTo (m : Md) (p : Int → Int) : Nat → Int
  | 0 => 0
  | j + 1 => if m.sum p (bestTo m p j) < m.sum p ((j + 1 : Nat) : Int) then ((j + 1 : Nat) : Int) else bestTo m p j
theorem bestTo_bd (m : Md) (p : Int → Int) (j : Nat) : 0 ≤ bestTo m p j ∧ bestTo m p j ≤ j := by
  induction j with
  | zero => simp [bestTo]
  | succ j ih =>
    simp only [bestTo]
    split <;> omega
theorem bestTo_best (m : Md) (p : Int → Int) (j : Nat) : ∀ c : Int, 0 ≤ c → c ≤ j → m.sum p c ≤ m.sum p (bestTo m p j) ∧ (c < bestTo m p j → m.sum p c < m.sum p (bestTo m p j)) := by
  induction j with
  | zero =>
    intro c h0 h1
    obtain rfl : c = 0 := by omega
    simp [bestTo]
  | succ j ih =>
    intro c h0 h1
    have hb := bestTo_bd m p j
    simp only [bestTo]
    split
    · by_cases e : c = ((j + 1 : Nat) : Int)
      · subst e; simp
      · have := ih c h0 (by omega)
        constructor <;> intros <;> omega
    · by_cases e : c = ((j + 1 : Nat) : Int)
      · subst e; constructor <;> intros <;> omega
      · exact ih c h0 (by omega)

set_option maxRecDepth 100000 in
set_option maxHeartbeats 1600000 in
theorem best_no {m : Md} (p : Int → Int) {ww : World} (hw : m.ok ww) (hr : ¬ RightM m) : AnsW ww 15 #[modelV m, pointV p] (.int .i64 (-1)) := fun w hjw => by
  have HX := hid (rightM_ans (b := false) (hw.jk hjw) (by simp [hr]))
  clear hw hjw hr
  obtain ⟨d, k, b0, b1, b2, a, n, cp, ts⟩ := m
  simp only [modelV, pointV] at HX ⊢
  have J := rules8
  go_enter Try.func15, Try.ntmps15
  go_wp2_with (first | (go_at_call 10; refine (HX.out.on _ (by repeat (with_reducible first | exact Jk.refl _ | apply Jk.junk | apply Jk.alloc))).mono ?_; rintro e w1 ⟨rfl, X1, rfl⟩))
  go_ret
  exact ⟨rfl, by repeat (with_reducible first | exact Jk.refl _ | apply Jk.junk | apply Jk.alloc)⟩

set_option maxRecDepth 100000 in
set_option maxHeartbeats 1600000 in
theorem best_yes {m : Md} {b : Int} (p : Int → Int) {ww : World} (hw : m.ok ww) (hr : RightM m) (hb : bestTo m p (m.k - 1).toNat = b) : AnsW ww 15 #[modelV m, pointV p] (.int .i64 b) := fun w hjw => by
  have hw' := hw.jk hjw
  have HX := hid (rightM_ans (b := true) hw' (by simp [hr]))
  have HS : Hid (∀ c : Int, 0 ≤ c → c < 3 → AnsW w 27 #[modelV m, .int .i64 c, pointV p] (.int .i64 (m.sum p c))) := fun c h0 h3 => sum_ans p hw' (hr.n8 hw') hr.bc h0 h3 rfl
  have hk1 := hr.k1
  have hk3 := hr.k3
  obtain ⟨K, hK⟩ : ∃ K : Nat, m.k = (K : Int) + 1 := ⟨(m.k - 1).toNat, by omega⟩
  have HB : Hid (bestTo m p K = b) := by
    show _ = _
    rw [← hb, hK]
    simp
  have HK : Hid (m.k = (K : Int) + 1) := hK
  have HD : Hid (∀ j : Nat, (m.sum p (bestTo m p j) < m.sum p ((j + 1 : Nat) : Int) → bestTo m p (j + 1) = ((j + 1 : Nat) : Int)) ∧ (¬ m.sum p (bestTo m p j) < m.sum p ((j + 1 : Nat) : Int) → bestTo m p (j + 1) = bestTo m p j)) := fun j => ⟨fun h => by simp only [bestTo, if_pos h], fun h => by simp only [bestTo, if_neg h]⟩
  have HZ : Hid (bestTo m p 0 = 0) := rfl
  obtain ⟨f, hf⟩ : ∃ f, bestTo m p = f := ⟨_, rfl⟩
  obtain ⟨s, hs⟩ : ∃ s, m.sum p = s := ⟨_, rfl⟩
  rw [hf, hs] at HD
  rw [hf] at HB HZ
  rw [hs] at HS
  clear hf hs hr hw hw' hjw hb hK
  obtain ⟨d, k, b0, b1, b2, a, n, cp, ts⟩ := m
  simp only at HX HS HK hk1 hk3
  obtain ⟨p0, e0⟩ : ∃ z, p 0 = z := ⟨_, rfl⟩
  obtain ⟨p1, e1⟩ : ∃ z, p 1 = z := ⟨_, rfl⟩
  obtain ⟨p2, e2⟩ : ∃ z, p 2 = z := ⟨_, rfl⟩
  obtain ⟨p3, e3⟩ : ∃ z, p 3 = z := ⟨_, rfl⟩
  simp only [pointV, modelV, e0, e1, e2, e3] at HS HX ⊢
  clear e0 e1 e2 e3
  have J := rules8
  obtain ⟨w0, hw0⟩ : ∃ w0, w.alloc (.cells #[.int .i64 d, .int .i64 k, .int .i64 b0, .int .i64 b1, .int .i64 b2, .slice a n cp] 29) = w0 := ⟨_, rfl⟩
  have HI0 : Hid (MdIn w0 w.heap.size ⟨d, k, b0, b1, b2, a, n, cp, ts⟩) := hw0 ▸ MdIn.laid w ⟨d, k, b0, b1, b2, a, n, cp, ts⟩ _
  have hsz0 : w0.heap.size = w.heap.size + 1 := by rw [← hw0]; simp
  obtain ⟨w9, hw9⟩ : ∃ w9, w0.alloc (.cells #[.int .i64 p0, .int .i64 p1, .int .i64 p2, .int .i64 p3] 33) = w9 := ⟨_, rfl⟩
  have H00 : Hid (Jk w w0) := hw0 ▸ (Jk.refl w).alloc _
  have H09 : Hid (Jk w0 w9) := hw9 ▸ (Jk.refl w0).alloc _
  have HP : Hid (∀ wr, Jk w9 wr → wr.cell? ⟨w.heap.size + 1, 0, none⟩ = some (.int .i64 p0) ∧ wr.cell? ⟨w.heap.size + 1, 1, none⟩ = some (.int .i64 p1) ∧ wr.cell? ⟨w.heap.size + 1, 2, none⟩ = some (.int .i64 p2) ∧ wr.cell? ⟨w.heap.size + 1, 3, none⟩ = some (.int .i64 p3) ∧ w.heap.size + 1 < wr.heap.size) := fun wr hj => by
    rw [← hsz0]
    have hl : w0.heap.size < w9.heap.size := by rw [← hw9]; simp
    have e := fun i => hj.below.cell (p := ⟨w0.heap.size, i, none⟩) hl
    rw [e, e, e, e, ← hw9]
    exact ⟨World.cell?_alloc_at _ _ _ _ rfl, World.cell?_alloc_at _ _ _ _ rfl, World.cell?_alloc_at _ _ _ _ rfl, World.cell?_alloc_at _ _ _ _ rfl, Nat.lt_of_lt_of_le (hw9 ▸ hl) (hw9 ▸ hj.below.size)⟩
  have HI : Hid (MdIn w9 w.heap.size ⟨d, k, b0, b1, b2, a, n, cp, ts⟩) := HI0.out.jk H09.out
  have H0 : Hid (Jk w w9) := H00.out.trans H09.out
  obtain ⟨i0, i1, i2, i3, i4, i5, i6⟩ := HI.out
  obtain ⟨j0, j1, j2, j3, j4⟩ := HP.out _ (Jk.refl _)
  simp only at i1 i2 i3 i4 i5 i6
  have HS0 := hid (HS.out 0 (by omega) (by omega))
  clear HI0 H00 H09
  go_enter Try.func15, Try.ntmps15
  go_wp2_with (first | (go_at_call 10; refine (HX.out.on _ (by repeat (with_reducible first | exact H0.out | apply Jk.junk | apply Jk.alloc))).mono ?_; rintro e w1 ⟨rfl, X1, rfl⟩) | (go_at_call 27; refine (HS0.out.on _ (by repeat (with_reducible first | exact H0.out | apply Jk.junk | apply Jk.alloc))).mono ?_; rintro e w1 ⟨rfl, X3, rfl⟩))
  go_loopg [5, 6, 7] K (fun r b' s' c' wr => ∃ j : Nat, j + r = K ∧ c' = .int .i64 ((j : Int) + 1) ∧ b' = .int .i64 (f j) ∧ s' = .int .i64 (s (f j)) ∧ Hid (Jk w9 wr))
  case atStart => exact ⟨0, by omega, rfl, by rw [HZ.out], by rw [HZ.out], by repeat (with_reducible first | apply hid | exact Jk.refl _ | apply Jk.junk | apply Jk.alloc)⟩
  case round =>
    obtain ⟨j, hj, rfl, rfl, rfl, HJ⟩ := hrel
    clear i0 i1 i2 i3 i4 i5 i6 j0 j1 j2 j3 j4
    obtain ⟨s1, c0, c1, c2, c3, c4, c5⟩ := HI.out.jk HJ.out
    simp only at c0 c1 c2 c3 c4 c5
    obtain ⟨q0, q1, q2, q3, q4⟩ := HP.out _ HJ.out
    obtain ⟨F, hF⟩ : ∃ F, f j = F := ⟨_, rfl⟩
    obtain ⟨G, hG⟩ : ∃ G, s F = G := ⟨_, rfl⟩
    have HDj := hid (HD.out j)
    have HFj : Hid (f j = F) := hF
    have HGj : Hid (s F = G) := hG
    rw [hF, hG] at HDj ⊢
    clear hF hG
    by_cases hfuel : gk = 0
    · subst hfuel
      obtain rfl : j = K := by omega
      obtain rfl : F = b := HFj.out.symm.trans HB.out
      have h1 : ¬ ((j : Int) + 1 < k) := by have := HK.out; omega
      go_wp2
      go_ret
      exact ⟨rfl, H0.out.trans HJ.out⟩
    · obtain ⟨r, rfl⟩ : ∃ r, gk = r + 1 := ⟨gk - 1, by omega⟩
      have h1 : (j : Int) + 1 < k := by have := HK.out; omega
      have HSj := hid (HS.out ((j : Int) + 1) (by omega) (by omega))
      obtain ⟨Y, hY⟩ : ∃ Y, s ((j : Int) + 1) = Y := ⟨_, rfl⟩
      have HY : Hid (s ((j : Int) + 1) = Y) := hY
      rw [hY] at HSj
      simp only [Int.natCast_add, Int.cast_ofNat_Int] at HDj
      rw [hY] at HDj
      clear hY
      by_cases hlt : G < Y
      · have HN := hid (HDj.out.1 hlt)
        go_wp2_with (first | (go_at_call 27; refine (HSj.out.on _ (by repeat (with_reducible first | exact (H0.out.trans HJ.out) | apply Jk.junk | apply Jk.alloc))).mono ?_; rintro e w1 ⟨rfl, X3, rfl⟩))
        go_roundg r
        case measure => omega
        case rel => exact ⟨j + 1, by omega, by go_num, by rw [HN.out], by rw [HN.out, HY.out], by repeat (with_reducible first | exact HJ | apply hid | exact HJ.out | apply Jk.junk | apply Jk.alloc)⟩
      · have HN := hid (HDj.out.2 (by omega))
        go_wp2_with (first | (go_at_call 27; refine (HSj.out.on _ (by repeat (with_reducible first | exact (H0.out.trans HJ.out) | apply Jk.junk | apply Jk.alloc))).mono ?_; rintro e w1 ⟨rfl, X3, rfl⟩))
        go_roundg r
        case measure => omega
        case rel => exact ⟨j + 1, by omega, by go_num, by rw [HN.out], by rw [HN.out, HGj.out], by repeat (with_reducible first | exact HJ | apply hid | exact HJ.out | apply Jk.junk | apply Jk.alloc)⟩

end Go.Proofs.Ytnjfbmnecfiliaa
