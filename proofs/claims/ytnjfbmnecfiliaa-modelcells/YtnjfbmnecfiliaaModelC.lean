/- What sum, Eval and Size of package model answer. -/
import Derived.Test.YtnjfbmnecfiliaaModelB
namespace Go.Proofs.Ytnjfbmnecfiliaa
open Go.RowKit M

set_option maxRecDepth 100000 in
set_option maxHeartbeats 1600000 in
theorem sum_ans {m : Md} {c S : Int} (p : Int → Int) {ww : World} (hw : m.ok ww) (h8 : m.n ≤ 8) (hb : m.b c = 0 ∨ fit32 (m.b c) = true) (hc0 : 0 ≤ c) (hc3 : c < 3) (hS : m.sum p c = S) : AnsW ww 27 #[modelV m, .int .i64 c, pointV p] (.int .i64 S) := fun w hjw => by
  have hT := (hw.jk hjw).is
  have hB : -2147483648 ≤ m.b c ∧ m.b c ≤ 2147483647 := by
    rcases hb with h | h
    · omega
    · simp [fit32] at h; omega
  obtain ⟨B, hBe⟩ : ∃ B, m.b c = B := ⟨_, rfl⟩
  rw [hBe] at hB
  obtain ⟨d, k, b0, b1, b2, a, n, cp, ts⟩ := m
  simp only at hT h8
  have HL : Hid (ts.length = n) := hT.len
  have HS : Hid (B + sumTo ts p c n = S) := by rw [← hS, Md.sum, hBe, HL.out]; rfl
  have J := rules8
  have hmax := hT.max
  have hcap := hT.cap
  unfold maxLen at hmax
  have HV : Hid (∀ {w : World} {a : Option Addr} {n c : Nat} {ws : List Int}, IsW w a n c ws → AnsW w 22 #[.slice a n c, pointV p] (.int .i64 (valW ws p))) := fun h => value_ans p h
  obtain ⟨p0, e0⟩ : ∃ z, p 0 = z := ⟨_, rfl⟩
  obtain ⟨p1, e1⟩ : ∃ z, p 1 = z := ⟨_, rfl⟩
  obtain ⟨p2, e2⟩ : ∃ z, p 2 = z := ⟨_, rfl⟩
  obtain ⟨p3, e3⟩ : ∃ z, p 3 = z := ⟨_, rfl⟩
  simp only [pointV, e0, e1, e2, e3] at HV ⊢
  clear e0 e1 e2 e3 hw hjw hS hb
  obtain ⟨w0, hw0⟩ : ∃ w0, w.alloc (.cells #[.int .i64 d, .int .i64 k, .int .i64 b0, .int .i64 b1, .int .i64 b2, .slice a n cp] 29) = w0 := ⟨_, rfl⟩
  have HI0 : Hid (MdIn w0 w.heap.size ⟨d, k, b0, b1, b2, a, n, cp, ts⟩) := hw0 ▸ MdIn.laid w ⟨d, k, b0, b1, b2, a, n, cp, ts⟩ _
  have hsz0 : w0.heap.size = w.heap.size + 1 := by rw [← hw0]; simp
  obtain ⟨w9, hw9⟩ : ∃ w9, w0.alloc (.cells #[.int .i64 p0, .int .i64 p1, .int .i64 p2, .int .i64 p3] 33) = w9 := ⟨_, rfl⟩
  have H00 : Hid (Jk w w0) := hw0 ▸ (Jk.refl w).alloc _
  have H09 : Hid (Jk w0 w9) := hw9 ▸ (Jk.refl w0).alloc _
  have HP : Hid (∀ wr, Jk w9 wr → wr.cell? ⟨w.heap.size + 1, 0, none⟩ = some (.int .i64 p0) ∧ wr.cell? ⟨w.heap.size + 1, 1, none⟩ = some (.int .i64 p1) ∧ wr.cell? ⟨w.heap.size + 1, 2, none⟩ = some (.int .i64 p2) ∧ wr.cell? ⟨w.heap.size + 1, 3, none⟩ = some (.int .i64 p3) ∧ w.heap.size + 1 < wr.heap.size) := fun wr hj => by
    rw [← hsz0]
    have hl : w0.heap.size < w9.heap.size := by rw [← hw9]; simp
    have e := fun i => hj.below.cell (p := ⟨w0.heap.size, i, none⟩) hl
    rw [e, e, e, e, ← hw9]
    exact ⟨World.cell?_alloc_at _ _ _ _ rfl, World.cell?_alloc_at _ _ _ _ rfl, World.cell?_alloc_at _ _ _ _ rfl, World.cell?_alloc_at _ _ _ _ rfl, Nat.lt_of_lt_of_le (hw9 ▸ hl) (hw9 ▸ hj.below.size)⟩
  have HI : Hid (MdIn w9 w.heap.size ⟨d, k, b0, b1, b2, a, n, cp, ts⟩) := HI0.out.jk H09.out
  have HT : Hid (IsT w9 a n cp ts) := hT.jk (H00.out.trans H09.out)
  have H0 : Hid (Jk w w9) := H00.out.trans H09.out
  obtain ⟨i0, i1, i2, i3, i4, i5, i6⟩ := HI.out
  simp only at i1 i2 i3 i4 i5 i6
  obtain ⟨C, rfl⟩ := Int.eq_ofNat_of_zero_le hc0
  have hcell : w9.cell? ⟨w.heap.size, 2 + C, none⟩ = some (.int .i64 B) := by
    simp [Md.b] at hBe
    have : C = 0 ∨ C = 1 ∨ C = 2 := by omega
    rcases this with rfl | rfl | rfl <;> simp_all
  clear hT HI0 H00 H09 hBe i1 i2 i3 i4 i5
  go_enter Try.func27, Try.ntmps27
  go_wp2
  go_loopg [7, 17] n (fun r s i wr => ∃ (j : Nat) (s' : Int), j + r = n ∧ i = .int .i64 (j : Int) ∧ s = .int .i64 s' ∧ Hid (B + sumTo ts p C j = s') ∧ Hid (Jk w9 wr))
  case atStart => exact ⟨0, _, by omega, rfl, rfl, hid (by simp [sumTo]), hid (Jk.refl _)⟩
  case round =>
    obtain ⟨j, s', hj, rfl, rfl, HSj, HJ⟩ := hrel
    clear i6 hcell i0
    obtain ⟨s1, c0, c1, c2, c3, c4, c5⟩ := HI.out.jk HJ.out
    clear c0 c1 c2 c3 c4
    obtain ⟨q0, q1, q2, q3, q4⟩ := HP.out _ HJ.out
    simp only at c5
    by_cases hfuel : gk = 0
    · subst hfuel
      obtain rfl : j = n := by omega
      obtain rfl : s' = S := HSj.out.symm.trans HS.out
      go_wp2
      go_ret
      exact ⟨rfl, H0.out.trans HJ.out⟩
    · obtain ⟨r, rfl⟩ : ∃ r, gk = r + 1 := ⟨gk - 1, by omega⟩
      have hjn : (j : Int) < (n : Int) := by omega
      obtain ⟨g, o, rfl, hg, hat⟩ := HT.out.lies (by omega)
      have hgr : g < wr.heap.size := Nat.lt_of_lt_of_le hg HJ.out.below.size
      obtain ⟨k0, k1⟩ := (hat.jk HJ.out hg) j (by rw [HL.out]; omega)
      have hok := (HT.out.all j (by omega)).jk HJ.out
      obtain ⟨t, ht⟩ : ∃ t, tA ts j = t := ⟨_, rfl⟩
      have HTr : Hid (tA ts j = t) := ht
      rw [ht] at k0 k1 hok
      clear ht hat
      obtain ⟨cl, ta, tn, tc, tw⟩ := t
      simp only at k0 k1
      have hv := valW_bd tw p
      have hsb := sumTo_bd ts p C j
      have HR := hid (HV.out hok.is)
      simp only at HR
      obtain ⟨V, hV⟩ : ∃ V, valW tw p = V := ⟨_, rfl⟩
      have HVe : Hid (valW tw p = V) := hV
      rw [hV] at hv HR
      have hs1 : -2147483648 * 9 ≤ s' ∧ s' ≤ 2147483647 * 9 := by have := HSj.out; omega
      have hwr : IntKind.i64.wrap (s' + V) = s' + V := i64_in (by omega) (by omega)
      clear hV hsb hok
      by_cases hcl : cl = C
      · subst hcl
        go_wp2_with (first | (go_at_call 22; refine (HR.out.on _ (by repeat (with_reducible first | exact Jk.refl _ | apply Jk.junk | apply Jk.alloc))).mono ?_; rintro e w1 ⟨rfl, X2, rfl⟩))
        go_roundg r
        case measure => omega
        case rel => exact ⟨j + 1, _, by omega, by go_num, rfl, hid (by simp only [sumTo, HTr.out, if_true, HVe.out]; have := HSj.out; omega), by repeat (with_reducible first | exact HJ | apply hid | exact HJ.out | apply Jk.junk | apply Jk.alloc)⟩
      · have hcl2 : (cl == (C : Int)) = false := by simpa using hcl
        go_wp2
        go_roundg r
        case measure => omega
        case rel => exact ⟨j + 1, _, by omega, by go_num, rfl, hid (by simp only [sumTo, HTr.out, if_neg hcl]; have := HSj.out; omega), by repeat (with_reducible first | exact HJ | apply hid | exact HJ.out | apply Jk.junk | apply Jk.alloc)⟩

end Go.Proofs.Ytnjfbmnecfiliaa
