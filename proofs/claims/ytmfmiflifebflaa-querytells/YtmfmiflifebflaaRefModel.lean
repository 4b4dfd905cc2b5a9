/- What the document's own RightModel and Eval answer: the same words as the contracts of the code. -/
import Derived.Test.YtmfmiflifebflaaModelE
import Derived.Test.YtmfmiflifebflaaRefTree
import Derived.Test.YtmfmiflifebflaaRefTree2
namespace Go.Proofs.Ytmfmiflifebflaa
open Go.RowKit M

theorem rfits_is {n : Int} {b : Bool} (h : fit32 n = b) : Ans 35 #[.int .i64 n, .int .i64 32] (.bool b) := h ▸ fun w =>
  (rfits_any n 32 w).mono fun _ _ ⟨e, h⟩ => ⟨by rw [e, fits32], h ▸ Jk.refl _⟩
def biasB (k j b : Int) : Bool := fit32 b && !(decide (k ≤ j) && !(b == 0))

open Classical in
set_option maxRecDepth 100000 in
set_option maxHeartbeats 3200000 in
theorem rrightM_ans {m : Md} {b : Bool} {ww : World} (hw : m.ok ww) (hb : b = true ↔ RightM m) : AnsW ww 34 #[modelV m] (.bool b) := fun w hjw => by
  obtain ⟨d, k, b0, b1, b2, a, n, c, ts⟩ := m
  have hT := (hw.jk hjw).is
  simp only at hT
  have J := rules8
  have hmax := hT.max
  have hcap := hT.cap
  unfold maxLen at hmax
  have HL : Hid (ts.length = n) := hT.len
  have hb' : b = true ↔ 1 ≤ d ∧ d ≤ 4 ∧ 1 ≤ k ∧ k ≤ 3 ∧ n ≤ 8 ∧ BiasP k b0 b1 b2 ∧ ∀ i, i < n → TrP k d (tA ts i) := by
    rw [hb]
    exact ⟨fun ⟨h1, h2, h3, h4, h5, h6, h7⟩ => ⟨h1, h2, h3, h4, by simpa [HL.out] using h6, h5, by simpa [HL.out] using h7⟩, fun ⟨h1, h2, h3, h4, h5, h6, h7⟩ => ⟨h1, h2, h3, h4, h6, by simpa [HL.out] using h5, by simpa [HL.out] using h7⟩⟩
  have HB := hid hb'
  clear hb hb' hw hjw
  by_cases h1 : d < 1
  · obtain rfl : false = b := (Bool.eq_false_iff.2 fun e => by have := HB.out.1 e; omega).symm
    clear hT
    go_enter Try.func34, Try.ntmps34
    go_wp2
    go_ret
    exact ⟨rfl, (Jk.refl w).alloc _⟩
  by_cases h2 : 4 < d
  · obtain rfl : false = b := (Bool.eq_false_iff.2 fun e => by have := HB.out.1 e; omega).symm
    clear hT
    go_enter Try.func34, Try.ntmps34
    go_wp2
    go_ret
    exact ⟨rfl, (Jk.refl w).alloc _⟩
  by_cases h3 : k < 1
  · obtain rfl : false = b := (Bool.eq_false_iff.2 fun e => by have := HB.out.1 e; omega).symm
    clear hT
    go_enter Try.func34, Try.ntmps34
    go_wp2
    go_ret
    exact ⟨rfl, (Jk.refl w).alloc _⟩
  by_cases h4 : 3 < k
  · obtain rfl : false = b := (Bool.eq_false_iff.2 fun e => by have := HB.out.1 e; omega).symm
    clear hT
    go_enter Try.func34, Try.ntmps34
    go_wp2
    go_ret
    exact ⟨rfl, (Jk.refl w).alloc _⟩
  by_cases h5 : (8 : Int) < (n : Int)
  · obtain rfl : false = b := (Bool.eq_false_iff.2 fun e => by have := HB.out.1 e; omega).symm
    clear hT
    go_enter Try.func34, Try.ntmps34
    go_wp2
    go_ret
    exact ⟨rfl, (Jk.refl w).alloc _⟩
  obtain ⟨f0, e0⟩ : ∃ f, fit32 b0 = f := ⟨_, rfl⟩
  obtain ⟨f1, e1⟩ : ∃ f, fit32 b1 = f := ⟨_, rfl⟩
  obtain ⟨f2, e2⟩ : ∃ f, fit32 b2 = f := ⟨_, rfl⟩
  have F0 := hid (rfits_is e0)
  have F1 := hid (rfits_is e1)
  have F2 := hid (rfits_is e2)
  have HC : Hid (b = true ↔ ((f0 = true ∧ f1 = true ∧ f2 = true) ∧ (k ≤ 1 → b1 = 0) ∧ (k ≤ 2 → b2 = 0)) ∧ ∀ i, i < n → TrP k d (tA ts i)) := by
    show b = true ↔ _
    rw [HB.out, BiasP, e0, e1, e2]
    constructor
    · rintro ⟨_, _, _, _, _, ⟨q1, q2, q3, q4⟩, q5⟩; exact ⟨⟨q1, q3, q4⟩, q5⟩
    · rintro ⟨⟨q1, q3, q4⟩, q5⟩; exact ⟨by omega, by omega, by omega, by omega, by omega, ⟨q1, fun h => by omega, q3, q4⟩, q5⟩
  clear e0 e1 e2 HB
  obtain ⟨w0, hw0⟩ : ∃ w0, w.alloc (.cells #[.int .i64 d, .int .i64 k, .int .i64 b0, .int .i64 b1, .int .i64 b2, .slice a n c] 25) = w0 := ⟨_, rfl⟩
  have HI : Hid (MdIn w0 w.heap.size ⟨d, k, b0, b1, b2, a, n, c, ts⟩) := hw0 ▸ MdIn.laid w ⟨d, k, b0, b1, b2, a, n, c, ts⟩ _
  have H0 : Hid (Jk w w0) := hw0 ▸ (Jk.refl w).alloc _
  have HT : Hid (IsT w0 a n c ts) := hT.jk H0.out
  clear hT
  obtain ⟨i0, i1, i2, i3, i4, i5, i6⟩ := HI.out
  simp only at i1 i2 i3 i4 i5 i6
  have x0 := bx0
  have x1 := bx1
  have x2 := bx2
  go_enter Try.func34, Try.ntmps34
  go_wp2
  go_loopg [33] 3 (fun r i wr => ∃ j : Nat, j + r = 3 ∧ i = .int .i64 (j : Int) ∧ Hid ((0 < j → f0 = true) ∧ (1 < j → f1 = true ∧ (k ≤ 1 → b1 = 0)) ∧ (2 < j → f2 = true ∧ (k ≤ 2 → b2 = 0))) ∧ Hid (Jk w0 wr))
  case atStart => exact ⟨0, by omega, rfl, hid ⟨fun h => by omega, fun h => by omega, fun h => by omega⟩, hid (Jk.refl _)⟩
  case round =>
    obtain ⟨j, hj, rfl, HP, HJ⟩ := hrel
    clear i0 i1 i2 i3 i4 i5 i6
    obtain ⟨s1, c0, c1, c2, c3, c4, c5⟩ := HI.out.jk HJ.out
    simp only at c0 c1 c2 c3 c4 c5
    have hj3 : j = 3 ∨ j = 0 ∨ j = 1 ∨ j = 2 := by omega
    rcases hj3 with rfl | rfl | rfl | rfl
    · have HQ : Hid (b = true ↔ ∀ i, i < n → TrP k d (tA ts i)) := by
        show b = true ↔ _
        rw [HC.out]
        have := HP.out
        simp at this
        constructor
        · exact fun h => h.2
        · exact fun h => ⟨⟨⟨this.1, this.2.1.1, this.2.2.1⟩, this.2.1.2, this.2.2.2⟩, h⟩
      clear HC HP x0 x1 x2 F0 F1 F2
      have hc5 := c5
      go_wp2
      go_loopg [54] n (fun r i wr => ∃ j : Nat, j + r = n ∧ i = .int .i64 (j : Int) ∧ Hid (∀ q, q < j → TrP k d (tA ts q)) ∧ Hid (Jk w0 wr))
      case atStart => exact ⟨0, by omega, rfl, hid fun q hq => by omega, by repeat (with_reducible first | exact HJ | apply hid | exact HJ.out | apply Jk.junk | apply Jk.alloc)⟩
      case round =>
        obtain ⟨j, hj, rfl, HP, HJ2⟩ := hrel
        clear hc5 s1 c0 c1 c2 c3 c4 c5
        obtain ⟨s1, c0, c1, c2, c3, c4, c5⟩ := HI.out.jk HJ2.out
        simp only at c0 c1 c2 c3 c4 c5
        by_cases hfuel : gk = 0
        · subst hfuel
          obtain rfl : j = n := by omega
          obtain rfl : true = b := (HQ.out.2 HP.out).symm
          go_wp2
          go_ret
          refine ⟨rfl, ?_⟩
          repeat (with_reducible first | exact (H0.out.trans HJ2.out) | apply Jk.junk | apply Jk.alloc)
        · obtain ⟨r, rfl⟩ : ∃ r, gk = r + 1 := ⟨gk - 1, by omega⟩
          have hjn : (j : Int) < (n : Int) := by omega
          obtain ⟨g, o, rfl, hg, hat⟩ := HT.out.lies (by omega)
          have hgr : g < wr.heap.size := Nat.lt_of_lt_of_le hg HJ2.out.below.size
          obtain ⟨k0, k1⟩ := (hat.jk HJ2.out hg) j (by rw [HL.out]; omega)
          have hok := (HT.out.all j (by omega)).jk HJ2.out
          obtain ⟨t, ht⟩ : ∃ t, tA ts j = t := ⟨_, rfl⟩
          have HTr : Hid (tA ts j = t) := ht
          rw [ht] at k0 k1 hok
          clear ht hat
          obtain ⟨cl, ta, tn, tc, tw⟩ := t
          simp only at k0 k1
          obtain ⟨tb, htb⟩ : ∃ tb : Bool, tb = true ↔ TreeP tw d := ⟨decide (TreeP tw d), by simp⟩
          have HR := hid (rright_tree hok.is htb)
          simp only at HR
          have HTB := hid htb
          clear htb hok
          by_cases hc1 : cl < 0
          · obtain rfl : false = b := (Bool.eq_false_iff.2 fun e => by
              have h := HQ.out.1 e j (by omega)
              rw [HTr.out] at h
              have := h.lo
              simp only at this
              omega).symm
            go_wp2
            go_ret
            refine ⟨rfl, ?_⟩
            repeat (with_reducible first | exact (H0.out.trans HJ2.out) | apply Jk.junk | apply Jk.alloc)
          by_cases hc2 : k ≤ cl
          · obtain rfl : false = b := (Bool.eq_false_iff.2 fun e => by
              have h := HQ.out.1 e j (by omega)
              rw [HTr.out] at h
              have := h.hi
              simp only at this
              omega).symm
            go_wp2
            go_ret
            refine ⟨rfl, ?_⟩
            repeat (with_reducible first | exact (H0.out.trans HJ2.out) | apply Jk.junk | apply Jk.alloc)
          cases tb
          · obtain rfl : false = b := (Bool.eq_false_iff.2 fun e => by
              have h := HQ.out.1 e j (by omega)
              rw [HTr.out] at h
              have := HTB.out.2 h.tree
              cases this).symm
            go_wp2_with (first | (go_at_call 44; refine (HR.out.on _ (by repeat (with_reducible first | exact Jk.refl _ | apply Jk.junk | apply Jk.alloc))).mono ?_; rintro e w1 ⟨rfl, X2, rfl⟩))
            go_ret
            refine ⟨rfl, ?_⟩
            repeat (with_reducible first | exact (H0.out.trans HJ2.out) | apply Jk.junk | apply Jk.alloc)
          · go_wp2_with (first | (go_at_call 44; refine (HR.out.on _ (by repeat (with_reducible first | exact Jk.refl _ | apply Jk.junk | apply Jk.alloc))).mono ?_; rintro e w1 ⟨rfl, X2, rfl⟩))
            go_roundg r
            case measure => omega
            case rel => exact ⟨j + 1, by omega, by go_num, hid (TrsP.step HP.out (by
              rw [HTr.out]
              exact ⟨by simp only; omega, by simp only; omega, HTB.out.1 (by simp)⟩)), by repeat (with_reducible first | exact HJ2 | apply hid | exact HJ2.out | apply Jk.junk | apply Jk.alloc)⟩
    · cases f0
      · obtain rfl : false = b := (Bool.eq_false_iff.2 fun e => by have := HC.out.1 e; simp at this).symm
        go_wp2_with (first | (go_at_call 35; refine (F0.out.on _).mono ?_; rintro e w1 ⟨rfl, X1, rfl⟩))
        go_ret
        refine ⟨rfl, ?_⟩
        repeat (with_reducible first | exact (H0.out.trans HJ.out) | apply Jk.junk | apply Jk.alloc)
      · have hk0 : ¬ (0 : Int) ≥ k := by omega
        go_wp2_with (first | (go_at_call 35; refine (F0.out.on _).mono ?_; rintro e w1 ⟨rfl, X1, rfl⟩))
        go_roundg 2
        case measure => omega
        case rel => exact ⟨1, by omega, by go_num, hid (by have := HP.out; simp at this ⊢ <;> grind), by repeat (with_reducible first | exact HJ | apply hid | exact HJ.out | apply Jk.junk | apply Jk.alloc)⟩
    · cases f1
      · obtain rfl : false = b := (Bool.eq_false_iff.2 fun e => by have := HC.out.1 e; simp at this).symm
        go_wp2_with (first | (go_at_call 35; refine (F1.out.on _).mono ?_; rintro e w1 ⟨rfl, X1, rfl⟩))
        go_ret
        refine ⟨rfl, ?_⟩
        repeat (with_reducible first | exact (H0.out.trans HJ.out) | apply Jk.junk | apply Jk.alloc)
      · by_cases hk : k ≤ 1
        · by_cases hz : b1 = 0
          · subst hz
            go_wp2_with (first | (go_at_call 35; refine (F1.out.on _).mono ?_; rintro e w1 ⟨rfl, X1, rfl⟩))
            go_roundg 1
            case measure => omega
            case rel => exact ⟨2, by omega, by go_num, hid (by have := HP.out; simp at this ⊢ <;> grind), by repeat (with_reducible first | exact HJ | apply hid | exact HJ.out | apply Jk.junk | apply Jk.alloc)⟩
          · have hz2 : (b1 == 0) = false := by simpa using hz
            obtain rfl : false = b := (Bool.eq_false_iff.2 fun e => by have := HC.out.1 e; simp at this; grind).symm
            go_wp2_with (first | (go_at_call 35; refine (F1.out.on _).mono ?_; rintro e w1 ⟨rfl, X1, rfl⟩))
            go_ret
            refine ⟨rfl, ?_⟩
            repeat (with_reducible first | exact (H0.out.trans HJ.out) | apply Jk.junk | apply Jk.alloc)
        · go_wp2_with (first | (go_at_call 35; refine (F1.out.on _).mono ?_; rintro e w1 ⟨rfl, X1, rfl⟩))
          go_roundg 1
          case measure => omega
          case rel => exact ⟨2, by omega, by go_num, hid (by have := HP.out; simp at this ⊢ <;> grind), by repeat (with_reducible first | exact HJ | apply hid | exact HJ.out | apply Jk.junk | apply Jk.alloc)⟩
    · cases f2
      · obtain rfl : false = b := (Bool.eq_false_iff.2 fun e => by have := HC.out.1 e; simp at this).symm
        go_wp2_with (first | (go_at_call 35; refine (F2.out.on _).mono ?_; rintro e w1 ⟨rfl, X1, rfl⟩))
        go_ret
        refine ⟨rfl, ?_⟩
        repeat (with_reducible first | exact (H0.out.trans HJ.out) | apply Jk.junk | apply Jk.alloc)
      · by_cases hk : k ≤ 2
        · by_cases hz : b2 = 0
          · subst hz
            go_wp2_with (first | (go_at_call 35; refine (F2.out.on _).mono ?_; rintro e w1 ⟨rfl, X1, rfl⟩))
            go_roundg 0
            case measure => omega
            case rel => exact ⟨3, by omega, by go_num, hid (by have := HP.out; simp at this ⊢ <;> grind), by repeat (with_reducible first | exact HJ | apply hid | exact HJ.out | apply Jk.junk | apply Jk.alloc)⟩
          · have hz2 : (b2 == 0) = false := by simpa using hz
            obtain rfl : false = b := (Bool.eq_false_iff.2 fun e => by have := HC.out.1 e; simp at this; grind).symm
            go_wp2_with (first | (go_at_call 35; refine (F2.out.on _).mono ?_; rintro e w1 ⟨rfl, X1, rfl⟩))
            go_ret
            refine ⟨rfl, ?_⟩
            repeat (with_reducible first | exact (H0.out.trans HJ.out) | apply Jk.junk | apply Jk.alloc)
        · go_wp2_with (first | (go_at_call 35; refine (F2.out.on _).mono ?_; rintro e w1 ⟨rfl, X1, rfl⟩))
          go_roundg 0
          case measure => omega
          case rel => exact ⟨3, by omega, by go_num, hid (by have := HP.out; simp at this ⊢ <;> grind), by repeat (with_reducible first | exact HJ | apply hid | exact HJ.out | apply Jk.junk | apply Jk.alloc)⟩

set_option maxRecDepth 100000 in
set_option maxHeartbeats 1600000 in
theorem reval_ans {m : Md} {c E : Int} (p : Int → Int) {ww : World} (hw : m.ok ww) (hE : EvalP m p c E) : AnsW ww 36 #[modelV m, .int .i64 c, pointV p] (.int .i64 E) := fun w hjw => by
  have hw' := hw.jk hjw
  obtain ⟨x, hx⟩ := right_bool m
  have HX := hid (rrightM_ans hw' hx)
  have hT := hw'.is
  have HV : Hid (∀ {w : World} {a : Option Addr} {n c : Nat} {ws : List Int}, IsW w a n c ws → AnsW w 45 #[.slice a n c, pointV p] (.int .i64 (valW ws p))) := fun h => rvalue_ans p h
  obtain ⟨p0, e0⟩ : ∃ z, p 0 = z := ⟨_, rfl⟩
  obtain ⟨p1, e1⟩ : ∃ z, p 1 = z := ⟨_, rfl⟩
  obtain ⟨p2, e2⟩ : ∃ z, p 2 = z := ⟨_, rfl⟩
  obtain ⟨p3, e3⟩ : ∃ z, p 3 = z := ⟨_, rfl⟩
  simp only [pointV, e0, e1, e2, e3] at HV ⊢
  clear e0 e1 e2 e3
  have J := rules8
  by_cases hyes : RightM m ∧ 0 ≤ c ∧ c < m.k
  rotate_left
  · obtain rfl := hE.2 hyes
    have HN : Hid (x = true → ¬ (0 ≤ c ∧ c < m.k)) := fun e h => hyes ⟨hx.1 e, h⟩
    clear hyes hE hw hw' hjw hx HV hT
    obtain ⟨d, k, b0, b1, b2, a, n, cp, ts⟩ := m
    simp only [modelV] at HX HN ⊢
    cases x
    · go_enter Try.func36, Try.ntmps36
      go_wp2_with (first | (go_at_call 34; refine (HX.out.on _ (by repeat (with_reducible first | exact Jk.refl _ | apply Jk.junk | apply Jk.alloc))).mono ?_; rintro e w1 ⟨rfl, X1, rfl⟩))
      go_ret
      exact ⟨rfl, by repeat (with_reducible first | exact Jk.refl _ | apply Jk.junk | apply Jk.alloc)⟩
    · by_cases h0 : c < 0
      · go_enter Try.func36, Try.ntmps36
        go_wp2_with (first | (go_at_call 34; refine (HX.out.on _ (by repeat (with_reducible first | exact Jk.refl _ | apply Jk.junk | apply Jk.alloc))).mono ?_; rintro e w1 ⟨rfl, X1, rfl⟩))
        go_ret
        exact ⟨rfl, by repeat (with_reducible first | exact Jk.refl _ | apply Jk.junk | apply Jk.alloc)⟩
      · have h1 : k ≤ c := by have := HN.out rfl; omega
        go_enter Try.func36, Try.ntmps36
        go_wp2_with (first | (go_at_call 34; refine (HX.out.on _ (by repeat (with_reducible first | exact Jk.refl _ | apply Jk.junk | apply Jk.alloc))).mono ?_; rintro e w1 ⟨rfl, X1, rfl⟩))
        go_ret
        exact ⟨rfl, by repeat (with_reducible first | exact Jk.refl _ | apply Jk.junk | apply Jk.alloc)⟩
  · obtain ⟨hr, hc0, hck⟩ := hyes
    obtain rfl : true = x := (hx.2 hr).symm
    have hS := hE.1 hr hc0 hck
    have hc3 : c < 3 := by have := hr.k3; omega
    have h8 := hr.n8 hw'
    have hB : -2147483648 ≤ m.b c ∧ m.b c ≤ 2147483647 := by
      rcases hr.bc (c := c) with h | h
      · omega
      · simp [fit32] at h; omega
    obtain ⟨B, hBe⟩ : ∃ B, m.b c = B := ⟨_, rfl⟩
    rw [hBe] at hB
    clear hr hx hE hw hw' hjw
    obtain ⟨d, k, b0, b1, b2, a, n, cp, ts⟩ := m
    simp only [modelV] at hT h8 hck HX ⊢
    have HL : Hid (ts.length = n) := hT.len
    have HS : Hid (B + sumTo ts p c n = E) := by rw [← hS, Md.sum, hBe, HL.out]; rfl
    have hmax := hT.max
    have hcap := hT.cap
    unfold maxLen at hmax
    clear hS
    obtain ⟨w0, hw0⟩ : ∃ w0, w.alloc (.cells #[.int .i64 d, .int .i64 k, .int .i64 b0, .int .i64 b1, .int .i64 b2, .slice a n cp] 25) = w0 := ⟨_, rfl⟩
    have HI0 : Hid (MdIn w0 w.heap.size ⟨d, k, b0, b1, b2, a, n, cp, ts⟩) := hw0 ▸ MdIn.laid w ⟨d, k, b0, b1, b2, a, n, cp, ts⟩ _
    have hsz0 : w0.heap.size = w.heap.size + 1 := by rw [← hw0]; simp
    obtain ⟨w9, hw9⟩ : ∃ w9, w0.alloc (.cells #[.int .i64 p0, .int .i64 p1, .int .i64 p2, .int .i64 p3] 36) = w9 := ⟨_, rfl⟩
    have H00 : Hid (Jk w w0) := hw0 ▸ (Jk.refl w).alloc _
    have H09 : Hid (Jk w0 w9) := hw9 ▸ (Jk.refl w0).alloc _
    have HP : Hid (∀ wr, Jk w9 wr → wr.cell? ⟨w.heap.size + 1, 0, none⟩ = some (.int .i64 p0) ∧ wr.cell? ⟨w.heap.size + 1, 1, none⟩ = some (.int .i64 p1) ∧ wr.cell? ⟨w.heap.size + 1, 2, none⟩ = some (.int .i64 p2) ∧ wr.cell? ⟨w.heap.size + 1, 3, none⟩ = some (.int .i64 p3) ∧ w.heap.size + 1 < wr.heap.size) := fun wr hj => by
      rw [← hsz0]
      have hl : w0.heap.size < w9.heap.size := by rw [← hw9]; simp
      have e := fun i => hj.below.cell (p := ⟨w0.heap.size, i, none⟩) hl
      rw [e, e, e, e, ← hw9]
      exact ⟨World.cell?_alloc_at _ _ _ _ rfl, World.cell?_alloc_at _ _ _ _ rfl, World.cell?_alloc_at _ _ _ _ rfl, World.cell?_alloc_at _ _ _ _ rfl, Nat.lt_of_lt_of_le (hw9 ▸ hl) (hw9 ▸ hj.below.size)⟩
    have HI : Hid (MdIn w9 w.heap.size ⟨d, k, b0, b1, b2, a, n, cp, ts⟩) := HI0.out.jk H09.out
    have HT : Hid (IsT w9 a n cp ts) := hT.jk (H00.out.trans H09.out)
    have H0 : Hid (Jk w w9) := H00.out.trans H09.out
    obtain ⟨i0, i1, i2, i3, i4, i5, i6⟩ := HI.out
    simp only at i1 i2 i3 i4 i5 i6
    obtain ⟨C, rfl⟩ := Int.eq_ofNat_of_zero_le hc0
    have hcell : w9.cell? ⟨w.heap.size, 2 + C, none⟩ = some (.int .i64 B) := by
      simp [Md.b] at hBe
      have : C = 0 ∨ C = 1 ∨ C = 2 := by omega
      rcases this with rfl | rfl | rfl <;> simp_all
    clear hT HI0 H00 H09 hBe
    go_enter Try.func36, Try.ntmps36
    go_wp2_with (first | (go_at_call 34; refine (HX.out.on _ (by repeat (with_reducible first | exact H0.out | apply Jk.junk | apply Jk.alloc))).mono ?_; rintro e w1 ⟨rfl, X1, rfl⟩))
    go_loopg [7, 30] n (fun r s i wr => ∃ (j : Nat) (s' : Int), j + r = n ∧ i = .int .i64 (j : Int) ∧ s = .int .i64 s' ∧ Hid (B + sumTo ts p C j = s') ∧ Hid (Jk w9 wr))
    case atStart => exact ⟨0, _, by omega, rfl, rfl, hid (by simp [sumTo]), by repeat (with_reducible first | apply hid | exact Jk.refl _ | apply Jk.junk | apply Jk.alloc)⟩
    case round =>
      obtain ⟨j, s', hj, rfl, rfl, HSj, HJ⟩ := hrel
      clear i1 i2 i3 i4 i5 i6 hcell i0
      obtain ⟨s1, c0, c1, c2, c3, c4, c5⟩ := HI.out.jk HJ.out
      clear c0 c1 c2 c3 c4
      obtain ⟨q0, q1, q2, q3, q4⟩ := HP.out _ HJ.out
      simp only at c5
      by_cases hfuel : gk = 0
      · subst hfuel
        obtain rfl : j = n := by omega
        obtain rfl : s' = E := HSj.out.symm.trans HS.out
        go_wp2
        go_ret
        exact ⟨rfl, H0.out.trans HJ.out⟩
      · obtain ⟨r, rfl⟩ : ∃ r, gk = r + 1 := ⟨gk - 1, by omega⟩
        have hjn : (j : Int) < (n : Int) := by omega
        obtain ⟨g, o, rfl, hg, hat⟩ := HT.out.lies (by omega)
        have hgr : g < wr.heap.size := Nat.lt_of_lt_of_le hg HJ.out.below.size
        obtain ⟨k0, k1⟩ := (hat.jk HJ.out hg) j (by rw [HL.out]; omega)
        have hok := (HT.out.all j (by omega)).jk HJ.out
        obtain ⟨t, ht⟩ : ∃ t, tA ts j = t := ⟨_, rfl⟩
        have HTr : Hid (tA ts j = t) := ht
        rw [ht] at k0 k1 hok
        clear ht hat
        obtain ⟨cl, ta, tn, tc, tw⟩ := t
        simp only at k0 k1
        have hv := valW_bd tw p
        have hsb := sumTo_bd ts p C j
        have HR := hid (HV.out hok.is)
        simp only at HR
        obtain ⟨V, hV⟩ : ∃ V, valW tw p = V := ⟨_, rfl⟩
        have HVe : Hid (valW tw p = V) := hV
        rw [hV] at hv HR
        have hs1 : -2147483648 * 9 ≤ s' ∧ s' ≤ 2147483647 * 9 := by have := HSj.out; omega
        have hwr : IntKind.i64.wrap (s' + V) = s' + V := i64_in (by omega) (by omega)
        clear hV hsb hok
        by_cases hcl : cl = C
        · subst hcl
          go_wp2_with (first | (go_at_call 45; refine (HR.out.on _ (by repeat (with_reducible first | exact Jk.refl _ | apply Jk.junk | apply Jk.alloc))).mono ?_; rintro e w1 ⟨rfl, X2, rfl⟩))
          go_roundg r
          case measure => omega
          case rel => exact ⟨j + 1, _, by omega, by go_num, rfl, hid (by simp only [sumTo, HTr.out, if_true, HVe.out]; have := HSj.out; omega), by repeat (with_reducible first | exact HJ | apply hid | exact HJ.out | apply Jk.junk | apply Jk.alloc)⟩
        · have hcl2 : (cl == (C : Int)) = false := by simpa using hcl
          go_wp2
          go_roundg r
          case measure => omega
          case rel => exact ⟨j + 1, _, by omega, by go_num, rfl, hid (by simp only [sumTo, HTr.out, if_neg hcl]; have := HSj.out; omega), by repeat (with_reducible first | exact HJ | apply hid | exact HJ.out | apply Jk.junk | apply Jk.alloc)⟩

end Go.Proofs.Ytmfmiflifebflaa
