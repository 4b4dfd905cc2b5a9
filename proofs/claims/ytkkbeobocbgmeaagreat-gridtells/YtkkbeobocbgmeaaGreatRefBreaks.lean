/- What the document's own RightModel and Eval answer: the same words as the contracts of the code.
   What the document's own Right of chapter 10 answers.
   What the document's own Breaks of chapter 10 answers.
   What Start of the document's own chapter 10 answers. -/
import Derived.Test.YtkkbeobocbgmeaaGreatModelE
import Derived.Test.YtkkbeobocbgmeaaGreatRefTree2
import Derived.Test.YtkkbeobocbgmeaaGreatQueryK
import Derived.Test.YtkkbeobocbgmeaaGreatQueryE
import Derived.Test.YtkkbeobocbgmeaaGreatQueryC
import Derived.Test.YtkkbeobocbgmeaaGreatBoxQ
namespace Go.Proofs.YtkkbeobocbgmeaaGreat
open Go.RowKit M

theorem rfits_is {n : Int} {b : Bool} (h : fit32 n = b) : Ans 57 #[.int .i64 n, .int .i64 32] (.bool b) := h ▸ fun w =>
  (rfits_any n 32 w).mono fun _ _ ⟨e, h⟩ => ⟨by rw [e, fits32], h ▸ Jk.refl _⟩
def biasB (k j b : Int) : Bool := fit32 b && !(decide (k ≤ j) && !(b == 0))

open Classical in
set_option maxRecDepth 100000 in
set_option maxHeartbeats 3200000 in
theorem rrightM_ans {m : Md} {b : Bool} {ww : World} (hw : m.ok ww) (hb : b = true ↔ RightM m) : AnsW ww 56 #[modelV m] (.bool b) := fun w hjw => by
  obtain ⟨d, k, b0, b1, b2, a, n, c, ts⟩ := m
  have hT := (hw.jk hjw).is
  simp only at hT
  have J := rules8
  have hmax := hT.max
  have hcap := hT.cap
  unfold maxLen at hmax
  have HL : Hid (ts.length = n) := hT.len
  have hb' : b = true ↔ 1 ≤ d ∧ d ≤ 4 ∧ 1 ≤ k ∧ k ≤ 3 ∧ n ≤ 8 ∧ BiasP k b0 b1 b2 ∧ ∀ i, i < n → TrP k d (tA ts i) := by
    rw [hb]
    exact ⟨fun ⟨h1, h2, h3, h4, h5, h6, h7⟩ => ⟨h1, h2, h3, h4, by simpa [HL.out] using h6, h5, by simpa [HL.out] using h7⟩, fun ⟨h1, h2, h3, h4, h5, h6, h7⟩ => ⟨h1, h2, h3, h4, h6, by simpa [HL.out] using h5, by simpa [HL.out] using h7⟩⟩
  have HB := hid hb'
  clear hb hb' hw hjw
  by_cases h1 : d < 1
  · obtain rfl : false = b := (Bool.eq_false_iff.2 fun e => by have := HB.out.1 e; omega).symm
    clear hT
    go_enter Tryz.func56, Tryz.ntmps56
    go_wp2
    go_ret
    exact ⟨rfl, (Jk.refl w).alloc _⟩
  by_cases h2 : 4 < d
  · obtain rfl : false = b := (Bool.eq_false_iff.2 fun e => by have := HB.out.1 e; omega).symm
    clear hT
    go_enter Tryz.func56, Tryz.ntmps56
    go_wp2
    go_ret
    exact ⟨rfl, (Jk.refl w).alloc _⟩
  by_cases h3 : k < 1
  · obtain rfl : false = b := (Bool.eq_false_iff.2 fun e => by have := HB.out.1 e; omega).symm
    clear hT
    go_enter Tryz.func56, Tryz.ntmps56
    go_wp2
    go_ret
    exact ⟨rfl, (Jk.refl w).alloc _⟩
  by_cases h4 : 3 < k
  · obtain rfl : false = b := (Bool.eq_false_iff.2 fun e => by have := HB.out.1 e; omega).symm
    clear hT
    go_enter Tryz.func56, Tryz.ntmps56
    go_wp2
    go_ret
    exact ⟨rfl, (Jk.refl w).alloc _⟩
  by_cases h5 : (8 : Int) < (n : Int)
  · obtain rfl : false = b := (Bool.eq_false_iff.2 fun e => by have := HB.out.1 e; omega).symm
    clear hT
    go_enter Tryz.func56, Tryz.ntmps56
    go_wp2
    go_ret
    exact ⟨rfl, (Jk.refl w).alloc _⟩
  obtain ⟨f0, e0⟩ : ∃ f, fit32 b0 = f := ⟨_, rfl⟩
  obtain ⟨f1, e1⟩ : ∃ f, fit32 b1 = f := ⟨_, rfl⟩
  obtain ⟨f2, e2⟩ : ∃ f, fit32 b2 = f := ⟨_, rfl⟩
  have F0 := hid (rfits_is e0)
  have F1 := hid (rfits_is e1)
  have F2 := hid (rfits_is e2)
  have HC : Hid (b = true ↔ ((f0 = true ∧ f1 = true ∧ f2 = true) ∧ (k ≤ 1 → b1 = 0) ∧ (k ≤ 2 → b2 = 0)) ∧ ∀ i, i < n → TrP k d (tA ts i)) := by
    show b = true ↔ _
    rw [HB.out, BiasP, e0, e1, e2]
    constructor
    · rintro ⟨_, _, _, _, _, ⟨q1, q2, q3, q4⟩, q5⟩; exact ⟨⟨q1, q3, q4⟩, q5⟩
    · rintro ⟨⟨q1, q3, q4⟩, q5⟩; exact ⟨by omega, by omega, by omega, by omega, by omega, ⟨q1, fun h => by omega, q3, q4⟩, q5⟩
  clear e0 e1 e2 HB
  obtain ⟨w0, hw0⟩ : ∃ w0, w.alloc (.cells #[.int .i64 d, .int .i64 k, .int .i64 b0, .int .i64 b1, .int .i64 b2, .slice a n c] 31) = w0 := ⟨_, rfl⟩
  have HI : Hid (MdIn w0 w.heap.size ⟨d, k, b0, b1, b2, a, n, c, ts⟩) := hw0 ▸ MdIn.laid w ⟨d, k, b0, b1, b2, a, n, c, ts⟩ _
  have H0 : Hid (Jk w w0) := hw0 ▸ (Jk.refl w).alloc _
  have HT : Hid (IsT w0 a n c ts) := hT.jk H0.out
  clear hT
  obtain ⟨i0, i1, i2, i3, i4, i5, i6⟩ := HI.out
  simp only at i1 i2 i3 i4 i5 i6
  have x0 := bx0
  have x1 := bx1
  have x2 := bx2
  go_enter Tryz.func56, Tryz.ntmps56
  go_wp2
  go_loopg [33] 3 (fun r i wr => ∃ j : Nat, j + r = 3 ∧ i = .int .i64 (j : Int) ∧ Hid ((0 < j → f0 = true) ∧ (1 < j → f1 = true ∧ (k ≤ 1 → b1 = 0)) ∧ (2 < j → f2 = true ∧ (k ≤ 2 → b2 = 0))) ∧ Hid (Jk w0 wr))
  case atStart => exact ⟨0, by omega, rfl, hid ⟨fun h => by omega, fun h => by omega, fun h => by omega⟩, hid (Jk.refl _)⟩
  case round =>
    obtain ⟨j, hj, rfl, HP, HJ⟩ := hrel
    clear i0 i1 i2 i3 i4 i5 i6
    obtain ⟨s1, c0, c1, c2, c3, c4, c5⟩ := HI.out.jk HJ.out
    simp only at c0 c1 c2 c3 c4 c5
    have hj3 : j = 3 ∨ j = 0 ∨ j = 1 ∨ j = 2 := by omega
    rcases hj3 with rfl | rfl | rfl | rfl
    · have HQ : Hid (b = true ↔ ∀ i, i < n → TrP k d (tA ts i)) := by
        show b = true ↔ _
        rw [HC.out]
        have := HP.out
        simp at this
        constructor
        · exact fun h => h.2
        · exact fun h => ⟨⟨⟨this.1, this.2.1.1, this.2.2.1⟩, this.2.1.2, this.2.2.2⟩, h⟩
      clear HC HP x0 x1 x2 F0 F1 F2
      have hc5 := c5
      go_wp2
      go_loopg [54] n (fun r i wr => ∃ j : Nat, j + r = n ∧ i = .int .i64 (j : Int) ∧ Hid (∀ q, q < j → TrP k d (tA ts q)) ∧ Hid (Jk w0 wr))
      case atStart => exact ⟨0, by omega, rfl, hid fun q hq => by omega, by repeat (with_reducible first | exact HJ | apply hid | exact HJ.out | apply Jk.junk | apply Jk.alloc)⟩
      case round =>
        obtain ⟨j, hj, rfl, HP, HJ2⟩ := hrel
        clear hc5 s1 c0 c1 c2 c3 c4 c5
        obtain ⟨s1, c0, c1, c2, c3, c4, c5⟩ := HI.out.jk HJ2.out
        simp only at c0 c1 c2 c3 c4 c5
        by_cases hfuel : gk = 0
        · subst hfuel
          obtain rfl : j = n := by omega
          obtain rfl : true = b := (HQ.out.2 HP.out).symm
          go_wp2
          go_ret
          refine ⟨rfl, ?_⟩
          repeat (with_reducible first | exact (H0.out.trans HJ2.out) | apply Jk.junk | apply Jk.alloc)
        · obtain ⟨r, rfl⟩ : ∃ r, gk = r + 1 := ⟨gk - 1, by omega⟩
          have hjn : (j : Int) < (n : Int) := by omega
          obtain ⟨g, o, rfl, hg, hat⟩ := HT.out.lies (by omega)
          have hgr : g < wr.heap.size := Nat.lt_of_lt_of_le hg HJ2.out.below.size
          obtain ⟨k0, k1⟩ := (hat.jk HJ2.out hg) j (by rw [HL.out]; omega)
          have hok := (HT.out.all j (by omega)).jk HJ2.out
          obtain ⟨t, ht⟩ : ∃ t, tA ts j = t := ⟨_, rfl⟩
          have HTr : Hid (tA ts j = t) := ht
          rw [ht] at k0 k1 hok
          clear ht hat
          obtain ⟨cl, ta, tn, tc, tw⟩ := t
          simp only at k0 k1
          obtain ⟨tb, htb⟩ : ∃ tb : Bool, tb = true ↔ TreeP tw d := ⟨decide (TreeP tw d), by simp⟩
          have HR := hid (rright_tree hok.is htb)
          simp only at HR
          have HTB := hid htb
          clear htb hok
          by_cases hc1 : cl < 0
          · obtain rfl : false = b := (Bool.eq_false_iff.2 fun e => by
              have h := HQ.out.1 e j (by omega)
              rw [HTr.out] at h
              have := h.lo
              simp only at this
              omega).symm
            go_wp2
            go_ret
            refine ⟨rfl, ?_⟩
            repeat (with_reducible first | exact (H0.out.trans HJ2.out) | apply Jk.junk | apply Jk.alloc)
          by_cases hc2 : k ≤ cl
          · obtain rfl : false = b := (Bool.eq_false_iff.2 fun e => by
              have h := HQ.out.1 e j (by omega)
              rw [HTr.out] at h
              have := h.hi
              simp only at this
              omega).symm
            go_wp2
            go_ret
            refine ⟨rfl, ?_⟩
            repeat (with_reducible first | exact (H0.out.trans HJ2.out) | apply Jk.junk | apply Jk.alloc)
          cases tb
          · obtain rfl : false = b := (Bool.eq_false_iff.2 fun e => by
              have h := HQ.out.1 e j (by omega)
              rw [HTr.out] at h
              have := HTB.out.2 h.tree
              cases this).symm
            go_wp2_with (first | (go_at_call 70; refine (HR.out.on _ (by repeat (with_reducible first | exact Jk.refl _ | apply Jk.junk | apply Jk.alloc))).mono ?_; rintro e w1 ⟨rfl, X2, rfl⟩))
            go_ret
            refine ⟨rfl, ?_⟩
            repeat (with_reducible first | exact (H0.out.trans HJ2.out) | apply Jk.junk | apply Jk.alloc)
          · go_wp2_with (first | (go_at_call 70; refine (HR.out.on _ (by repeat (with_reducible first | exact Jk.refl _ | apply Jk.junk | apply Jk.alloc))).mono ?_; rintro e w1 ⟨rfl, X2, rfl⟩))
            go_roundg r
            case measure => omega
            case rel => exact ⟨j + 1, by omega, by go_num, hid (TrsP.step HP.out (by
              rw [HTr.out]
              exact ⟨by simp only; omega, by simp only; omega, HTB.out.1 (by simp)⟩)), by repeat (with_reducible first | exact HJ2 | apply hid | exact HJ2.out | apply Jk.junk | apply Jk.alloc)⟩
    · cases f0
      · obtain rfl : false = b := (Bool.eq_false_iff.2 fun e => by have := HC.out.1 e; simp at this).symm
        go_wp2_with (first | (go_at_call 57; refine (F0.out.on _).mono ?_; rintro e w1 ⟨rfl, X1, rfl⟩))
        go_ret
        refine ⟨rfl, ?_⟩
        repeat (with_reducible first | exact (H0.out.trans HJ.out) | apply Jk.junk | apply Jk.alloc)
      · have hk0 : ¬ (0 : Int) ≥ k := by omega
        go_wp2_with (first | (go_at_call 57; refine (F0.out.on _).mono ?_; rintro e w1 ⟨rfl, X1, rfl⟩))
        go_roundg 2
        case measure => omega
        case rel => exact ⟨1, by omega, by go_num, hid (by have := HP.out; simp at this ⊢ <;> grind), by repeat (with_reducible first | exact HJ | apply hid | exact HJ.out | apply Jk.junk | apply Jk.alloc)⟩
    · cases f1
      · obtain rfl : false = b := (Bool.eq_false_iff.2 fun e => by have := HC.out.1 e; simp at this).symm
        go_wp2_with (first | (go_at_call 57; refine (F1.out.on _).mono ?_; rintro e w1 ⟨rfl, X1, rfl⟩))
        go_ret
        refine ⟨rfl, ?_⟩
        repeat (with_reducible first | exact (H0.out.trans HJ.out) | apply Jk.junk | apply Jk.alloc)
      · by_cases hk : k ≤ 1
        · by_cases hz : b1 = 0
          · subst hz
            go_wp2_with (first | (go_at_call 57; refine (F1.out.on _).mono ?_; rintro e w1 ⟨rfl, X1, rfl⟩))
            go_roundg 1
            case measure => omega
            case rel => exact ⟨2, by omega, by go_num, hid (by have := HP.out; simp at this ⊢ <;> grind), by repeat (with_reducible first | exact HJ | apply hid | exact HJ.out | apply Jk.junk | apply Jk.alloc)⟩
          · have hz2 : (b1 == 0) = false := by simpa using hz
            obtain rfl : false = b := (Bool.eq_false_iff.2 fun e => by have := HC.out.1 e; simp at this; grind).symm
            go_wp2_with (first | (go_at_call 57; refine (F1.out.on _).mono ?_; rintro e w1 ⟨rfl, X1, rfl⟩))
            go_ret
            refine ⟨rfl, ?_⟩
            repeat (with_reducible first | exact (H0.out.trans HJ.out) | apply Jk.junk | apply Jk.alloc)
        · go_wp2_with (first | (go_at_call 57; refine (F1.out.on _).mono ?_; rintro e w1 ⟨rfl, X1, rfl⟩))
          go_roundg 1
          case measure => omega
          case rel => exact ⟨2, by omega, by go_num, hid (by have := HP.out; simp at this ⊢ <;> grind), by repeat (with_reducible first | exact HJ | apply hid | exact HJ.out | apply Jk.junk | apply Jk.alloc)⟩
    · cases f2
      · obtain rfl : false = b := (Bool.eq_false_iff.2 fun e => by have := HC.out.1 e; simp at this).symm
        go_wp2_with (first | (go_at_call 57; refine (F2.out.on _).mono ?_; rintro e w1 ⟨rfl, X1, rfl⟩))
        go_ret
        refine ⟨rfl, ?_⟩
        repeat (with_reducible first | exact (H0.out.trans HJ.out) | apply Jk.junk | apply Jk.alloc)
      · by_cases hk : k ≤ 2
        · by_cases hz : b2 = 0
          · subst hz
            go_wp2_with (first | (go_at_call 57; refine (F2.out.on _).mono ?_; rintro e w1 ⟨rfl, X1, rfl⟩))
            go_roundg 0
            case measure => omega
            case rel => exact ⟨3, by omega, by go_num, hid (by have := HP.out; simp at this ⊢ <;> grind), by repeat (with_reducible first | exact HJ | apply hid | exact HJ.out | apply Jk.junk | apply Jk.alloc)⟩
          · have hz2 : (b2 == 0) = false := by simpa using hz
            obtain rfl : false = b := (Bool.eq_false_iff.2 fun e => by have := HC.out.1 e; simp at this; grind).symm
            go_wp2_with (first | (go_at_call 57; refine (F2.out.on _).mono ?_; rintro e w1 ⟨rfl, X1, rfl⟩))
            go_ret
            refine ⟨rfl, ?_⟩
            repeat (with_reducible first | exact (H0.out.trans HJ.out) | apply Jk.junk | apply Jk.alloc)
        · go_wp2_with (first | (go_at_call 57; refine (F2.out.on _).mono ?_; rintro e w1 ⟨rfl, X1, rfl⟩))
          go_roundg 0
          case measure => omega
          case rel => exact ⟨3, by omega, by go_num, hid (by have := HP.out; simp at this ⊢ <;> grind), by repeat (with_reducible first | exact HJ | apply hid | exact HJ.out | apply Jk.junk | apply Jk.alloc)⟩

set_option maxRecDepth 100000 in
set_option maxHeartbeats 1600000 in
theorem reval_ans {m : Md} {c E : Int} (p : Int → Int) {ww : World} (hw : m.ok ww) (hE : EvalP m p c E) : AnsW ww 41 #[modelV m, .int .i64 c, pointV p] (.int .i64 E) := fun w hjw => by
  have hw' := hw.jk hjw
  obtain ⟨x, hx⟩ := right_bool m
  have HX := hid (rrightM_ans hw' hx)
  have hT := hw'.is
  have HV : Hid (∀ {w : World} {a : Option Addr} {n c : Nat} {ws : List Int}, IsW w a n c ws → AnsW w 58 #[.slice a n c, pointV p] (.int .i64 (valW ws p))) := fun h => rvalue_ans p h
  obtain ⟨p0, e0⟩ : ∃ z, p 0 = z := ⟨_, rfl⟩
  obtain ⟨p1, e1⟩ : ∃ z, p 1 = z := ⟨_, rfl⟩
  obtain ⟨p2, e2⟩ : ∃ z, p 2 = z := ⟨_, rfl⟩
  obtain ⟨p3, e3⟩ : ∃ z, p 3 = z := ⟨_, rfl⟩
  simp only [pointV, e0, e1, e2, e3] at HV ⊢
  clear e0 e1 e2 e3
  have J := rules8
  by_cases hyes : RightM m ∧ 0 ≤ c ∧ c < m.k
  rotate_left
  · obtain rfl := hE.2 hyes
    have HN : Hid (x = true → ¬ (0 ≤ c ∧ c < m.k)) := fun e h => hyes ⟨hx.1 e, h⟩
    clear hyes hE hw hw' hjw hx HV hT
    obtain ⟨d, k, b0, b1, b2, a, n, cp, ts⟩ := m
    simp only [modelV] at HX HN ⊢
    cases x
    · go_enter Tryz.func41, Tryz.ntmps41
      go_wp2_with (first | (go_at_call 56; refine (HX.out.on _ (by repeat (with_reducible first | exact Jk.refl _ | apply Jk.junk | apply Jk.alloc))).mono ?_; rintro e w1 ⟨rfl, X1, rfl⟩))
      go_ret
      exact ⟨rfl, by repeat (with_reducible first | exact Jk.refl _ | apply Jk.junk | apply Jk.alloc)⟩
    · by_cases h0 : c < 0
      · go_enter Tryz.func41, Tryz.ntmps41
        go_wp2_with (first | (go_at_call 56; refine (HX.out.on _ (by repeat (with_reducible first | exact Jk.refl _ | apply Jk.junk | apply Jk.alloc))).mono ?_; rintro e w1 ⟨rfl, X1, rfl⟩))
        go_ret
        exact ⟨rfl, by repeat (with_reducible first | exact Jk.refl _ | apply Jk.junk | apply Jk.alloc)⟩
      · have h1 : k ≤ c := by have := HN.out rfl; omega
        go_enter Tryz.func41, Tryz.ntmps41
        go_wp2_with (first | (go_at_call 56; refine (HX.out.on _ (by repeat (with_reducible first | exact Jk.refl _ | apply Jk.junk | apply Jk.alloc))).mono ?_; rintro e w1 ⟨rfl, X1, rfl⟩))
        go_ret
        exact ⟨rfl, by repeat (with_reducible first | exact Jk.refl _ | apply Jk.junk | apply Jk.alloc)⟩
  · obtain ⟨hr, hc0, hck⟩ := hyes
    obtain rfl : true = x := (hx.2 hr).symm
    have hS := hE.1 hr hc0 hck
    have hc3 : c < 3 := by have := hr.k3; omega
    have h8 := hr.n8 hw'
    have hB : -2147483648 ≤ m.b c ∧ m.b c ≤ 2147483647 := by
      rcases hr.bc (c := c) with h | h
      · omega
      · simp [fit32] at h; omega
    obtain ⟨B, hBe⟩ : ∃ B, m.b c = B := ⟨_, rfl⟩
    rw [hBe] at hB
    clear hr hx hE hw hw' hjw
    obtain ⟨d, k, b0, b1, b2, a, n, cp, ts⟩ := m
    simp only [modelV] at hT h8 hck HX ⊢
    have HL : Hid (ts.length = n) := hT.len
    have HS : Hid (B + sumTo ts p c n = E) := by rw [← hS, Md.sum, hBe, HL.out]; rfl
    have hmax := hT.max
    have hcap := hT.cap
    unfold maxLen at hmax
    clear hS
    obtain ⟨w0, hw0⟩ : ∃ w0, w.alloc (.cells #[.int .i64 d, .int .i64 k, .int .i64 b0, .int .i64 b1, .int .i64 b2, .slice a n cp] 31) = w0 := ⟨_, rfl⟩
    have HI0 : Hid (MdIn w0 w.heap.size ⟨d, k, b0, b1, b2, a, n, cp, ts⟩) := hw0 ▸ MdIn.laid w ⟨d, k, b0, b1, b2, a, n, cp, ts⟩ _
    have hsz0 : w0.heap.size = w.heap.size + 1 := by rw [← hw0]; simp
    obtain ⟨w9, hw9⟩ : ∃ w9, w0.alloc (.cells #[.int .i64 p0, .int .i64 p1, .int .i64 p2, .int .i64 p3] 70) = w9 := ⟨_, rfl⟩
    have H00 : Hid (Jk w w0) := hw0 ▸ (Jk.refl w).alloc _
    have H09 : Hid (Jk w0 w9) := hw9 ▸ (Jk.refl w0).alloc _
    have HP : Hid (∀ wr, Jk w9 wr → wr.cell? ⟨w.heap.size + 1, 0, none⟩ = some (.int .i64 p0) ∧ wr.cell? ⟨w.heap.size + 1, 1, none⟩ = some (.int .i64 p1) ∧ wr.cell? ⟨w.heap.size + 1, 2, none⟩ = some (.int .i64 p2) ∧ wr.cell? ⟨w.heap.size + 1, 3, none⟩ = some (.int .i64 p3) ∧ w.heap.size + 1 < wr.heap.size) := fun wr hj => by
      rw [← hsz0]
      have hl : w0.heap.size < w9.heap.size := by rw [← hw9]; simp
      have e := fun i => hj.below.cell (p := ⟨w0.heap.size, i, none⟩) hl
      rw [e, e, e, e, ← hw9]
      exact ⟨World.cell?_alloc_at _ _ _ _ rfl, World.cell?_alloc_at _ _ _ _ rfl, World.cell?_alloc_at _ _ _ _ rfl, World.cell?_alloc_at _ _ _ _ rfl, Nat.lt_of_lt_of_le (hw9 ▸ hl) (hw9 ▸ hj.below.size)⟩
    have HI : Hid (MdIn w9 w.heap.size ⟨d, k, b0, b1, b2, a, n, cp, ts⟩) := HI0.out.jk H09.out
    have HT : Hid (IsT w9 a n cp ts) := hT.jk (H00.out.trans H09.out)
    have H0 : Hid (Jk w w9) := H00.out.trans H09.out
    obtain ⟨i0, i1, i2, i3, i4, i5, i6⟩ := HI.out
    simp only at i1 i2 i3 i4 i5 i6
    obtain ⟨C, rfl⟩ := Int.eq_ofNat_of_zero_le hc0
    have hcell : w9.cell? ⟨w.heap.size, 2 + C, none⟩ = some (.int .i64 B) := by
      simp [Md.b] at hBe
      have : C = 0 ∨ C = 1 ∨ C = 2 := by omega
      rcases this with rfl | rfl | rfl <;> simp_all
    clear hT HI0 H00 H09 hBe
    go_enter Tryz.func41, Tryz.ntmps41
    go_wp2_with (first | (go_at_call 56; refine (HX.out.on _ (by repeat (with_reducible first | exact H0.out | apply Jk.junk | apply Jk.alloc))).mono ?_; rintro e w1 ⟨rfl, X1, rfl⟩))
    go_loopg [7, 30] n (fun r s i wr => ∃ (j : Nat) (s' : Int), j + r = n ∧ i = .int .i64 (j : Int) ∧ s = .int .i64 s' ∧ Hid (B + sumTo ts p C j = s') ∧ Hid (Jk w9 wr))
    case atStart => exact ⟨0, _, by omega, rfl, rfl, hid (by simp [sumTo]), by repeat (with_reducible first | apply hid | exact Jk.refl _ | apply Jk.junk | apply Jk.alloc)⟩
    case round =>
      obtain ⟨j, s', hj, rfl, rfl, HSj, HJ⟩ := hrel
      clear i1 i2 i3 i4 i5 i6 hcell i0
      obtain ⟨s1, c0, c1, c2, c3, c4, c5⟩ := HI.out.jk HJ.out
      clear c0 c1 c2 c3 c4
      obtain ⟨q0, q1, q2, q3, q4⟩ := HP.out _ HJ.out
      simp only at c5
      by_cases hfuel : gk = 0
      · subst hfuel
        obtain rfl : j = n := by omega
        obtain rfl : s' = E := HSj.out.symm.trans HS.out
        go_wp2
        go_ret
        exact ⟨rfl, H0.out.trans HJ.out⟩
      · obtain ⟨r, rfl⟩ : ∃ r, gk = r + 1 := ⟨gk - 1, by omega⟩
        have hjn : (j : Int) < (n : Int) := by omega
        obtain ⟨g, o, rfl, hg, hat⟩ := HT.out.lies (by omega)
        have hgr : g < wr.heap.size := Nat.lt_of_lt_of_le hg HJ.out.below.size
        obtain ⟨k0, k1⟩ := (hat.jk HJ.out hg) j (by rw [HL.out]; omega)
        have hok := (HT.out.all j (by omega)).jk HJ.out
        obtain ⟨t, ht⟩ : ∃ t, tA ts j = t := ⟨_, rfl⟩
        have HTr : Hid (tA ts j = t) := ht
        rw [ht] at k0 k1 hok
        clear ht hat
        obtain ⟨cl, ta, tn, tc, tw⟩ := t
        simp only at k0 k1
        have hv := valW_bd tw p
        have hsb := sumTo_bd ts p C j
        have HR := hid (HV.out hok.is)
        simp only at HR
        obtain ⟨V, hV⟩ : ∃ V, valW tw p = V := ⟨_, rfl⟩
        have HVe : Hid (valW tw p = V) := hV
        rw [hV] at hv HR
        have hs1 : -2147483648 * 9 ≤ s' ∧ s' ≤ 2147483647 * 9 := by have := HSj.out; omega
        have hwr : IntKind.i64.wrap (s' + V) = s' + V := i64_in (by omega) (by omega)
        clear hV hsb hok
        by_cases hcl : cl = C
        · subst hcl
          go_wp2_with (first | (go_at_call 58; refine (HR.out.on _ (by repeat (with_reducible first | exact Jk.refl _ | apply Jk.junk | apply Jk.alloc))).mono ?_; rintro e w1 ⟨rfl, X2, rfl⟩))
          go_roundg r
          case measure => omega
          case rel => exact ⟨j + 1, _, by omega, by go_num, rfl, hid (by simp only [sumTo, HTr.out, if_true, HVe.out]; have := HSj.out; omega), by repeat (with_reducible first | exact HJ | apply hid | exact HJ.out | apply Jk.junk | apply Jk.alloc)⟩
        · have hcl2 : (cl == (C : Int)) = false := by simpa using hcl
          go_wp2
          go_roundg r
          case measure => omega
          case rel => exact ⟨j + 1, _, by omega, by go_num, rfl, hid (by simp only [sumTo, HTr.out, if_neg hcl]; have := HSj.out; omega), by repeat (with_reducible first | exact HJ | apply hid | exact HJ.out | apply Jk.junk | apply Jk.alloc)⟩

end Go.Proofs.YtkkbeobocbgmeaaGreat

namespace Go.Proofs.YtkkbeobocbgmeaaGreat
open Go.RowKit M


set_option maxRecDepth 100000 in
set_option maxHeartbeats 6400000 in
theorem rright_q {m : Md} {q : Qy} {b : Bool} {ww : World} (hm : m.ok ww) (hb : b = true ↔ RightQ m q) : AnsW ww 40 #[modelV m, queryV q] (.bool b) := fun w hjw => by
  have J := rules8
  obtain ⟨x, hx⟩ : ∃ x : Bool, x = true ↔ RightM m := right_bool m
  have HX0 := hid (rrightM_ans (hm.jk hjw) hx)
  have HB : Hid (b = true ↔ x = true ∧ 0 ≤ q.cl ∧ q.cl < m.k ∧ 0 ≤ q.bu ∧ q.bu ≤ 65536 ∧ (∀ j : Nat, j < 5 → placeR m.d (j : Int) (q.rg.at (j : Int))) ∧ kindR m q) := by
    show b = true ↔ _
    rw [hb, hx, ← spansR_at]
    exact ⟨fun ⟨h1, h2, h3, h4, h5, h6, h7⟩ => ⟨h1, h2, h3, h4, h5, h6, h7⟩, fun ⟨h1, h2, h3, h4, h5, h6, h7⟩ => ⟨h1, h2, h3, h4, h5, h6, h7⟩⟩
  have HIx : Hid (∀ (j : Nat) (w : World), j < 5 → (Instr.index 36 (boxV q.rg) (.int .i64 (j : Int))).run Tryz.prog w = .ok (spV (q.rg.at (j : Int))) w) := fun j w hj => ix_at q.rg hj w
  obtain ⟨S, hS⟩ : ∃ S : Nat → Sp, ∀ j : Nat, q.rg.at (j : Int) = S j := ⟨_, fun _ => rfl⟩
  simp only [hS] at HB HIx
  clear hb hx hm hjw hS
  obtain ⟨d, k, b0, b1, b2, ma, mn, mc, ts⟩ := m
  obtain ⟨kd, cl, ⟨⟨ra, rb⟩, ⟨rc, rd⟩, ⟨re, rf⟩, ⟨rg, rh⟩, ⟨ri, rj⟩⟩, lo, hi, f, fa, bu⟩ := q
  simp only [modelV, queryV, boxV] at HX0 HIx ⊢
  simp only [kindR] at HB
  obtain ⟨w0, hw0⟩ : ∃ w0, (w.alloc (.cells #[.int .i64 d, .int .i64 k, .int .i64 b0, .int .i64 b1, .int .i64 b2, .slice ma mn mc] 31)).alloc (.cells #[.int .i64 kd, .int .i64 cl, .int .i64 ra, .int .i64 rb, .int .i64 rc, .int .i64 rd, .int .i64 re, .int .i64 rf, .int .i64 rg, .int .i64 rh, .int .i64 ri, .int .i64 rj, .int .i64 lo, .int .i64 hi, .int .i64 f, .bool fa, .int .i64 bu] 38) = w0 := ⟨_, rfl⟩
  have HJ0 : Hid (Jk w w0) := hw0 ▸ ((Jk.refl w).alloc _).alloc _
  have HM : Hid (MdIn w0 w.heap.size ⟨d, k, b0, b1, b2, ma, mn, mc, ts⟩) := by
    rw [← hw0]
    exact (MdIn.laid w ⟨d, k, b0, b1, b2, ma, mn, mc, ts⟩ _).jk ((Jk.refl _).alloc _)
  have HQ : Hid (QyB w0 (w.heap.size + 1) ⟨kd, cl, ⟨⟨ra, rb⟩, ⟨rc, rd⟩, ⟨re, rf⟩, ⟨rg, rh⟩, ⟨ri, rj⟩⟩, lo, hi, f, fa, bu⟩) := by
    rw [← hw0]
    have := QyB.laid (w.alloc (.cells #[.int .i64 d, .int .i64 k, .int .i64 b0, .int .i64 b1, .int .i64 b2, .slice ma mn mc] 31)) ⟨kd, cl, ⟨⟨ra, rb⟩, ⟨rc, rd⟩, ⟨re, rf⟩, ⟨rg, rh⟩, ⟨ri, rj⟩⟩, lo, hi, f, fa, bu⟩
    rwa [World.size_alloc] at this
  have HX := hid (HX0.out.up HJ0.out)
  clear HX0
  obtain ⟨m0, m1, m2, m3, m4, m5, m6⟩ := HM.out
  obtain ⟨q0, q1, q2, q3, q4, q5, q6, q7, q8, q9, q10, q11, q12, q13, q14, q15, q16⟩ := HQ.out.in
  have ql := HQ.out.lt
  simp only at m1 m2 m3 m4 m5 m6 q0 q1 q2 q3 q4 q5 q6 q7 q8 q9 q10 q11 q12 q13 q14 q15 q16
  cases x
  · obtain rfl : false = b := (Bool.eq_false_iff.2 fun e => by have := (HB.out.1 e).1; cases this).symm
    go_enter Tryz.func40, Tryz.ntmps40
    go_wp2_with (first | (go_at_call 56; refine (HX.out.on _ (by exact Jk.refl _)).mono ?_; rintro e w1 ⟨rfl, hj1⟩; have HJ1 := hid hj1; clear hj1; clear m0 m1 m2 m3 m4 m5 m6 q0 q1 q2 q3 q4 q5 q6 q7 q8 q9 q10 q11 q12 q13 q14 q15 q16; obtain ⟨m0, m1, m2, m3, m4, m5, m6⟩ := HM.out.jk HJ1.out; obtain ⟨q0, q1, q2, q3, q4, q5, q6, q7, q8, q9, q10, q11, q12, q13, q14, q15, q16⟩ := (HQ.out.jk HJ1.out).in; simp only at m1 m2 m3 m4 m5 m6 q0 q1 q2 q3 q4 q5 q6 q7 q8 q9 q10 q11 q12 q13 q14 q15 q16))
    go_ret
    exact ⟨rfl, HJ0.out.trans HJ1.out⟩
  by_cases h1 : cl < 0
  · obtain rfl : false = b := (Bool.eq_false_iff.2 fun e => by have := HB.out.1 e; omega).symm
    go_enter Tryz.func40, Tryz.ntmps40
    go_wp2_with (first | (go_at_call 56; refine (HX.out.on _ (by exact Jk.refl _)).mono ?_; rintro e w1 ⟨rfl, hj1⟩; have HJ1 := hid hj1; clear hj1; clear m0 m1 m2 m3 m4 m5 m6 q0 q1 q2 q3 q4 q5 q6 q7 q8 q9 q10 q11 q12 q13 q14 q15 q16; obtain ⟨m0, m1, m2, m3, m4, m5, m6⟩ := HM.out.jk HJ1.out; obtain ⟨q0, q1, q2, q3, q4, q5, q6, q7, q8, q9, q10, q11, q12, q13, q14, q15, q16⟩ := (HQ.out.jk HJ1.out).in; simp only at m1 m2 m3 m4 m5 m6 q0 q1 q2 q3 q4 q5 q6 q7 q8 q9 q10 q11 q12 q13 q14 q15 q16))
    go_ret
    exact ⟨rfl, HJ0.out.trans HJ1.out⟩
  by_cases h2 : k ≤ cl
  · obtain rfl : false = b := (Bool.eq_false_iff.2 fun e => by have := HB.out.1 e; omega).symm
    go_enter Tryz.func40, Tryz.ntmps40
    go_wp2_with (first | (go_at_call 56; refine (HX.out.on _ (by exact Jk.refl _)).mono ?_; rintro e w1 ⟨rfl, hj1⟩; have HJ1 := hid hj1; clear hj1; clear m0 m1 m2 m3 m4 m5 m6 q0 q1 q2 q3 q4 q5 q6 q7 q8 q9 q10 q11 q12 q13 q14 q15 q16; obtain ⟨m0, m1, m2, m3, m4, m5, m6⟩ := HM.out.jk HJ1.out; obtain ⟨q0, q1, q2, q3, q4, q5, q6, q7, q8, q9, q10, q11, q12, q13, q14, q15, q16⟩ := (HQ.out.jk HJ1.out).in; simp only at m1 m2 m3 m4 m5 m6 q0 q1 q2 q3 q4 q5 q6 q7 q8 q9 q10 q11 q12 q13 q14 q15 q16))
    go_ret
    exact ⟨rfl, HJ0.out.trans HJ1.out⟩
  by_cases h3 : bu < 0
  · obtain rfl : false = b := (Bool.eq_false_iff.2 fun e => by have := HB.out.1 e; omega).symm
    go_enter Tryz.func40, Tryz.ntmps40
    go_wp2_with (first | (go_at_call 56; refine (HX.out.on _ (by exact Jk.refl _)).mono ?_; rintro e w1 ⟨rfl, hj1⟩; have HJ1 := hid hj1; clear hj1; clear m0 m1 m2 m3 m4 m5 m6 q0 q1 q2 q3 q4 q5 q6 q7 q8 q9 q10 q11 q12 q13 q14 q15 q16; obtain ⟨m0, m1, m2, m3, m4, m5, m6⟩ := HM.out.jk HJ1.out; obtain ⟨q0, q1, q2, q3, q4, q5, q6, q7, q8, q9, q10, q11, q12, q13, q14, q15, q16⟩ := (HQ.out.jk HJ1.out).in; simp only at m1 m2 m3 m4 m5 m6 q0 q1 q2 q3 q4 q5 q6 q7 q8 q9 q10 q11 q12 q13 q14 q15 q16))
    go_ret
    exact ⟨rfl, HJ0.out.trans HJ1.out⟩
  by_cases h4 : 65536 < bu
  · obtain rfl : false = b := (Bool.eq_false_iff.2 fun e => by have := HB.out.1 e; omega).symm
    go_enter Tryz.func40, Tryz.ntmps40
    go_wp2_with (first | (go_at_call 56; refine (HX.out.on _ (by exact Jk.refl _)).mono ?_; rintro e w1 ⟨rfl, hj1⟩; have HJ1 := hid hj1; clear hj1; clear m0 m1 m2 m3 m4 m5 m6 q0 q1 q2 q3 q4 q5 q6 q7 q8 q9 q10 q11 q12 q13 q14 q15 q16; obtain ⟨m0, m1, m2, m3, m4, m5, m6⟩ := HM.out.jk HJ1.out; obtain ⟨q0, q1, q2, q3, q4, q5, q6, q7, q8, q9, q10, q11, q12, q13, q14, q15, q16⟩ := (HQ.out.jk HJ1.out).in; simp only at m1 m2 m3 m4 m5 m6 q0 q1 q2 q3 q4 q5 q6 q7 q8 q9 q10 q11 q12 q13 q14 q15 q16))
    go_ret
    exact ⟨rfl, HJ0.out.trans HJ1.out⟩
  go_enter Tryz.func40, Tryz.ntmps40
  go_upto_region 4 with (first | (go_at_call 56; refine (HX.out.on _ (by exact Jk.refl _)).mono ?_; rintro e w1 ⟨rfl, hj1⟩; have HJ1 := hid hj1; clear hj1; clear m0 m1 m2 m3 m4 m5 m6 q0 q1 q2 q3 q4 q5 q6 q7 q8 q9 q10 q11 q12 q13 q14 q15 q16; obtain ⟨m0, m1, m2, m3, m4, m5, m6⟩ := HM.out.jk HJ1.out; obtain ⟨q0, q1, q2, q3, q4, q5, q6, q7, q8, q9, q10, q11, q12, q13, q14, q15, q16⟩ := (HQ.out.jk HJ1.out).in; simp only at m1 m2 m3 m4 m5 m6 q0 q1 q2 q3 q4 q5 q6 q7 q8 q9 q10 q11 q12 q13 q14 q15 q16))
  have HBr : Hid (b = true → ∀ j : Nat, j < 5 → placeR d (j : Int) (S j)) := fun e => (HB.out.1 e).2.2.2.2.2.1
  have HBk : Hid ((∀ j : Nat, j < 5 → placeR d (j : Int) (S j)) → (b = true ↔ (kd = 1 ∧ lo ≤ hi ∧ f = 0 ∧ fa = false ∨ kd = 2 ∧ 2 ≤ k ∧ lo = 0 ∧ hi = 0 ∧ f = 0 ∧ fa = false ∨ kd = 3 ∧ 0 ≤ f ∧ f < d ∧ lo = 0 ∧ hi = 0))) := fun h => HB.out.trans ⟨fun h' => h'.2.2.2.2.2.2, fun h' => ⟨by trivial, by omega, by omega, by omega, by omega, h, h'⟩⟩
  clear HB h1 h2 h3 h4
  have HJm := hid (HJ1.out)
  clear m0 m1 m2 m3 m4 m5 m6 q0 q1 q2 q3 q4 q5 q6 q7 q8 q9 q10 q11 q12 q13 q14 q15 q16 ql
  go_loopg [34] 5 (fun r i wr => ∃ j : Nat, j + r = 5 ∧ i = .int .i64 (j : Int) ∧ Hid (∀ q, q < j → placeR d (q : Int) (S q)) ∧ Hid (Jk w0 wr))
  case atStart => exact ⟨0, by omega, rfl, hid fun q hq => by omega, HJ1⟩
  case round =>
    obtain ⟨j, hj, rfl, HP, HJ⟩ := hrel
    clear HJ1 HJm
    obtain ⟨m0, m1, m2, m3, m4, m5, m6⟩ := HM.out.jk HJ.out
    obtain ⟨q0, q1, q2, q3, q4, q5, q6, q7, q8, q9, q10, q11, q12, q13, q14, q15, q16⟩ := (HQ.out.jk HJ.out).in
    have ql := (HQ.out.jk HJ.out).lt
    simp only at m1 m2 m3 m4 m5 m6 q0 q1 q2 q3 q4 q5 q6 q7 q8 q9 q10 q11 q12 q13 q14 q15 q16
    by_cases hk : gk = 0
    · subst hk
      obtain rfl : j = 5 := by omega
      have HBq := hid (HBk.out HP.out)
      clear HBk HBr HP HIx
      by_cases h1 : kd = 1
      · subst h1
        by_cases h2 : lo ≤ hi
        rotate_left
        · obtain rfl : false = b := (Bool.eq_false_iff.2 fun e => by rcases HBq.out.1 e with ⟨h1, h2, h3, h4⟩ | ⟨h1, h2, h3, h4, h5, h6⟩ | ⟨h1, h2, h3, h4, h5⟩ <;> first | omega | (cases h4; done) | (cases h6; done)).symm
          clear HBq
          go_wp2
          go_ret
          exact ⟨by first | rfl | exact ret_bool (by simp [*]), HJ0.out.trans HJ.out⟩
        by_cases h3 : f = 0
        rotate_left
        · obtain rfl : false = b := (Bool.eq_false_iff.2 fun e => by rcases HBq.out.1 e with ⟨h1, h2, h3, h4⟩ | ⟨h1, h2, h3, h4, h5, h6⟩ | ⟨h1, h2, h3, h4, h5⟩ <;> first | omega | (cases h4; done) | (cases h6; done)).symm
          clear HBq
          go_wp2
          go_ret
          exact ⟨by first | rfl | exact ret_bool (by simp [*]), HJ0.out.trans HJ.out⟩
        subst h3
        cases fa
        · obtain rfl : true = b := (HBq.out.2 (.inl ⟨rfl, by assumption, rfl, rfl⟩)).symm
          clear HBq
          go_wp2
          go_ret
          exact ⟨by first | rfl | exact ret_bool (by simp [*]), HJ0.out.trans HJ.out⟩
        · obtain rfl : false = b := (Bool.eq_false_iff.2 fun e => by rcases HBq.out.1 e with ⟨h1, h2, h3, h4⟩ | ⟨h1, h2, h3, h4, h5, h6⟩ | ⟨h1, h2, h3, h4, h5⟩ <;> first | omega | (cases h4; done) | (cases h6; done)).symm
          clear HBq
          go_wp2
          go_ret
          exact ⟨by first | rfl | exact ret_bool (by simp [*]), HJ0.out.trans HJ.out⟩
      by_cases h2 : kd = 2
      · subst h2
        by_cases hk : 2 ≤ k
        rotate_left
        · obtain rfl : false = b := (Bool.eq_false_iff.2 fun e => by rcases HBq.out.1 e with ⟨h1, h2, h3, h4⟩ | ⟨h1, h2, h3, h4, h5, h6⟩ | ⟨h1, h2, h3, h4, h5⟩ <;> first | omega | (cases h4; done) | (cases h6; done)).symm
          clear HBq
          go_wp2
          go_ret
          exact ⟨by first | rfl | exact ret_bool (by simp [*]), HJ0.out.trans HJ.out⟩
        by_cases h2 : lo = 0
        rotate_left
        · obtain rfl : false = b := (Bool.eq_false_iff.2 fun e => by rcases HBq.out.1 e with ⟨h1, h2, h3, h4⟩ | ⟨h1, h2, h3, h4, h5, h6⟩ | ⟨h1, h2, h3, h4, h5⟩ <;> first | omega | (cases h4; done) | (cases h6; done)).symm
          clear HBq
          go_wp2
          go_ret
          exact ⟨by first | rfl | exact ret_bool (by simp [*]), HJ0.out.trans HJ.out⟩
        subst h2
        by_cases h3 : hi = 0
        rotate_left
        · obtain rfl : false = b := (Bool.eq_false_iff.2 fun e => by rcases HBq.out.1 e with ⟨h1, h2, h3, h4⟩ | ⟨h1, h2, h3, h4, h5, h6⟩ | ⟨h1, h2, h3, h4, h5⟩ <;> first | omega | (cases h4; done) | (cases h6; done)).symm
          clear HBq
          go_wp2
          go_ret
          exact ⟨by first | rfl | exact ret_bool (by simp [*]), HJ0.out.trans HJ.out⟩
        subst h3
        by_cases h4 : f = 0
        rotate_left
        · obtain rfl : false = b := (Bool.eq_false_iff.2 fun e => by rcases HBq.out.1 e with ⟨h1, h2, h3, h4⟩ | ⟨h1, h2, h3, h4, h5, h6⟩ | ⟨h1, h2, h3, h4, h5⟩ <;> first | omega | (cases h4; done) | (cases h6; done)).symm
          clear HBq
          go_wp2
          go_ret
          exact ⟨by first | rfl | exact ret_bool (by simp [*]), HJ0.out.trans HJ.out⟩
        subst h4
        cases fa
        · obtain rfl : true = b := (HBq.out.2 (.inr (.inl ⟨rfl, by assumption, rfl, rfl, rfl, rfl⟩))).symm
          clear HBq
          go_wp2
          go_ret
          exact ⟨by first | rfl | exact ret_bool (by simp [*]), HJ0.out.trans HJ.out⟩
        · obtain rfl : false = b := (Bool.eq_false_iff.2 fun e => by rcases HBq.out.1 e with ⟨h1, h2, h3, h4⟩ | ⟨h1, h2, h3, h4, h5, h6⟩ | ⟨h1, h2, h3, h4, h5⟩ <;> first | omega | (cases h4; done) | (cases h6; done)).symm
          clear HBq
          go_wp2
          go_ret
          exact ⟨by first | rfl | exact ret_bool (by simp [*]), HJ0.out.trans HJ.out⟩
      by_cases h3 : kd = 3
      · subst h3
        by_cases h4 : 0 ≤ f
        rotate_left
        · obtain rfl : false = b := (Bool.eq_false_iff.2 fun e => by rcases HBq.out.1 e with ⟨h1, h2, h3, h4⟩ | ⟨h1, h2, h3, h4, h5, h6⟩ | ⟨h1, h2, h3, h4, h5⟩ <;> first | omega | (cases h4; done) | (cases h6; done)).symm
          clear HBq
          go_wp2
          go_ret
          exact ⟨by first | rfl | exact ret_bool (by simp [*]), HJ0.out.trans HJ.out⟩
        by_cases h5 : f < d
        rotate_left
        · obtain rfl : false = b := (Bool.eq_false_iff.2 fun e => by rcases HBq.out.1 e with ⟨h1, h2, h3, h4⟩ | ⟨h1, h2, h3, h4, h5, h6⟩ | ⟨h1, h2, h3, h4, h5⟩ <;> first | omega | (cases h4; done) | (cases h6; done)).symm
          clear HBq
          go_wp2
          go_ret
          exact ⟨by first | rfl | exact ret_bool (by simp [*]), HJ0.out.trans HJ.out⟩
        by_cases h6 : lo = 0
        rotate_left
        · obtain rfl : false = b := (Bool.eq_false_iff.2 fun e => by rcases HBq.out.1 e with ⟨h1, h2, h3, h4⟩ | ⟨h1, h2, h3, h4, h5, h6⟩ | ⟨h1, h2, h3, h4, h5⟩ <;> first | omega | (cases h4; done) | (cases h6; done)).symm
          clear HBq
          go_wp2
          go_ret
          exact ⟨by first | rfl | exact ret_bool (by simp [*]), HJ0.out.trans HJ.out⟩
        subst h6
        by_cases h7 : hi = 0
        rotate_left
        · obtain rfl : false = b := (Bool.eq_false_iff.2 fun e => by rcases HBq.out.1 e with ⟨h1, h2, h3, h4⟩ | ⟨h1, h2, h3, h4, h5, h6⟩ | ⟨h1, h2, h3, h4, h5⟩ <;> first | omega | (cases h4; done) | (cases h6; done)).symm
          clear HBq
          go_wp2
          go_ret
          exact ⟨by first | rfl | exact ret_bool (by simp [*]), HJ0.out.trans HJ.out⟩
        subst h7
        obtain rfl : true = b := (HBq.out.2 (.inr (.inr ⟨rfl, by assumption, by assumption, rfl, rfl⟩))).symm
        clear HBq
        go_wp2
        go_ret
        exact ⟨by first | rfl | exact ret_bool (by simp [*]), HJ0.out.trans HJ.out⟩
      obtain rfl : false = b := (Bool.eq_false_iff.2 fun e => by rcases HBq.out.1 e with ⟨h1, h2, h3, h4⟩ | ⟨h1, h2, h3, h4, h5, h6⟩ | ⟨h1, h2, h3, h4, h5⟩ <;> first | omega | (cases h4; done) | (cases h6; done)).symm
      clear HBq
      go_wp2
      go_ret
      exact ⟨by first | rfl | exact ret_bool (by simp [*]), HJ0.out.trans HJ.out⟩
    · obtain ⟨r, rfl⟩ : ∃ r, gk = r + 1 := ⟨gk - 1, by omega⟩
      have hj5 : j < 5 := by omega
      have hj5' : (j : Int) < 5 := by omega
      have hix := fun w => HIx.out j w hj5
      have HPj : Hid (b = true → placeR d (j : Int) (S j)) := fun e => HBr.out e j hj5
      have HNx : Hid (placeR d (j : Int) (S j) → ∀ q, q < j + 1 → placeR d (q : Int) (S q)) := fun h q hq => by
        rcases Nat.lt_succ_iff_lt_or_eq.1 hq with h1 | rfl
        · exact HP.out q h1
        · exact h
      obtain ⟨⟨sa, sb⟩, hSj⟩ : ∃ s, S j = s := ⟨_, rfl⟩
      rw [hSj] at HPj HNx
      simp only [hSj, spV] at hix
      clear hSj HBk HBr HIx HP
      have heq := fun w => eq_nil sa sb w
      have hlm := lt_more8 m0
      obtain ⟨fl, hfl⟩ : ∃ z, fit32 sa = z := ⟨_, rfl⟩
      obtain ⟨fh, hfh⟩ : ∃ z, fit32 sb = z := ⟨_, rfl⟩
      have HFl := hid (rfits_is hfl)
      have HFh := hid (rfits_is hfh)
      have Hem : Hid (fit32 sa = fl ∧ fit32 sb = fh) := ⟨hfl, hfh⟩
      clear hfl hfh
      have HNo : Hid ((¬ placeR d (j : Int) ⟨sa, sb⟩) → false = b) := fun h => (Bool.eq_false_iff.2 fun e => h (HPj.out e)).symm
      by_cases hd : d ≤ (j : Int)
      · have hd' : ¬ (j : Int) < d := by omega
        by_cases hs : sa = 0 ∧ sb = 0
        · obtain ⟨rfl, rfl⟩ := hs
          have HPl : Hid (placeR d (j : Int) ⟨0, 0⟩) := ⟨fun h => by omega, fun _ => ⟨rfl, rfl⟩⟩
          go_wp2_with (first | (go_at_call 57; refine (Ans.on (by with_reducible first | exact HFl.out | exact HFh.out) _).mono ?_; rintro e w2 ⟨rfl, X2, rfl⟩))
          go_roundg r
          case measure => omega
          case rel => exact ⟨j + 1, by omega, by go_num, hid (HNx.out HPl.out), by have := HJ.out; exact hid (by repeat (with_reducible first | exact this | apply Jk.junk | apply Jk.alloc))⟩
        · obtain rfl : false = b := HNo.out fun h => hs (h.2 hd)
          have hq : ((sa == 0) && (sb == 0)) = false := by
            rw [Bool.eq_false_iff]
            intro e
            simp at e
            exact hs e
          go_wp2_with (first | (go_at_call 57; refine (Ans.on (by with_reducible first | exact HFl.out | exact HFh.out) _).mono ?_; rintro e w2 ⟨rfl, X2, rfl⟩))
          go_ret
          exact ⟨rfl, by have := HJ0.out.trans HJ.out; repeat (with_reducible first | exact this | apply Jk.junk | apply Jk.alloc)⟩
      · have hd' : (j : Int) < d := by omega
        by_cases hs : sb < sa
        · obtain rfl : false = b := HNo.out fun h => by
            have h1 := (h.1 hd').1
            simp only at h1
            omega
          go_wp2_with (first | (go_at_call 57; refine (Ans.on (by with_reducible first | exact HFl.out | exact HFh.out) _).mono ?_; rintro e w2 ⟨rfl, X2, rfl⟩))
          go_ret
          exact ⟨rfl, by have := HJ0.out.trans HJ.out; repeat (with_reducible first | exact this | apply Jk.junk | apply Jk.alloc)⟩
        cases fl
        · obtain rfl : false = b := HNo.out fun h => by
            have h1 := (h.1 hd').2.1
            have := Hem.out.1
            simp only at h1
            rw [h1] at this
            cases this
          go_wp2_with (first | (go_at_call 57; refine (Ans.on (by with_reducible first | exact HFl.out | exact HFh.out) _).mono ?_; rintro e w2 ⟨rfl, X2, rfl⟩))
          go_ret
          exact ⟨rfl, by have := HJ0.out.trans HJ.out; repeat (with_reducible first | exact this | apply Jk.junk | apply Jk.alloc)⟩
        · cases fh
          · obtain rfl : false = b := HNo.out fun h => by
              have h1 := (h.1 hd').2.2
              have := Hem.out.2
              simp only at h1
              rw [h1] at this
              cases this
            go_wp2_with (first | (go_at_call 57; refine (Ans.on (by with_reducible first | exact HFl.out | exact HFh.out) _).mono ?_; rintro e w2 ⟨rfl, X2, rfl⟩))
            go_ret
            exact ⟨rfl, by have := HJ0.out.trans HJ.out; repeat (with_reducible first | exact this | apply Jk.junk | apply Jk.alloc)⟩
          · have HPl : Hid (placeR d (j : Int) ⟨sa, sb⟩) := ⟨fun _ => ⟨by simp only; omega, Hem.out.1, Hem.out.2⟩, fun h => absurd h hd⟩
            go_wp2_with (first | (go_at_call 57; refine (Ans.on (by with_reducible first | exact HFl.out | exact HFh.out) _).mono ?_; rintro e w2 ⟨rfl, X2, rfl⟩))
            go_roundg r
            case measure => omega
            case rel => exact ⟨j + 1, by omega, by go_num, hid (HNx.out HPl.out), by have := HJ.out; exact hid (by repeat (with_reducible first | exact this | apply Jk.junk | apply Jk.alloc))⟩

end Go.Proofs.YtkkbeobocbgmeaaGreat

namespace Go.Proofs.YtkkbeobocbgmeaaGreat
open Go.RowKit M

theorem MdB.byQ {w w' : World} {h g : Nat} {x : Md} (H : MdB w h x) (hg : w.grownBy w' (some g)) (hne : h ≠ g) : MdB w' h x := (hg.block h H.lt (by simpa using hne)).trans H

set_option maxRecDepth 100000 in
set_option maxHeartbeats 12800000 in
theorem rbreaks_ans {m : Md} {q : Qy} {b : Bool} (p : Int → Int) (t : Int) {ww : World} (hm : m.ok ww) (hb : b = true ↔ BreaksP m q p t) : AnsW ww 27 #[modelV m, queryV q, pointV p, .int .i64 t] (.bool b) := fun w hjw => by
  have J := rules8
  have hmw := hm.jk hjw
  obtain ⟨br, hbr⟩ := rightQ_bool m q
  have HR0 := hid (rright_q hmw hbr)
  cases br
  · obtain rfl : false = b := (Bool.eq_false_iff.2 fun e => by have := hbr.2 (hb.1 e).1; cases this).symm
    clear hb hbr hm hjw hmw
    obtain ⟨d, k, b0, b1, b2, ma, mn, mc, ts⟩ := m
    obtain ⟨kd, cl, ⟨⟨ra, rb⟩, ⟨rc, rd⟩, ⟨re, rf⟩, ⟨rg, rh⟩, ⟨ri, rj⟩⟩, lo, hi, f, fa, bu⟩ := q
    obtain ⟨p0, e0⟩ : ∃ z, p 0 = z := ⟨_, rfl⟩
    obtain ⟨p1, e1⟩ : ∃ z, p 1 = z := ⟨_, rfl⟩
    obtain ⟨p2, e2⟩ : ∃ z, p 2 = z := ⟨_, rfl⟩
    obtain ⟨p3, e3⟩ : ∃ z, p 3 = z := ⟨_, rfl⟩
    simp only [modelV, pointV, queryV, e0, e1, e2, e3] at HR0 ⊢
    clear e0 e1 e2 e3
    obtain ⟨w0, hw0⟩ : ∃ w0, ((w.alloc (.cells #[.int .i64 d, .int .i64 k, .int .i64 b0, .int .i64 b1, .int .i64 b2, .slice ma mn mc] 31)).alloc (.cells #[.int .i64 kd, .int .i64 cl, .int .i64 ra, .int .i64 rb, .int .i64 rc, .int .i64 rd, .int .i64 re, .int .i64 rf, .int .i64 rg, .int .i64 rh, .int .i64 ri, .int .i64 rj, .int .i64 lo, .int .i64 hi, .int .i64 f, .bool fa, .int .i64 bu] 38)).alloc (.cells #[.int .i64 p0, .int .i64 p1, .int .i64 p2, .int .i64 p3] 70) = w0 := ⟨_, rfl⟩
    have HJ0 : Hid (Jk w w0) := hw0 ▸ (((Jk.refl w).alloc _).alloc _).alloc _
    have HM : Hid (MdB w0 w.heap.size ⟨d, k, b0, b1, b2, ma, mn, mc, ts⟩) := by
      rw [← hw0]
      exact (MdB.laid w ⟨d, k, b0, b1, b2, ma, mn, mc, ts⟩).jk (((Jk.refl _).alloc _).alloc _)
    have HQ : Hid (QyB w0 (w.heap.size + 1) ⟨kd, cl, ⟨⟨ra, rb⟩, ⟨rc, rd⟩, ⟨re, rf⟩, ⟨rg, rh⟩, ⟨ri, rj⟩⟩, lo, hi, f, fa, bu⟩) := by
      rw [← hw0]
      have := (QyB.laid (w.alloc (.cells #[.int .i64 d, .int .i64 k, .int .i64 b0, .int .i64 b1, .int .i64 b2, .slice ma mn mc] 31)) ⟨kd, cl, ⟨⟨ra, rb⟩, ⟨rc, rd⟩, ⟨re, rf⟩, ⟨rg, rh⟩, ⟨ri, rj⟩⟩, lo, hi, f, fa, bu⟩).jk ((Jk.refl _).alloc (.cells #[.int .i64 p0, .int .i64 p1, .int .i64 p2, .int .i64 p3] 70))
      rwa [World.size_alloc] at this
    have HPt : Hid (PtB w0 (w.heap.size + 1 + 1) p0 p1 p2 p3) := by
      rw [← hw0]
      have := PtB.laid ((w.alloc (.cells #[.int .i64 d, .int .i64 k, .int .i64 b0, .int .i64 b1, .int .i64 b2, .slice ma mn mc] 31)).alloc (.cells #[.int .i64 kd, .int .i64 cl, .int .i64 ra, .int .i64 rb, .int .i64 rc, .int .i64 rd, .int .i64 re, .int .i64 rf, .int .i64 rg, .int .i64 rh, .int .i64 ri, .int .i64 rj, .int .i64 lo, .int .i64 hi, .int .i64 f, .bool fa, .int .i64 bu] 38)) p0 p1 p2 p3
      rwa [World.size_alloc, World.size_alloc] at this
    have HR := hid (HR0.out.up HJ0.out)
    go_enter Tryz.func27, Tryz.ntmps27
    go_upto_region 1 with fail
    refine wp_region_lit ?_
    refine list_loadM rfl _ rfl HM.out rfl ?_
    refine list_loadQ rfl _ rfl HQ.out rfl ?_
    go_wp2_with (first | (go_at_call 40; refine (HR.out.on _ (by exact Jk.refl _)).mono ?_; rintro e w1 ⟨rfl, hj1⟩; have HJ1 := hid hj1; clear hj1))
    go_ret
    exact ⟨rfl, HJ0.out.trans HJ1.out⟩
  · have hr := hbr.1 rfl
    have HB : Hid (b = true ↔ (q.kd = 1 ∧ ¬ (q.lo ≤ m.sum p q.cl ∧ m.sum p q.cl ≤ q.hi)) ∨ (q.kd = 2 ∧ beatP m p q.cl) ∨ (q.kd = 3 ∧ p q.f < t ∧ turnP m q p t)) := by
      show b = true ↔ _
      rw [hb]
      exact ⟨fun h => h.2, fun h => ⟨hr, h⟩⟩
    have HB2 : Hid (b = true ↔ (q.kd = 1 ∧ ¬ (q.lo ≤ m.sum p q.cl ∧ m.sum p q.cl ≤ q.hi)) ∨ (q.kd = 2 ∧ ∃ c : Int, 0 ≤ c ∧ c < m.k ∧ c ≠ q.cl ∧ m.sum p q.cl ≤ m.sum p c) ∨ (q.kd = 3 ∧ p q.f < t ∧ ((q.fa = true ∧ m.sum p q.cl < m.sum (putP p q.f t) q.cl) ∨ (q.fa = false ∧ m.sum (putP p q.f t) q.cl < m.sum p q.cl)))) := by
      show b = true ↔ _
      rw [HB.out]
      have h3 : q.kd = 3 → secondI q p t = putP p q.f t := fun h => by
        have h1 := hr.f h
        have h2 := hr.mr.d4
        exact secondI_yes ⟨h, h1.1, by omega⟩
      constructor
      · rintro (h | h | ⟨h1, h2, h4⟩)
        · exact .inl h
        · exact .inr (.inl h)
        · unfold turnP at h4
          rw [h3 h1] at h4
          exact .inr (.inr ⟨h1, h2, h4⟩)
      · rintro (h | h | ⟨h1, h2, h4⟩)
        · exact .inl h
        · exact .inr (.inl h)
        · rw [← h3 h1] at h4
          exact .inr (.inr ⟨h1, h2, h4⟩)
    have HEc : Hid (∀ c : Int, 0 ≤ c → c < m.k → AnsW w 41 #[modelV m, .int .i64 c, pointV p] (.int .i64 (m.sum p c))) := fun c h0 h1 => reval_ans p hmw (hr.mr.evalP p h0 h1)
    have HEv := hid (reval_ans p hmw (hr.mr.evalP p hr.c0 hr.c1))
    have HEp := hid (reval_ans (putP p q.f t) hmw (hr.mr.evalP (putP p q.f t) hr.c0 hr.c1))
    have hkd : q.kd = 1 ∨ q.kd = 2 ∨ q.kd = 3 := by rcases hr.kd with h | h | h <;> omega
    have hf3 : q.kd = 3 → q.f = 0 ∨ q.f = 1 ∨ q.f = 2 ∨ q.f = 3 := fun h => by
      have h1 := hr.f h
      have h2 := hr.mr.d4
      omega
    have HV : Hid (∀ i : Int, putP p i t = fun j => if j = i then t else p j) := fun i => rfl
    have hk1 := hr.mr.k1
    have hk3 := hr.mr.k3
    obtain ⟨S, hS⟩ : ∃ S, m.sum p = S := ⟨_, rfl⟩
    rw [hS] at HB2 HEv HEc
    obtain ⟨E, hE⟩ : ∃ z, S q.cl = z := ⟨_, rfl⟩
    rw [hE] at HB2 HEv
    obtain ⟨y, hy⟩ : ∃ z, m.sum (putP p q.f t) q.cl = z := ⟨_, rfl⟩
    rw [hy] at HB2 HEp
    clear hE hS hy hb hbr hm hjw hmw hr HB
    obtain ⟨d, k, b0, b1, b2, ma, mn, mc, ts⟩ := m
    obtain ⟨kd, cl, ⟨⟨ra, rb⟩, ⟨rc, rd⟩, ⟨re, rf⟩, ⟨rg, rh⟩, ⟨ri, rj⟩⟩, lo, hi, f, fa, bu⟩ := q
    simp only at HB2 hkd hf3 HEv HEc HEp hk1 hk3
    obtain ⟨K, rfl⟩ := Int.eq_ofNat_of_zero_le (show 0 ≤ k by omega)
    obtain ⟨p0, e0⟩ : ∃ z, p 0 = z := ⟨_, rfl⟩
    obtain ⟨p1, e1⟩ : ∃ z, p 1 = z := ⟨_, rfl⟩
    obtain ⟨p2, e2⟩ : ∃ z, p 2 = z := ⟨_, rfl⟩
    obtain ⟨p3, e3⟩ : ∃ z, p 3 = z := ⟨_, rfl⟩
    simp only [modelV, pointV, queryV, HV.out, e0, e1, e2, e3] at HR0 HEv HEc HEp ⊢
    obtain ⟨w0, hw0⟩ : ∃ w0, ((w.alloc (.cells #[.int .i64 d, .int .i64 (K : Int), .int .i64 b0, .int .i64 b1, .int .i64 b2, .slice ma mn mc] 31)).alloc (.cells #[.int .i64 kd, .int .i64 cl, .int .i64 ra, .int .i64 rb, .int .i64 rc, .int .i64 rd, .int .i64 re, .int .i64 rf, .int .i64 rg, .int .i64 rh, .int .i64 ri, .int .i64 rj, .int .i64 lo, .int .i64 hi, .int .i64 f, .bool fa, .int .i64 bu] 38)).alloc (.cells #[.int .i64 p0, .int .i64 p1, .int .i64 p2, .int .i64 p3] 70) = w0 := ⟨_, rfl⟩
    have HJ0 : Hid (Jk w w0) := hw0 ▸ (((Jk.refl w).alloc _).alloc _).alloc _
    have HM : Hid (MdB w0 w.heap.size ⟨d, (K : Int), b0, b1, b2, ma, mn, mc, ts⟩) := by
      rw [← hw0]
      exact (MdB.laid w ⟨d, (K : Int), b0, b1, b2, ma, mn, mc, ts⟩).jk (((Jk.refl _).alloc _).alloc _)
    have HQ : Hid (QyB w0 (w.heap.size + 1) ⟨kd, cl, ⟨⟨ra, rb⟩, ⟨rc, rd⟩, ⟨re, rf⟩, ⟨rg, rh⟩, ⟨ri, rj⟩⟩, lo, hi, f, fa, bu⟩) := by
      rw [← hw0]
      have := (QyB.laid (w.alloc (.cells #[.int .i64 d, .int .i64 (K : Int), .int .i64 b0, .int .i64 b1, .int .i64 b2, .slice ma mn mc] 31)) ⟨kd, cl, ⟨⟨ra, rb⟩, ⟨rc, rd⟩, ⟨re, rf⟩, ⟨rg, rh⟩, ⟨ri, rj⟩⟩, lo, hi, f, fa, bu⟩).jk ((Jk.refl _).alloc (.cells #[.int .i64 p0, .int .i64 p1, .int .i64 p2, .int .i64 p3] 70))
      rwa [World.size_alloc] at this
    have HPt : Hid (PtB w0 (w.heap.size + 1 + 1) p0 p1 p2 p3) := by
      rw [← hw0]
      have := PtB.laid ((w.alloc (.cells #[.int .i64 d, .int .i64 (K : Int), .int .i64 b0, .int .i64 b1, .int .i64 b2, .slice ma mn mc] 31)).alloc (.cells #[.int .i64 kd, .int .i64 cl, .int .i64 ra, .int .i64 rb, .int .i64 rc, .int .i64 rd, .int .i64 re, .int .i64 rf, .int .i64 rg, .int .i64 rh, .int .i64 ri, .int .i64 rj, .int .i64 lo, .int .i64 hi, .int .i64 f, .bool fa, .int .i64 bu] 38)) p0 p1 p2 p3
      rwa [World.size_alloc, World.size_alloc] at this
    have HR := hid (HR0.out.up HJ0.out)
    have HE0 := hid (HEv.out.up HJ0.out)
    have HC0 := hid (fun c h0 h1 => (HEc.out c h0 h1).up HJ0.out)
    have HP0 := HEp
    clear HR0 HEv HEc HEp
    go_enter Tryz.func27, Tryz.ntmps27
    go_upto_region 1 with fail
    refine wp_region_lit ?_
    refine list_loadM rfl _ rfl HM.out rfl ?_
    refine list_loadQ rfl _ rfl HQ.out rfl ?_
    go_upto_region 3 with (first | (go_at_call 40; refine (HR.out.on _ (by exact Jk.refl _)).mono ?_; rintro e w1 ⟨rfl, hj1⟩; have HJ1 := hid hj1; clear hj1))
    obtain ⟨m0, m1, m2, m3, m4, m5, m6⟩ := (HM.out.jk HJ1.out).in
    obtain ⟨pt0, pt1, pt2, pt3, pt4⟩ := (HPt.out.jk HJ1.out).in
    obtain ⟨q0, q1, q2, q3, q4, q5, q6, q7, q8, q9, q10, q11, q12, q13, q14, q15, q16⟩ := (HQ.out.jk HJ1.out).in
    have ql := (HQ.out.jk HJ1.out).lt
    simp only at m1 m2 m3 m4 m5 m6 q0 q1 q2 q3 q4 q5 q6 q7 q8 q9 q10 q11 q12 q13 q14 q15 q16
    have HE1 := hid (HE0.out.up HJ1.out)
    go_upto_region 4 with (first | (go_at_call 41; refine (HE1.out.on _ (by exact Jk.refl _)).mono ?_; rintro e w2 ⟨rfl, hj2⟩; have HJ2 : Hid (Jk w0 w2) := hid (HJ1.out.trans hj2); clear hj2))
    clear m0 m1 m2 m3 m4 m5 m6 q0 q1 q2 q3 q4 q5 q6 q7 q8 q9 q10 q11 q12 q13 q14 q15 q16 ql pt0 pt1 pt2 pt3 pt4 HE1 HE0 HR HJ1
    obtain ⟨m0, m1, m2, m3, m4, m5, m6⟩ := (HM.out.jk HJ2.out).in
    obtain ⟨pt0, pt1, pt2, pt3, pt4⟩ := (HPt.out.jk HJ2.out).in
    have ptf := (HPt.out.jk HJ2.out).frozen
    obtain ⟨q0, q1, q2, q3, q4, q5, q6, q7, q8, q9, q10, q11, q12, q13, q14, q15, q16⟩ := (HQ.out.jk HJ2.out).in
    have ql := (HQ.out.jk HJ2.out).lt
    simp only at m1 m2 m3 m4 m5 m6 q0 q1 q2 q3 q4 q5 q6 q7 q8 q9 q10 q11 q12 q13 q14 q15 q16
    rcases hkd with rfl | rfl | rfl
    · have h2 : b = true ↔ ¬ (lo ≤ E ∧ E ≤ hi) := HB2.out.trans (by simp)
      clear HB2 hf3
      by_cases h3 : E < lo
      · obtain rfl : true = b := (h2.2 (by omega)).symm
        clear h2
        go_wp2
        go_ret
        exact ⟨by first | rfl | exact ret_bool (by simp [*]), HJ0.out.trans HJ2.out⟩
      · by_cases h4 : hi < E
        · obtain rfl : true = b := (h2.2 (by omega)).symm
          clear h2
          go_wp2
          go_ret
          exact ⟨by first | rfl | exact ret_bool (by simp [*]), HJ0.out.trans HJ2.out⟩
        · obtain rfl : false = b := (Bool.eq_false_iff.2 fun e => by have := h2.1 e; omega).symm
          clear h2
          go_wp2
          go_ret
          exact ⟨by first | rfl | exact ret_bool (by simp; omega), HJ0.out.trans HJ2.out⟩
    · have HB : Hid (b = true ↔ ∃ c : Int, 0 ≤ c ∧ c < (K : Int) ∧ c ≠ cl ∧ E ≤ S c) := HB2.out.trans (by simp)
      clear HB2 hf3 HP0
      go_upto_region 9 with fail
      clear m0 m1 m2 m3 m4 m5 m6 q0 q1 q2 q3 q4 q5 q6 q7 q8 q9 q10 q11 q12 q13 q14 q15 q16 ql pt0 pt1 pt2 pt3 pt4
      go_loopg [39] K (fun r i wr => ∃ j : Nat, j + r = K ∧ i = .int .i64 (j : Int) ∧ Hid (∀ c : Int, 0 ≤ c → c < (j : Int) → c ≠ cl → S c < E) ∧ Hid (Jk w0 wr))
      case atStart => exact ⟨0, by omega, rfl, hid fun c h0 h1 _ => absurd h1 (by omega), HJ2⟩
      case round =>
        obtain ⟨j, hj, rfl, HP, HJ⟩ := hrel
        clear HJ2
        obtain ⟨m0, m1, m2, m3, m4, m5, m6⟩ := (HM.out.jk HJ.out).in
        obtain ⟨pt0, pt1, pt2, pt3, pt4⟩ := (HPt.out.jk HJ.out).in
        obtain ⟨q0, q1, q2, q3, q4, q5, q6, q7, q8, q9, q10, q11, q12, q13, q14, q15, q16⟩ := (HQ.out.jk HJ.out).in
        have ql := (HQ.out.jk HJ.out).lt
        simp only at m1 m2 m3 m4 m5 m6 q0 q1 q2 q3 q4 q5 q6 q7 q8 q9 q10 q11 q12 q13 q14 q15 q16
        by_cases hfuel : gk = 0
        · subst hfuel
          obtain rfl : j = K := by omega
          obtain rfl : false = b := (Bool.eq_false_iff.2 fun e => by
            obtain ⟨c, h0, h1, h2, h3⟩ := HB.out.1 e
            have := HP.out c h0 h1 h2
            omega).symm
          go_wp2
          go_ret
          exact ⟨rfl, HJ0.out.trans HJ.out⟩
        · obtain ⟨r, rfl⟩ : ∃ r, gk = r + 1 := ⟨gk - 1, by omega⟩
          have hjk : (j : Int) < (K : Int) := by omega
          by_cases hjc : (j : Int) = cl
          · have HN : Hid (∀ c : Int, 0 ≤ c → c < ((j + 1 : Nat) : Int) → c ≠ cl → S c < E) := fun c h0 h1 h2 => by
              by_cases h3 : c = (j : Int)
              · omega
              · exact HP.out c h0 (by omega) h2
            have hjb : ((j : Int) != cl) = false := by simpa using hjc
            go_wp2
            go_roundg r
            case measure => omega
            case rel => exact ⟨j + 1, by omega, by go_num, HN, HJ⟩
          · have hjb : ((j : Int) != cl) = true := by simpa using hjc
            have HEj := hid ((HC0.out (j : Int) (by omega) hjk).up HJ.out)
            by_cases hs : E ≤ S (j : Int)
            · obtain rfl : true = b := (HB.out.2 ⟨(j : Int), by omega, hjk, hjc, hs⟩).symm
              obtain ⟨sj, hsj⟩ : ∃ z, S (j : Int) = z := ⟨_, rfl⟩
              rw [hsj] at HEj hs
              have hs' : decide (E ≤ sj) = true := by simpa using hs
              clear hs
              go_wp2_with (first | (go_at_call 41; refine (HEj.out.on _ (by exact Jk.refl _)).mono ?_; rintro e w3 ⟨rfl, hj3⟩; have HJ3 := hid hj3; clear hj3))
              go_ret
              exact ⟨rfl, (HJ0.out.trans HJ.out).trans HJ3.out⟩
            · have HN : Hid (∀ c : Int, 0 ≤ c → c < ((j + 1 : Nat) : Int) → c ≠ cl → S c < E) := fun c h0 h1 h2 => by
                by_cases h3 : c = (j : Int)
                · subst h3; omega
                · exact HP.out c h0 (by omega) h2
              obtain ⟨sj, hsj⟩ : ∃ z, S (j : Int) = z := ⟨_, rfl⟩
              rw [hsj] at HEj hs
              have hs' : decide (E ≤ sj) = false := by simpa using hs
              clear hs
              go_wp2_with (first | (go_at_call 41; refine (HEj.out.on _ (by exact Jk.refl _)).mono ?_; rintro e w3 ⟨rfl, hj3⟩; have HJ3 := hid hj3; clear hj3))
              go_roundg r
              case measure => omega
              case rel => exact ⟨j + 1, by omega, by go_num, HN, hid (HJ.out.trans HJ3.out)⟩
    · have hf := hf3 rfl
      clear hf3 HC0
      have HB3 : Hid (b = true ↔ p f < t ∧ ((fa = true ∧ E < y) ∨ (fa = false ∧ y < E))) := HB2.out.trans (by simp)
      clear HB2
      rcases hf with rfl | rfl | rfl | rfl
      · simp only [Int.reduceEq, reduceIte] at HP0
        have h1 : b = true ↔ p0 < t ∧ ((fa = true ∧ E < y) ∨ (fa = false ∧ y < E)) := HB3.out.trans (by simp [e0])
        clear HB3 e0 e1 e2 e3
        by_cases ht : p0 < t
        · have ht' : ¬ t ≤ p0 := by omega
          have HJ3 : Hid (Jk w0 (w2.setCell ⟨w.heap.size + 1 + 1, 0, none⟩ (.int .i64 t))) ∨ True := .inr trivial
          have HPs : Hid (PtB (w2.setCell ⟨w.heap.size + 1 + 1, 0, none⟩ (.int .i64 t)) (w.heap.size + 1 + 1) t p1 p2 p3) := heap_setCell_same _ _ _ _ _ _ (HPt.out.jk HJ2.out)
          have HMs : Hid (MdB (w2.setCell ⟨w.heap.size + 1 + 1, 0, none⟩ (.int .i64 t)) w.heap.size ⟨d, (K : Int), b0, b1, b2, ma, mn, mc, ts⟩) := MdB.byQ (HM.out.jk HJ2.out) (grown_set _ _ _ _) (by omega)
          have HQs : Hid (QyB (w2.setCell ⟨w.heap.size + 1 + 1, 0, none⟩ (.int .i64 t)) (w.heap.size + 1) ⟨3, cl, ⟨⟨ra, rb⟩, ⟨rc, rd⟩, ⟨re, rf⟩, ⟨rg, rh⟩, ⟨ri, rj⟩⟩, lo, hi, 0, fa, bu⟩) := QyB.by (HQ.out.jk HJ2.out) (grown_set _ _ _ _) (by omega)
          have HJs : Hid (Jk w (w2.setCell ⟨w.heap.size + 1 + 1, 0, none⟩ (.int .i64 t))) := (HJ0.out.trans HJ2.out).set (by simp only; omega) _
          have HPe := hid (HP0.out.up HJs.out)
          clear HJ3
          go_upto_region 18 with fail
          generalize hwE : w2.setCell ⟨w.heap.size + 1 + 1, 0, none⟩ (.int .i64 t) = wE at HPs HMs HQs HJs HPe ⊢
          clear hwE m0 m1 m2 m3 m4 m5 m6 q0 q1 q2 q3 q4 q5 q6 q7 q8 q9 q10 q11 q12 q13 q14 q15 q16 ql pt0 pt1 pt2 pt3 pt4 ptf
          obtain ⟨m0, m1, m2, m3, m4, m5, m6⟩ := HMs.out.in
          obtain ⟨pt0, pt1, pt2, pt3, pt4⟩ := HPs.out.in
          obtain ⟨q0, q1, q2, q3, q4, q5, q6, q7, q8, q9, q10, q11, q12, q13, q14, q15, q16⟩ := HQs.out.in
          have ql := HQs.out.lt
          simp only at m1 m2 m3 m4 m5 m6 q0 q1 q2 q3 q4 q5 q6 q7 q8 q9 q10 q11 q12 q13 q14 q15 q16
          go_upto_region 19 with (first | (go_at_call 41; refine (HPe.out.on _ (by exact Jk.refl _)).mono ?_; rintro e w3 ⟨rfl, hj3⟩; have HJ3 := hid hj3; clear hj3))
          clear m0 m1 m2 m3 m4 m5 m6 q0 q1 q2 q3 q4 q5 q6 q7 q8 q9 q10 q11 q12 q13 q14 q15 q16 ql pt0 pt1 pt2 pt3 pt4
          obtain ⟨q0, q1, q2, q3, q4, q5, q6, q7, q8, q9, q10, q11, q12, q13, q14, q15, q16⟩ := (HQs.out.jk HJ3.out).in
          have ql := (HQs.out.jk HJ3.out).lt
          simp only at q0 q1 q2 q3 q4 q5 q6 q7 q8 q9 q10 q11 q12 q13 q14 q15 q16
          cases fa
          · have h5 : b = true ↔ y < E := h1.trans (by simp [ht])
            clear h1
            by_cases h6 : y < E
            · obtain rfl : true = b := (h5.2 h6).symm
              go_wp2
              go_ret
              exact ⟨by first | rfl | exact ret_bool (by simp [*]), HJs.out.trans HJ3.out⟩
            · obtain rfl : false = b := (Bool.eq_false_iff.2 fun e => h6 (h5.1 e)).symm
              go_wp2
              go_ret
              exact ⟨by first | rfl | exact ret_bool (by simp; omega), HJs.out.trans HJ3.out⟩
          · have h5 : b = true ↔ E < y := h1.trans (by simp [ht])
            clear h1
            by_cases h6 : E < y
            · obtain rfl : true = b := (h5.2 h6).symm
              go_wp2
              go_ret
              exact ⟨by first | rfl | exact ret_bool (by simp [*]), HJs.out.trans HJ3.out⟩
            · obtain rfl : false = b := (Bool.eq_false_iff.2 fun e => h6 (h5.1 e)).symm
              go_wp2
              go_ret
              exact ⟨by first | rfl | exact ret_bool (by simp; omega), HJs.out.trans HJ3.out⟩
        · obtain rfl : false = b := (Bool.eq_false_iff.2 fun e => ht (h1.1 e).1).symm
          clear h1
          go_wp2
          go_ret
          exact ⟨rfl, HJ0.out.trans HJ2.out⟩
      · simp only [Int.reduceEq, reduceIte] at HP0
        have h1 : b = true ↔ p1 < t ∧ ((fa = true ∧ E < y) ∨ (fa = false ∧ y < E)) := HB3.out.trans (by simp [e1])
        clear HB3 e0 e1 e2 e3
        by_cases ht : p1 < t
        · have ht' : ¬ t ≤ p1 := by omega
          have HJ3 : Hid (Jk w0 (w2.setCell ⟨w.heap.size + 1 + 1, 1, none⟩ (.int .i64 t))) ∨ True := .inr trivial
          have HPs : Hid (PtB (w2.setCell ⟨w.heap.size + 1 + 1, 1, none⟩ (.int .i64 t)) (w.heap.size + 1 + 1) p0 t p2 p3) := heap_setCell_same _ _ _ _ _ _ (HPt.out.jk HJ2.out)
          have HMs : Hid (MdB (w2.setCell ⟨w.heap.size + 1 + 1, 1, none⟩ (.int .i64 t)) w.heap.size ⟨d, (K : Int), b0, b1, b2, ma, mn, mc, ts⟩) := MdB.byQ (HM.out.jk HJ2.out) (grown_set _ _ _ _) (by omega)
          have HQs : Hid (QyB (w2.setCell ⟨w.heap.size + 1 + 1, 1, none⟩ (.int .i64 t)) (w.heap.size + 1) ⟨3, cl, ⟨⟨ra, rb⟩, ⟨rc, rd⟩, ⟨re, rf⟩, ⟨rg, rh⟩, ⟨ri, rj⟩⟩, lo, hi, 1, fa, bu⟩) := QyB.by (HQ.out.jk HJ2.out) (grown_set _ _ _ _) (by omega)
          have HJs : Hid (Jk w (w2.setCell ⟨w.heap.size + 1 + 1, 1, none⟩ (.int .i64 t))) := (HJ0.out.trans HJ2.out).set (by simp only; omega) _
          have HPe := hid (HP0.out.up HJs.out)
          clear HJ3
          go_upto_region 18 with fail
          generalize hwE : w2.setCell ⟨w.heap.size + 1 + 1, 1, none⟩ (.int .i64 t) = wE at HPs HMs HQs HJs HPe ⊢
          clear hwE m0 m1 m2 m3 m4 m5 m6 q0 q1 q2 q3 q4 q5 q6 q7 q8 q9 q10 q11 q12 q13 q14 q15 q16 ql pt0 pt1 pt2 pt3 pt4 ptf
          obtain ⟨m0, m1, m2, m3, m4, m5, m6⟩ := HMs.out.in
          obtain ⟨pt0, pt1, pt2, pt3, pt4⟩ := HPs.out.in
          obtain ⟨q0, q1, q2, q3, q4, q5, q6, q7, q8, q9, q10, q11, q12, q13, q14, q15, q16⟩ := HQs.out.in
          have ql := HQs.out.lt
          simp only at m1 m2 m3 m4 m5 m6 q0 q1 q2 q3 q4 q5 q6 q7 q8 q9 q10 q11 q12 q13 q14 q15 q16
          go_upto_region 19 with (first | (go_at_call 41; refine (HPe.out.on _ (by exact Jk.refl _)).mono ?_; rintro e w3 ⟨rfl, hj3⟩; have HJ3 := hid hj3; clear hj3))
          clear m0 m1 m2 m3 m4 m5 m6 q0 q1 q2 q3 q4 q5 q6 q7 q8 q9 q10 q11 q12 q13 q14 q15 q16 ql pt0 pt1 pt2 pt3 pt4
          obtain ⟨q0, q1, q2, q3, q4, q5, q6, q7, q8, q9, q10, q11, q12, q13, q14, q15, q16⟩ := (HQs.out.jk HJ3.out).in
          have ql := (HQs.out.jk HJ3.out).lt
          simp only at q0 q1 q2 q3 q4 q5 q6 q7 q8 q9 q10 q11 q12 q13 q14 q15 q16
          cases fa
          · have h5 : b = true ↔ y < E := h1.trans (by simp [ht])
            clear h1
            by_cases h6 : y < E
            · obtain rfl : true = b := (h5.2 h6).symm
              go_wp2
              go_ret
              exact ⟨by first | rfl | exact ret_bool (by simp [*]), HJs.out.trans HJ3.out⟩
            · obtain rfl : false = b := (Bool.eq_false_iff.2 fun e => h6 (h5.1 e)).symm
              go_wp2
              go_ret
              exact ⟨by first | rfl | exact ret_bool (by simp; omega), HJs.out.trans HJ3.out⟩
          · have h5 : b = true ↔ E < y := h1.trans (by simp [ht])
            clear h1
            by_cases h6 : E < y
            · obtain rfl : true = b := (h5.2 h6).symm
              go_wp2
              go_ret
              exact ⟨by first | rfl | exact ret_bool (by simp [*]), HJs.out.trans HJ3.out⟩
            · obtain rfl : false = b := (Bool.eq_false_iff.2 fun e => h6 (h5.1 e)).symm
              go_wp2
              go_ret
              exact ⟨by first | rfl | exact ret_bool (by simp; omega), HJs.out.trans HJ3.out⟩
        · obtain rfl : false = b := (Bool.eq_false_iff.2 fun e => ht (h1.1 e).1).symm
          clear h1
          go_wp2
          go_ret
          exact ⟨rfl, HJ0.out.trans HJ2.out⟩
      · simp only [Int.reduceEq, reduceIte] at HP0
        have h1 : b = true ↔ p2 < t ∧ ((fa = true ∧ E < y) ∨ (fa = false ∧ y < E)) := HB3.out.trans (by simp [e2])
        clear HB3 e0 e1 e2 e3
        by_cases ht : p2 < t
        · have ht' : ¬ t ≤ p2 := by omega
          have HJ3 : Hid (Jk w0 (w2.setCell ⟨w.heap.size + 1 + 1, 2, none⟩ (.int .i64 t))) ∨ True := .inr trivial
          have HPs : Hid (PtB (w2.setCell ⟨w.heap.size + 1 + 1, 2, none⟩ (.int .i64 t)) (w.heap.size + 1 + 1) p0 p1 t p3) := heap_setCell_same _ _ _ _ _ _ (HPt.out.jk HJ2.out)
          have HMs : Hid (MdB (w2.setCell ⟨w.heap.size + 1 + 1, 2, none⟩ (.int .i64 t)) w.heap.size ⟨d, (K : Int), b0, b1, b2, ma, mn, mc, ts⟩) := MdB.byQ (HM.out.jk HJ2.out) (grown_set _ _ _ _) (by omega)
          have HQs : Hid (QyB (w2.setCell ⟨w.heap.size + 1 + 1, 2, none⟩ (.int .i64 t)) (w.heap.size + 1) ⟨3, cl, ⟨⟨ra, rb⟩, ⟨rc, rd⟩, ⟨re, rf⟩, ⟨rg, rh⟩, ⟨ri, rj⟩⟩, lo, hi, 2, fa, bu⟩) := QyB.by (HQ.out.jk HJ2.out) (grown_set _ _ _ _) (by omega)
          have HJs : Hid (Jk w (w2.setCell ⟨w.heap.size + 1 + 1, 2, none⟩ (.int .i64 t))) := (HJ0.out.trans HJ2.out).set (by simp only; omega) _
          have HPe := hid (HP0.out.up HJs.out)
          clear HJ3
          go_upto_region 18 with fail
          generalize hwE : w2.setCell ⟨w.heap.size + 1 + 1, 2, none⟩ (.int .i64 t) = wE at HPs HMs HQs HJs HPe ⊢
          clear hwE m0 m1 m2 m3 m4 m5 m6 q0 q1 q2 q3 q4 q5 q6 q7 q8 q9 q10 q11 q12 q13 q14 q15 q16 ql pt0 pt1 pt2 pt3 pt4 ptf
          obtain ⟨m0, m1, m2, m3, m4, m5, m6⟩ := HMs.out.in
          obtain ⟨pt0, pt1, pt2, pt3, pt4⟩ := HPs.out.in
          obtain ⟨q0, q1, q2, q3, q4, q5, q6, q7, q8, q9, q10, q11, q12, q13, q14, q15, q16⟩ := HQs.out.in
          have ql := HQs.out.lt
          simp only at m1 m2 m3 m4 m5 m6 q0 q1 q2 q3 q4 q5 q6 q7 q8 q9 q10 q11 q12 q13 q14 q15 q16
          go_upto_region 19 with (first | (go_at_call 41; refine (HPe.out.on _ (by exact Jk.refl _)).mono ?_; rintro e w3 ⟨rfl, hj3⟩; have HJ3 := hid hj3; clear hj3))
          clear m0 m1 m2 m3 m4 m5 m6 q0 q1 q2 q3 q4 q5 q6 q7 q8 q9 q10 q11 q12 q13 q14 q15 q16 ql pt0 pt1 pt2 pt3 pt4
          obtain ⟨q0, q1, q2, q3, q4, q5, q6, q7, q8, q9, q10, q11, q12, q13, q14, q15, q16⟩ := (HQs.out.jk HJ3.out).in
          have ql := (HQs.out.jk HJ3.out).lt
          simp only at q0 q1 q2 q3 q4 q5 q6 q7 q8 q9 q10 q11 q12 q13 q14 q15 q16
          cases fa
          · have h5 : b = true ↔ y < E := h1.trans (by simp [ht])
            clear h1
            by_cases h6 : y < E
            · obtain rfl : true = b := (h5.2 h6).symm
              go_wp2
              go_ret
              exact ⟨by first | rfl | exact ret_bool (by simp [*]), HJs.out.trans HJ3.out⟩
            · obtain rfl : false = b := (Bool.eq_false_iff.2 fun e => h6 (h5.1 e)).symm
              go_wp2
              go_ret
              exact ⟨by first | rfl | exact ret_bool (by simp; omega), HJs.out.trans HJ3.out⟩
          · have h5 : b = true ↔ E < y := h1.trans (by simp [ht])
            clear h1
            by_cases h6 : E < y
            · obtain rfl : true = b := (h5.2 h6).symm
              go_wp2
              go_ret
              exact ⟨by first | rfl | exact ret_bool (by simp [*]), HJs.out.trans HJ3.out⟩
            · obtain rfl : false = b := (Bool.eq_false_iff.2 fun e => h6 (h5.1 e)).symm
              go_wp2
              go_ret
              exact ⟨by first | rfl | exact ret_bool (by simp; omega), HJs.out.trans HJ3.out⟩
        · obtain rfl : false = b := (Bool.eq_false_iff.2 fun e => ht (h1.1 e).1).symm
          clear h1
          go_wp2
          go_ret
          exact ⟨rfl, HJ0.out.trans HJ2.out⟩
      · simp only [Int.reduceEq, reduceIte] at HP0
        have h1 : b = true ↔ p3 < t ∧ ((fa = true ∧ E < y) ∨ (fa = false ∧ y < E)) := HB3.out.trans (by simp [e3])
        clear HB3 e0 e1 e2 e3
        by_cases ht : p3 < t
        · have ht' : ¬ t ≤ p3 := by omega
          have HJ3 : Hid (Jk w0 (w2.setCell ⟨w.heap.size + 1 + 1, 3, none⟩ (.int .i64 t))) ∨ True := .inr trivial
          have HPs : Hid (PtB (w2.setCell ⟨w.heap.size + 1 + 1, 3, none⟩ (.int .i64 t)) (w.heap.size + 1 + 1) p0 p1 p2 t) := heap_setCell_same _ _ _ _ _ _ (HPt.out.jk HJ2.out)
          have HMs : Hid (MdB (w2.setCell ⟨w.heap.size + 1 + 1, 3, none⟩ (.int .i64 t)) w.heap.size ⟨d, (K : Int), b0, b1, b2, ma, mn, mc, ts⟩) := MdB.byQ (HM.out.jk HJ2.out) (grown_set _ _ _ _) (by omega)
          have HQs : Hid (QyB (w2.setCell ⟨w.heap.size + 1 + 1, 3, none⟩ (.int .i64 t)) (w.heap.size + 1) ⟨3, cl, ⟨⟨ra, rb⟩, ⟨rc, rd⟩, ⟨re, rf⟩, ⟨rg, rh⟩, ⟨ri, rj⟩⟩, lo, hi, 3, fa, bu⟩) := QyB.by (HQ.out.jk HJ2.out) (grown_set _ _ _ _) (by omega)
          have HJs : Hid (Jk w (w2.setCell ⟨w.heap.size + 1 + 1, 3, none⟩ (.int .i64 t))) := (HJ0.out.trans HJ2.out).set (by simp only; omega) _
          have HPe := hid (HP0.out.up HJs.out)
          clear HJ3
          go_upto_region 18 with fail
          generalize hwE : w2.setCell ⟨w.heap.size + 1 + 1, 3, none⟩ (.int .i64 t) = wE at HPs HMs HQs HJs HPe ⊢
          clear hwE m0 m1 m2 m3 m4 m5 m6 q0 q1 q2 q3 q4 q5 q6 q7 q8 q9 q10 q11 q12 q13 q14 q15 q16 ql pt0 pt1 pt2 pt3 pt4 ptf
          obtain ⟨m0, m1, m2, m3, m4, m5, m6⟩ := HMs.out.in
          obtain ⟨pt0, pt1, pt2, pt3, pt4⟩ := HPs.out.in
          obtain ⟨q0, q1, q2, q3, q4, q5, q6, q7, q8, q9, q10, q11, q12, q13, q14, q15, q16⟩ := HQs.out.in
          have ql := HQs.out.lt
          simp only at m1 m2 m3 m4 m5 m6 q0 q1 q2 q3 q4 q5 q6 q7 q8 q9 q10 q11 q12 q13 q14 q15 q16
          go_upto_region 19 with (first | (go_at_call 41; refine (HPe.out.on _ (by exact Jk.refl _)).mono ?_; rintro e w3 ⟨rfl, hj3⟩; have HJ3 := hid hj3; clear hj3))
          clear m0 m1 m2 m3 m4 m5 m6 q0 q1 q2 q3 q4 q5 q6 q7 q8 q9 q10 q11 q12 q13 q14 q15 q16 ql pt0 pt1 pt2 pt3 pt4
          obtain ⟨q0, q1, q2, q3, q4, q5, q6, q7, q8, q9, q10, q11, q12, q13, q14, q15, q16⟩ := (HQs.out.jk HJ3.out).in
          have ql := (HQs.out.jk HJ3.out).lt
          simp only at q0 q1 q2 q3 q4 q5 q6 q7 q8 q9 q10 q11 q12 q13 q14 q15 q16
          cases fa
          · have h5 : b = true ↔ y < E := h1.trans (by simp [ht])
            clear h1
            by_cases h6 : y < E
            · obtain rfl : true = b := (h5.2 h6).symm
              go_wp2
              go_ret
              exact ⟨by first | rfl | exact ret_bool (by simp [*]), HJs.out.trans HJ3.out⟩
            · obtain rfl : false = b := (Bool.eq_false_iff.2 fun e => h6 (h5.1 e)).symm
              go_wp2
              go_ret
              exact ⟨by first | rfl | exact ret_bool (by simp; omega), HJs.out.trans HJ3.out⟩
          · have h5 : b = true ↔ E < y := h1.trans (by simp [ht])
            clear h1
            by_cases h6 : E < y
            · obtain rfl : true = b := (h5.2 h6).symm
              go_wp2
              go_ret
              exact ⟨by first | rfl | exact ret_bool (by simp [*]), HJs.out.trans HJ3.out⟩
            · obtain rfl : false = b := (Bool.eq_false_iff.2 fun e => h6 (h5.1 e)).symm
              go_wp2
              go_ret
              exact ⟨by first | rfl | exact ret_bool (by simp; omega), HJs.out.trans HJ3.out⟩
        · obtain rfl : false = b := (Bool.eq_false_iff.2 fun e => ht (h1.1 e).1).symm
          clear h1
          go_wp2
          go_ret
          exact ⟨rfl, HJ0.out.trans HJ2.out⟩

end Go.Proofs.YtkkbeobocbgmeaaGreat

namespace Go.Proofs.YtkkbeobocbgmeaaGreat
open Go.RowKit M

set_option maxRecDepth 100000 in
set_option maxHeartbeats 3200000 in
theorem rstart_0 (cl ra rb rc rd re rf rg rh ri rj lo hi bu : Int) (fa : Bool) (w : World) : Calls Tryz.prog 26 #[.agg #[.int .i64 3, .int .i64 cl, .int .i64 ra, .int .i64 rb, .int .i64 rc, .int .i64 rd, .int .i64 re, .int .i64 rf, .int .i64 rg, .int .i64 rh, .int .i64 ri, .int .i64 rj, .int .i64 lo, .int .i64 hi, .int .i64 0, .bool fa, .int .i64 bu]] w fun e w' => e = .returned (boxW ⟨⟨ra, rb⟩, ⟨rc, rd⟩, ⟨re, rf⟩, ⟨rg, rh⟩, ⟨ra, rb⟩⟩) ∧ Jk w w' := by
  have J := rules8
  obtain ⟨w0, hw0⟩ : ∃ w0, (w.alloc (.cells #[.int .i64 3, .int .i64 cl, .int .i64 ra, .int .i64 rb, .int .i64 rc, .int .i64 rd, .int .i64 re, .int .i64 rf, .int .i64 rg, .int .i64 rh, .int .i64 ri, .int .i64 rj, .int .i64 lo, .int .i64 hi, .int .i64 0, .bool fa, .int .i64 bu] 38)).alloc (.cells #[.int .i64 0, .int .i64 0, .int .i64 0, .int .i64 0, .int .i64 0, .int .i64 0, .int .i64 0, .int .i64 0, .int .i64 0, .int .i64 0] 36) = w0 := ⟨_, rfl⟩
  have hsz : w0.heap.size = w.heap.size + 1 + 1 := by rw [← hw0]; simp
  have HSz := hid hsz
  have HJ0 : Hid (Jk w w0) := hw0 ▸ ((Jk.refl w).alloc _).alloc _
  have HQ0 : QyB w0 w.heap.size ⟨3, cl, ⟨⟨ra, rb⟩, ⟨rc, rd⟩, ⟨re, rf⟩, ⟨rg, rh⟩, ⟨ri, rj⟩⟩, lo, hi, 0, fa, bu⟩ := by
    rw [← hw0]
    exact (QyB.laid w ⟨3, cl, ⟨⟨ra, rb⟩, ⟨rc, rd⟩, ⟨re, rf⟩, ⟨rg, rh⟩, ⟨ri, rj⟩⟩, lo, hi, 0, fa, bu⟩).jk ((Jk.refl _).alloc _)
  have hz0 : BxB w0 (w.heap.size + 1) Bx.nil := by
    rw [← hw0]
    have := BxB.laid (w.alloc (.cells #[.int .i64 3, .int .i64 cl, .int .i64 ra, .int .i64 rb, .int .i64 rc, .int .i64 rd, .int .i64 re, .int .i64 rf, .int .i64 rg, .int .i64 rh, .int .i64 ri, .int .i64 rj, .int .i64 lo, .int .i64 hi, .int .i64 0, .bool fa, .int .i64 bu] 38)) Bx.nil
    rwa [World.size_alloc] at this
  have HQ := hid HQ0
  have HZ := hid hz0
  obtain ⟨q0, q1, q2, q3, q4, q5, q6, q7, q8, q9, q10, q11, q12, q13, q14, q15, q16⟩ := HQ0.in
  have ql := HQ0.lt
  simp only at q0 q1 q2 q3 q4 q5 q6 q7 q8 q9 q10 q11 q12 q13 q14 q15 q16
  clear hz0 HQ0 hsz
  go_enter Tryz.func26, Tryz.ntmps26
  go_upto_region 1 with fail
  go_cut [3] (fun p wc => ∃ g, p = .pointer (some ⟨g, 0, none⟩) ∧ w0.heap.size ≤ g ∧ BxB wc g ⟨⟨ra, rb⟩, ⟨rc, rd⟩, ⟨re, rf⟩, ⟨rg, rh⟩, ⟨ri, rj⟩⟩ ∧ Jk w0 wc)
  case first =>
    go_wp2
    go_meet
    case rel => exact ⟨_, rfl, Nat.le_refl _, BxB.laid w0 ⟨⟨ra, rb⟩, ⟨rc, rd⟩, ⟨re, rf⟩, ⟨rg, rh⟩, ⟨ri, rj⟩⟩, (Jk.refl w0).alloc _⟩
  case rest =>
    obtain ⟨g, rfl, hg, hB, hj⟩ := hcut
    obtain ⟨w1, rfl⟩ : ∃ z, z = wc := ⟨_, rfl⟩
    obtain ⟨x0, x1, x2, x3, x4, x5, x6, x7, x8, x9⟩ := hB.in
    have xf := hB.frozen
    have xl := hB.lt
    have HB2 := hid (hB.putE Sp.nil)
    have HJ2 := hid ((hj.set (p := ⟨g, 8, none⟩) hg (.int .i64 0)).set (p := ⟨g, 9, none⟩) hg (.int .i64 0))
    simp only [Sp.nil] at HB2
    clear q0 q1 q2 q3 q4 q5 q6 q7 q8 q9 q10 q11 q12 q13 q14 q15 q16
    go_upto_region 3 with fail
    generalize hwE : (w1.setCell ⟨g, 8, none⟩ (.int .i64 0)).setCell ⟨g, 9, none⟩ (.int .i64 0) = w2 at HB2 HJ2 ⊢
    clear hwE x0 x1 x2 x3 x4 x5 x6 x7 x8 x9 xf xl hB hj
    have HB3 := HB2
    have HJ4 := HJ2
    clear HB2 HJ2
    obtain ⟨q0, q1, q2, q3, q4, q5, q6, q7, q8, q9, q10, q11, q12, q13, q14, q15, q16⟩ := (HQ.out.jk HJ4.out).in
    simp only at q0 q1 q2 q3 q4 q5 q6 q7 q8 q9 q10 q11 q12 q13 q14 q15 q16
    go_upto_region 4 with fail
    obtain ⟨x0, x1, x2, x3, x4, x5, x6, x7, x8, x9⟩ := HB3.out.in
    have xf := HB3.out.frozen
    have xl := HB3.out.lt
    have HB5 := hid (HB3.out.putE ⟨ra, rb⟩)
    have HJ5 := hid ((HJ4.out.set (p := ⟨g, 8, none⟩) hg (.int .i64 ra)).set (p := ⟨g, 9, none⟩) hg (.int .i64 rb))
    simp only at HB5
    go_upto_region 5 with fail
    generalize hwE : (w2.setCell ⟨g, 8, none⟩ (.int .i64 ra)).setCell ⟨g, 9, none⟩ (.int .i64 rb) = w3 at HB5 HJ5 ⊢
    clear hwE x0 x1 x2 x3 x4 x5 x6 x7 x8 x9 xf xl q0 q1 q2 q3 q4 q5 q6 q7 q8 q9 q10 q11 q12 q13 q14 q15 q16
    refine wp_region_lit ?_
    refine list_loadX rfl _ rfl HB5.out rfl ?_
    refine list_storeX rfl _ _ rfl (HZ.out.jk HJ5.out) rfl ⟨⟨ra, rb⟩, ⟨rc, rd⟩, ⟨re, rf⟩, ⟨rg, rh⟩, ⟨ra, rb⟩⟩ rfl fun w9 hq9 hg9 => ?_
    have HJ9 := hid ((HJ0.out.trans HJ5.out).grown hg9 (fun k hk => by cases hk; exact Nat.le_succ _))
    go_wp2
    exact bodyPost_ret (results_cell Tryz.results26 rfl (load_X hq9)) rfl ⟨rfl, HJ9.out⟩

set_option maxRecDepth 100000 in
set_option maxHeartbeats 3200000 in
theorem rstart_1 (cl ra rb rc rd re rf rg rh ri rj lo hi bu : Int) (fa : Bool) (w : World) : Calls Tryz.prog 26 #[.agg #[.int .i64 3, .int .i64 cl, .int .i64 ra, .int .i64 rb, .int .i64 rc, .int .i64 rd, .int .i64 re, .int .i64 rf, .int .i64 rg, .int .i64 rh, .int .i64 ri, .int .i64 rj, .int .i64 lo, .int .i64 hi, .int .i64 1, .bool fa, .int .i64 bu]] w fun e w' => e = .returned (boxW ⟨⟨ra, rb⟩, ⟨rc, rd⟩, ⟨re, rf⟩, ⟨rg, rh⟩, ⟨rc, rd⟩⟩) ∧ Jk w w' := by
  have J := rules8
  obtain ⟨w0, hw0⟩ : ∃ w0, (w.alloc (.cells #[.int .i64 3, .int .i64 cl, .int .i64 ra, .int .i64 rb, .int .i64 rc, .int .i64 rd, .int .i64 re, .int .i64 rf, .int .i64 rg, .int .i64 rh, .int .i64 ri, .int .i64 rj, .int .i64 lo, .int .i64 hi, .int .i64 1, .bool fa, .int .i64 bu] 38)).alloc (.cells #[.int .i64 0, .int .i64 0, .int .i64 0, .int .i64 0, .int .i64 0, .int .i64 0, .int .i64 0, .int .i64 0, .int .i64 0, .int .i64 0] 36) = w0 := ⟨_, rfl⟩
  have hsz : w0.heap.size = w.heap.size + 1 + 1 := by rw [← hw0]; simp
  have HSz := hid hsz
  have HJ0 : Hid (Jk w w0) := hw0 ▸ ((Jk.refl w).alloc _).alloc _
  have HQ0 : QyB w0 w.heap.size ⟨3, cl, ⟨⟨ra, rb⟩, ⟨rc, rd⟩, ⟨re, rf⟩, ⟨rg, rh⟩, ⟨ri, rj⟩⟩, lo, hi, 1, fa, bu⟩ := by
    rw [← hw0]
    exact (QyB.laid w ⟨3, cl, ⟨⟨ra, rb⟩, ⟨rc, rd⟩, ⟨re, rf⟩, ⟨rg, rh⟩, ⟨ri, rj⟩⟩, lo, hi, 1, fa, bu⟩).jk ((Jk.refl _).alloc _)
  have hz0 : BxB w0 (w.heap.size + 1) Bx.nil := by
    rw [← hw0]
    have := BxB.laid (w.alloc (.cells #[.int .i64 3, .int .i64 cl, .int .i64 ra, .int .i64 rb, .int .i64 rc, .int .i64 rd, .int .i64 re, .int .i64 rf, .int .i64 rg, .int .i64 rh, .int .i64 ri, .int .i64 rj, .int .i64 lo, .int .i64 hi, .int .i64 1, .bool fa, .int .i64 bu] 38)) Bx.nil
    rwa [World.size_alloc] at this
  have HQ := hid HQ0
  have HZ := hid hz0
  obtain ⟨q0, q1, q2, q3, q4, q5, q6, q7, q8, q9, q10, q11, q12, q13, q14, q15, q16⟩ := HQ0.in
  have ql := HQ0.lt
  simp only at q0 q1 q2 q3 q4 q5 q6 q7 q8 q9 q10 q11 q12 q13 q14 q15 q16
  clear hz0 HQ0 hsz
  go_enter Tryz.func26, Tryz.ntmps26
  go_upto_region 1 with fail
  go_cut [3] (fun p wc => ∃ g, p = .pointer (some ⟨g, 0, none⟩) ∧ w0.heap.size ≤ g ∧ BxB wc g ⟨⟨ra, rb⟩, ⟨rc, rd⟩, ⟨re, rf⟩, ⟨rg, rh⟩, ⟨ri, rj⟩⟩ ∧ Jk w0 wc)
  case first =>
    go_wp2
    go_meet
    case rel => exact ⟨_, rfl, Nat.le_refl _, BxB.laid w0 ⟨⟨ra, rb⟩, ⟨rc, rd⟩, ⟨re, rf⟩, ⟨rg, rh⟩, ⟨ri, rj⟩⟩, (Jk.refl w0).alloc _⟩
  case rest =>
    obtain ⟨g, rfl, hg, hB, hj⟩ := hcut
    obtain ⟨w1, rfl⟩ : ∃ z, z = wc := ⟨_, rfl⟩
    obtain ⟨x0, x1, x2, x3, x4, x5, x6, x7, x8, x9⟩ := hB.in
    have xf := hB.frozen
    have xl := hB.lt
    have HB2 := hid (hB.putE Sp.nil)
    have HJ2 := hid ((hj.set (p := ⟨g, 8, none⟩) hg (.int .i64 0)).set (p := ⟨g, 9, none⟩) hg (.int .i64 0))
    simp only [Sp.nil] at HB2
    clear q0 q1 q2 q3 q4 q5 q6 q7 q8 q9 q10 q11 q12 q13 q14 q15 q16
    go_upto_region 3 with fail
    generalize hwE : (w1.setCell ⟨g, 8, none⟩ (.int .i64 0)).setCell ⟨g, 9, none⟩ (.int .i64 0) = w2 at HB2 HJ2 ⊢
    clear hwE x0 x1 x2 x3 x4 x5 x6 x7 x8 x9 xf xl hB hj
    have HB3 := HB2
    have HJ4 := HJ2
    clear HB2 HJ2
    obtain ⟨q0, q1, q2, q3, q4, q5, q6, q7, q8, q9, q10, q11, q12, q13, q14, q15, q16⟩ := (HQ.out.jk HJ4.out).in
    simp only at q0 q1 q2 q3 q4 q5 q6 q7 q8 q9 q10 q11 q12 q13 q14 q15 q16
    go_upto_region 4 with fail
    obtain ⟨x0, x1, x2, x3, x4, x5, x6, x7, x8, x9⟩ := HB3.out.in
    have xf := HB3.out.frozen
    have xl := HB3.out.lt
    have HB5 := hid (HB3.out.putE ⟨rc, rd⟩)
    have HJ5 := hid ((HJ4.out.set (p := ⟨g, 8, none⟩) hg (.int .i64 rc)).set (p := ⟨g, 9, none⟩) hg (.int .i64 rd))
    simp only at HB5
    go_upto_region 5 with fail
    generalize hwE : (w2.setCell ⟨g, 8, none⟩ (.int .i64 rc)).setCell ⟨g, 9, none⟩ (.int .i64 rd) = w3 at HB5 HJ5 ⊢
    clear hwE x0 x1 x2 x3 x4 x5 x6 x7 x8 x9 xf xl q0 q1 q2 q3 q4 q5 q6 q7 q8 q9 q10 q11 q12 q13 q14 q15 q16
    refine wp_region_lit ?_
    refine list_loadX rfl _ rfl HB5.out rfl ?_
    refine list_storeX rfl _ _ rfl (HZ.out.jk HJ5.out) rfl ⟨⟨ra, rb⟩, ⟨rc, rd⟩, ⟨re, rf⟩, ⟨rg, rh⟩, ⟨rc, rd⟩⟩ rfl fun w9 hq9 hg9 => ?_
    have HJ9 := hid ((HJ0.out.trans HJ5.out).grown hg9 (fun k hk => by cases hk; exact Nat.le_succ _))
    go_wp2
    exact bodyPost_ret (results_cell Tryz.results26 rfl (load_X hq9)) rfl ⟨rfl, HJ9.out⟩

set_option maxRecDepth 100000 in
set_option maxHeartbeats 3200000 in
theorem rstart_2 (cl ra rb rc rd re rf rg rh ri rj lo hi bu : Int) (fa : Bool) (w : World) : Calls Tryz.prog 26 #[.agg #[.int .i64 3, .int .i64 cl, .int .i64 ra, .int .i64 rb, .int .i64 rc, .int .i64 rd, .int .i64 re, .int .i64 rf, .int .i64 rg, .int .i64 rh, .int .i64 ri, .int .i64 rj, .int .i64 lo, .int .i64 hi, .int .i64 2, .bool fa, .int .i64 bu]] w fun e w' => e = .returned (boxW ⟨⟨ra, rb⟩, ⟨rc, rd⟩, ⟨re, rf⟩, ⟨rg, rh⟩, ⟨re, rf⟩⟩) ∧ Jk w w' := by
  have J := rules8
  obtain ⟨w0, hw0⟩ : ∃ w0, (w.alloc (.cells #[.int .i64 3, .int .i64 cl, .int .i64 ra, .int .i64 rb, .int .i64 rc, .int .i64 rd, .int .i64 re, .int .i64 rf, .int .i64 rg, .int .i64 rh, .int .i64 ri, .int .i64 rj, .int .i64 lo, .int .i64 hi, .int .i64 2, .bool fa, .int .i64 bu] 38)).alloc (.cells #[.int .i64 0, .int .i64 0, .int .i64 0, .int .i64 0, .int .i64 0, .int .i64 0, .int .i64 0, .int .i64 0, .int .i64 0, .int .i64 0] 36) = w0 := ⟨_, rfl⟩
  have hsz : w0.heap.size = w.heap.size + 1 + 1 := by rw [← hw0]; simp
  have HSz := hid hsz
  have HJ0 : Hid (Jk w w0) := hw0 ▸ ((Jk.refl w).alloc _).alloc _
  have HQ0 : QyB w0 w.heap.size ⟨3, cl, ⟨⟨ra, rb⟩, ⟨rc, rd⟩, ⟨re, rf⟩, ⟨rg, rh⟩, ⟨ri, rj⟩⟩, lo, hi, 2, fa, bu⟩ := by
    rw [← hw0]
    exact (QyB.laid w ⟨3, cl, ⟨⟨ra, rb⟩, ⟨rc, rd⟩, ⟨re, rf⟩, ⟨rg, rh⟩, ⟨ri, rj⟩⟩, lo, hi, 2, fa, bu⟩).jk ((Jk.refl _).alloc _)
  have hz0 : BxB w0 (w.heap.size + 1) Bx.nil := by
    rw [← hw0]
    have := BxB.laid (w.alloc (.cells #[.int .i64 3, .int .i64 cl, .int .i64 ra, .int .i64 rb, .int .i64 rc, .int .i64 rd, .int .i64 re, .int .i64 rf, .int .i64 rg, .int .i64 rh, .int .i64 ri, .int .i64 rj, .int .i64 lo, .int .i64 hi, .int .i64 2, .bool fa, .int .i64 bu] 38)) Bx.nil
    rwa [World.size_alloc] at this
  have HQ := hid HQ0
  have HZ := hid hz0
  obtain ⟨q0, q1, q2, q3, q4, q5, q6, q7, q8, q9, q10, q11, q12, q13, q14, q15, q16⟩ := HQ0.in
  have ql := HQ0.lt
  simp only at q0 q1 q2 q3 q4 q5 q6 q7 q8 q9 q10 q11 q12 q13 q14 q15 q16
  clear hz0 HQ0 hsz
  go_enter Tryz.func26, Tryz.ntmps26
  go_upto_region 1 with fail
  go_cut [3] (fun p wc => ∃ g, p = .pointer (some ⟨g, 0, none⟩) ∧ w0.heap.size ≤ g ∧ BxB wc g ⟨⟨ra, rb⟩, ⟨rc, rd⟩, ⟨re, rf⟩, ⟨rg, rh⟩, ⟨ri, rj⟩⟩ ∧ Jk w0 wc)
  case first =>
    go_wp2
    go_meet
    case rel => exact ⟨_, rfl, Nat.le_refl _, BxB.laid w0 ⟨⟨ra, rb⟩, ⟨rc, rd⟩, ⟨re, rf⟩, ⟨rg, rh⟩, ⟨ri, rj⟩⟩, (Jk.refl w0).alloc _⟩
  case rest =>
    obtain ⟨g, rfl, hg, hB, hj⟩ := hcut
    obtain ⟨w1, rfl⟩ : ∃ z, z = wc := ⟨_, rfl⟩
    obtain ⟨x0, x1, x2, x3, x4, x5, x6, x7, x8, x9⟩ := hB.in
    have xf := hB.frozen
    have xl := hB.lt
    have HB2 := hid (hB.putE Sp.nil)
    have HJ2 := hid ((hj.set (p := ⟨g, 8, none⟩) hg (.int .i64 0)).set (p := ⟨g, 9, none⟩) hg (.int .i64 0))
    simp only [Sp.nil] at HB2
    clear q0 q1 q2 q3 q4 q5 q6 q7 q8 q9 q10 q11 q12 q13 q14 q15 q16
    go_upto_region 3 with fail
    generalize hwE : (w1.setCell ⟨g, 8, none⟩ (.int .i64 0)).setCell ⟨g, 9, none⟩ (.int .i64 0) = w2 at HB2 HJ2 ⊢
    clear hwE x0 x1 x2 x3 x4 x5 x6 x7 x8 x9 xf xl hB hj
    have HB3 := HB2
    have HJ4 := HJ2
    clear HB2 HJ2
    obtain ⟨q0, q1, q2, q3, q4, q5, q6, q7, q8, q9, q10, q11, q12, q13, q14, q15, q16⟩ := (HQ.out.jk HJ4.out).in
    simp only at q0 q1 q2 q3 q4 q5 q6 q7 q8 q9 q10 q11 q12 q13 q14 q15 q16
    go_upto_region 4 with fail
    obtain ⟨x0, x1, x2, x3, x4, x5, x6, x7, x8, x9⟩ := HB3.out.in
    have xf := HB3.out.frozen
    have xl := HB3.out.lt
    have HB5 := hid (HB3.out.putE ⟨re, rf⟩)
    have HJ5 := hid ((HJ4.out.set (p := ⟨g, 8, none⟩) hg (.int .i64 re)).set (p := ⟨g, 9, none⟩) hg (.int .i64 rf))
    simp only at HB5
    go_upto_region 5 with fail
    generalize hwE : (w2.setCell ⟨g, 8, none⟩ (.int .i64 re)).setCell ⟨g, 9, none⟩ (.int .i64 rf) = w3 at HB5 HJ5 ⊢
    clear hwE x0 x1 x2 x3 x4 x5 x6 x7 x8 x9 xf xl q0 q1 q2 q3 q4 q5 q6 q7 q8 q9 q10 q11 q12 q13 q14 q15 q16
    refine wp_region_lit ?_
    refine list_loadX rfl _ rfl HB5.out rfl ?_
    refine list_storeX rfl _ _ rfl (HZ.out.jk HJ5.out) rfl ⟨⟨ra, rb⟩, ⟨rc, rd⟩, ⟨re, rf⟩, ⟨rg, rh⟩, ⟨re, rf⟩⟩ rfl fun w9 hq9 hg9 => ?_
    have HJ9 := hid ((HJ0.out.trans HJ5.out).grown hg9 (fun k hk => by cases hk; exact Nat.le_succ _))
    go_wp2
    exact bodyPost_ret (results_cell Tryz.results26 rfl (load_X hq9)) rfl ⟨rfl, HJ9.out⟩

set_option maxRecDepth 100000 in
set_option maxHeartbeats 3200000 in
theorem rstart_3 (cl ra rb rc rd re rf rg rh ri rj lo hi bu : Int) (fa : Bool) (w : World) : Calls Tryz.prog 26 #[.agg #[.int .i64 3, .int .i64 cl, .int .i64 ra, .int .i64 rb, .int .i64 rc, .int .i64 rd, .int .i64 re, .int .i64 rf, .int .i64 rg, .int .i64 rh, .int .i64 ri, .int .i64 rj, .int .i64 lo, .int .i64 hi, .int .i64 3, .bool fa, .int .i64 bu]] w fun e w' => e = .returned (boxW ⟨⟨ra, rb⟩, ⟨rc, rd⟩, ⟨re, rf⟩, ⟨rg, rh⟩, ⟨rg, rh⟩⟩) ∧ Jk w w' := by
  have J := rules8
  obtain ⟨w0, hw0⟩ : ∃ w0, (w.alloc (.cells #[.int .i64 3, .int .i64 cl, .int .i64 ra, .int .i64 rb, .int .i64 rc, .int .i64 rd, .int .i64 re, .int .i64 rf, .int .i64 rg, .int .i64 rh, .int .i64 ri, .int .i64 rj, .int .i64 lo, .int .i64 hi, .int .i64 3, .bool fa, .int .i64 bu] 38)).alloc (.cells #[.int .i64 0, .int .i64 0, .int .i64 0, .int .i64 0, .int .i64 0, .int .i64 0, .int .i64 0, .int .i64 0, .int .i64 0, .int .i64 0] 36) = w0 := ⟨_, rfl⟩
  have hsz : w0.heap.size = w.heap.size + 1 + 1 := by rw [← hw0]; simp
  have HSz := hid hsz
  have HJ0 : Hid (Jk w w0) := hw0 ▸ ((Jk.refl w).alloc _).alloc _
  have HQ0 : QyB w0 w.heap.size ⟨3, cl, ⟨⟨ra, rb⟩, ⟨rc, rd⟩, ⟨re, rf⟩, ⟨rg, rh⟩, ⟨ri, rj⟩⟩, lo, hi, 3, fa, bu⟩ := by
    rw [← hw0]
    exact (QyB.laid w ⟨3, cl, ⟨⟨ra, rb⟩, ⟨rc, rd⟩, ⟨re, rf⟩, ⟨rg, rh⟩, ⟨ri, rj⟩⟩, lo, hi, 3, fa, bu⟩).jk ((Jk.refl _).alloc _)
  have hz0 : BxB w0 (w.heap.size + 1) Bx.nil := by
    rw [← hw0]
    have := BxB.laid (w.alloc (.cells #[.int .i64 3, .int .i64 cl, .int .i64 ra, .int .i64 rb, .int .i64 rc, .int .i64 rd, .int .i64 re, .int .i64 rf, .int .i64 rg, .int .i64 rh, .int .i64 ri, .int .i64 rj, .int .i64 lo, .int .i64 hi, .int .i64 3, .bool fa, .int .i64 bu] 38)) Bx.nil
    rwa [World.size_alloc] at this
  have HQ := hid HQ0
  have HZ := hid hz0
  obtain ⟨q0, q1, q2, q3, q4, q5, q6, q7, q8, q9, q10, q11, q12, q13, q14, q15, q16⟩ := HQ0.in
  have ql := HQ0.lt
  simp only at q0 q1 q2 q3 q4 q5 q6 q7 q8 q9 q10 q11 q12 q13 q14 q15 q16
  clear hz0 HQ0 hsz
  go_enter Tryz.func26, Tryz.ntmps26
  go_upto_region 1 with fail
  go_cut [3] (fun p wc => ∃ g, p = .pointer (some ⟨g, 0, none⟩) ∧ w0.heap.size ≤ g ∧ BxB wc g ⟨⟨ra, rb⟩, ⟨rc, rd⟩, ⟨re, rf⟩, ⟨rg, rh⟩, ⟨ri, rj⟩⟩ ∧ Jk w0 wc)
  case first =>
    go_wp2
    go_meet
    case rel => exact ⟨_, rfl, Nat.le_refl _, BxB.laid w0 ⟨⟨ra, rb⟩, ⟨rc, rd⟩, ⟨re, rf⟩, ⟨rg, rh⟩, ⟨ri, rj⟩⟩, (Jk.refl w0).alloc _⟩
  case rest =>
    obtain ⟨g, rfl, hg, hB, hj⟩ := hcut
    obtain ⟨w1, rfl⟩ : ∃ z, z = wc := ⟨_, rfl⟩
    obtain ⟨x0, x1, x2, x3, x4, x5, x6, x7, x8, x9⟩ := hB.in
    have xf := hB.frozen
    have xl := hB.lt
    have HB2 := hid (hB.putE Sp.nil)
    have HJ2 := hid ((hj.set (p := ⟨g, 8, none⟩) hg (.int .i64 0)).set (p := ⟨g, 9, none⟩) hg (.int .i64 0))
    simp only [Sp.nil] at HB2
    clear q0 q1 q2 q3 q4 q5 q6 q7 q8 q9 q10 q11 q12 q13 q14 q15 q16
    go_upto_region 3 with fail
    generalize hwE : (w1.setCell ⟨g, 8, none⟩ (.int .i64 0)).setCell ⟨g, 9, none⟩ (.int .i64 0) = w2 at HB2 HJ2 ⊢
    clear hwE x0 x1 x2 x3 x4 x5 x6 x7 x8 x9 xf xl hB hj
    have HB3 := HB2
    have HJ4 := HJ2
    clear HB2 HJ2
    obtain ⟨q0, q1, q2, q3, q4, q5, q6, q7, q8, q9, q10, q11, q12, q13, q14, q15, q16⟩ := (HQ.out.jk HJ4.out).in
    simp only at q0 q1 q2 q3 q4 q5 q6 q7 q8 q9 q10 q11 q12 q13 q14 q15 q16
    go_upto_region 4 with fail
    obtain ⟨x0, x1, x2, x3, x4, x5, x6, x7, x8, x9⟩ := HB3.out.in
    have xf := HB3.out.frozen
    have xl := HB3.out.lt
    have HB5 := hid (HB3.out.putE ⟨rg, rh⟩)
    have HJ5 := hid ((HJ4.out.set (p := ⟨g, 8, none⟩) hg (.int .i64 rg)).set (p := ⟨g, 9, none⟩) hg (.int .i64 rh))
    simp only at HB5
    go_upto_region 5 with fail
    generalize hwE : (w2.setCell ⟨g, 8, none⟩ (.int .i64 rg)).setCell ⟨g, 9, none⟩ (.int .i64 rh) = w3 at HB5 HJ5 ⊢
    clear hwE x0 x1 x2 x3 x4 x5 x6 x7 x8 x9 xf xl q0 q1 q2 q3 q4 q5 q6 q7 q8 q9 q10 q11 q12 q13 q14 q15 q16
    refine wp_region_lit ?_
    refine list_loadX rfl _ rfl HB5.out rfl ?_
    refine list_storeX rfl _ _ rfl (HZ.out.jk HJ5.out) rfl ⟨⟨ra, rb⟩, ⟨rc, rd⟩, ⟨re, rf⟩, ⟨rg, rh⟩, ⟨rg, rh⟩⟩ rfl fun w9 hq9 hg9 => ?_
    have HJ9 := hid ((HJ0.out.trans HJ5.out).grown hg9 (fun k hk => by cases hk; exact Nat.le_succ _))
    go_wp2
    exact bodyPost_ret (results_cell Tryz.results26 rfl (load_X hq9)) rfl ⟨rfl, HJ9.out⟩

set_option maxRecDepth 100000 in
set_option maxHeartbeats 3200000 in
theorem rstart_kd (kd f cl ra rb rc rd re rf rg rh ri rj lo hi bu : Int) (fa : Bool) (w : World) (hn1 : ¬ kd = 3) : Calls Tryz.prog 26 #[.agg #[.int .i64 kd, .int .i64 cl, .int .i64 ra, .int .i64 rb, .int .i64 rc, .int .i64 rd, .int .i64 re, .int .i64 rf, .int .i64 rg, .int .i64 rh, .int .i64 ri, .int .i64 rj, .int .i64 lo, .int .i64 hi, .int .i64 f, .bool fa, .int .i64 bu]] w fun e w' => e = .returned (boxW ⟨⟨ra, rb⟩, ⟨rc, rd⟩, ⟨re, rf⟩, ⟨rg, rh⟩, ⟨0, 0⟩⟩) ∧ Jk w w' := by
  have J := rules8
  obtain ⟨w0, hw0⟩ : ∃ w0, (w.alloc (.cells #[.int .i64 kd, .int .i64 cl, .int .i64 ra, .int .i64 rb, .int .i64 rc, .int .i64 rd, .int .i64 re, .int .i64 rf, .int .i64 rg, .int .i64 rh, .int .i64 ri, .int .i64 rj, .int .i64 lo, .int .i64 hi, .int .i64 f, .bool fa, .int .i64 bu] 38)).alloc (.cells #[.int .i64 0, .int .i64 0, .int .i64 0, .int .i64 0, .int .i64 0, .int .i64 0, .int .i64 0, .int .i64 0, .int .i64 0, .int .i64 0] 36) = w0 := ⟨_, rfl⟩
  have hsz : w0.heap.size = w.heap.size + 1 + 1 := by rw [← hw0]; simp
  have HSz := hid hsz
  have HJ0 : Hid (Jk w w0) := hw0 ▸ ((Jk.refl w).alloc _).alloc _
  have HQ0 : QyB w0 w.heap.size ⟨kd, cl, ⟨⟨ra, rb⟩, ⟨rc, rd⟩, ⟨re, rf⟩, ⟨rg, rh⟩, ⟨ri, rj⟩⟩, lo, hi, f, fa, bu⟩ := by
    rw [← hw0]
    exact (QyB.laid w ⟨kd, cl, ⟨⟨ra, rb⟩, ⟨rc, rd⟩, ⟨re, rf⟩, ⟨rg, rh⟩, ⟨ri, rj⟩⟩, lo, hi, f, fa, bu⟩).jk ((Jk.refl _).alloc _)
  have hz0 : BxB w0 (w.heap.size + 1) Bx.nil := by
    rw [← hw0]
    have := BxB.laid (w.alloc (.cells #[.int .i64 kd, .int .i64 cl, .int .i64 ra, .int .i64 rb, .int .i64 rc, .int .i64 rd, .int .i64 re, .int .i64 rf, .int .i64 rg, .int .i64 rh, .int .i64 ri, .int .i64 rj, .int .i64 lo, .int .i64 hi, .int .i64 f, .bool fa, .int .i64 bu] 38)) Bx.nil
    rwa [World.size_alloc] at this
  have HQ := hid HQ0
  have HZ := hid hz0
  obtain ⟨q0, q1, q2, q3, q4, q5, q6, q7, q8, q9, q10, q11, q12, q13, q14, q15, q16⟩ := HQ0.in
  have ql := HQ0.lt
  simp only at q0 q1 q2 q3 q4 q5 q6 q7 q8 q9 q10 q11 q12 q13 q14 q15 q16
  clear hz0 HQ0 hsz
  go_enter Tryz.func26, Tryz.ntmps26
  go_upto_region 1 with fail
  go_cut [3] (fun p wc => ∃ g, p = .pointer (some ⟨g, 0, none⟩) ∧ w0.heap.size ≤ g ∧ BxB wc g ⟨⟨ra, rb⟩, ⟨rc, rd⟩, ⟨re, rf⟩, ⟨rg, rh⟩, ⟨ri, rj⟩⟩ ∧ Jk w0 wc)
  case first =>
    go_wp2
    go_meet
    case rel => exact ⟨_, rfl, Nat.le_refl _, BxB.laid w0 ⟨⟨ra, rb⟩, ⟨rc, rd⟩, ⟨re, rf⟩, ⟨rg, rh⟩, ⟨ri, rj⟩⟩, (Jk.refl w0).alloc _⟩
  case rest =>
    obtain ⟨g, rfl, hg, hB, hj⟩ := hcut
    obtain ⟨w1, rfl⟩ : ∃ z, z = wc := ⟨_, rfl⟩
    obtain ⟨x0, x1, x2, x3, x4, x5, x6, x7, x8, x9⟩ := hB.in
    have xf := hB.frozen
    have xl := hB.lt
    have HB2 := hid (hB.putE Sp.nil)
    have HJ2 := hid ((hj.set (p := ⟨g, 8, none⟩) hg (.int .i64 0)).set (p := ⟨g, 9, none⟩) hg (.int .i64 0))
    simp only [Sp.nil] at HB2
    clear q0 q1 q2 q3 q4 q5 q6 q7 q8 q9 q10 q11 q12 q13 q14 q15 q16
    go_upto_region 3 with fail
    generalize hwE : (w1.setCell ⟨g, 8, none⟩ (.int .i64 0)).setCell ⟨g, 9, none⟩ (.int .i64 0) = w2 at HB2 HJ2 ⊢
    clear hwE x0 x1 x2 x3 x4 x5 x6 x7 x8 x9 xf xl hB hj
    have HB3 := HB2
    have HJ4 := HJ2
    clear HB2 HJ2
    obtain ⟨q0, q1, q2, q3, q4, q5, q6, q7, q8, q9, q10, q11, q12, q13, q14, q15, q16⟩ := (HQ.out.jk HJ4.out).in
    simp only at q0 q1 q2 q3 q4 q5 q6 q7 q8 q9 q10 q11 q12 q13 q14 q15 q16
    go_upto_region 5 with fail
    have HB5 := HB3
    have HJ5 := HJ4
    refine wp_region_lit ?_
    refine list_loadX rfl _ rfl HB5.out rfl ?_
    refine list_storeX rfl _ _ rfl (HZ.out.jk HJ5.out) rfl ⟨⟨ra, rb⟩, ⟨rc, rd⟩, ⟨re, rf⟩, ⟨rg, rh⟩, ⟨0, 0⟩⟩ rfl fun w9 hq9 hg9 => ?_
    have HJ9 := hid ((HJ0.out.trans HJ5.out).grown hg9 (fun k hk => by cases hk; exact Nat.le_succ _))
    go_wp2
    exact bodyPost_ret (results_cell Tryz.results26 rfl (load_X hq9)) rfl ⟨rfl, HJ9.out⟩

set_option maxRecDepth 100000 in
set_option maxHeartbeats 3200000 in
theorem rstart_lo (f cl ra rb rc rd re rf rg rh ri rj lo hi bu : Int) (fa : Bool) (w : World) (hn1 : ¬ 0 ≤ f) : Calls Tryz.prog 26 #[.agg #[.int .i64 3, .int .i64 cl, .int .i64 ra, .int .i64 rb, .int .i64 rc, .int .i64 rd, .int .i64 re, .int .i64 rf, .int .i64 rg, .int .i64 rh, .int .i64 ri, .int .i64 rj, .int .i64 lo, .int .i64 hi, .int .i64 f, .bool fa, .int .i64 bu]] w fun e w' => e = .returned (boxW ⟨⟨ra, rb⟩, ⟨rc, rd⟩, ⟨re, rf⟩, ⟨rg, rh⟩, ⟨0, 0⟩⟩) ∧ Jk w w' := by
  have J := rules8
  obtain ⟨w0, hw0⟩ : ∃ w0, (w.alloc (.cells #[.int .i64 3, .int .i64 cl, .int .i64 ra, .int .i64 rb, .int .i64 rc, .int .i64 rd, .int .i64 re, .int .i64 rf, .int .i64 rg, .int .i64 rh, .int .i64 ri, .int .i64 rj, .int .i64 lo, .int .i64 hi, .int .i64 f, .bool fa, .int .i64 bu] 38)).alloc (.cells #[.int .i64 0, .int .i64 0, .int .i64 0, .int .i64 0, .int .i64 0, .int .i64 0, .int .i64 0, .int .i64 0, .int .i64 0, .int .i64 0] 36) = w0 := ⟨_, rfl⟩
  have hsz : w0.heap.size = w.heap.size + 1 + 1 := by rw [← hw0]; simp
  have HSz := hid hsz
  have HJ0 : Hid (Jk w w0) := hw0 ▸ ((Jk.refl w).alloc _).alloc _
  have HQ0 : QyB w0 w.heap.size ⟨3, cl, ⟨⟨ra, rb⟩, ⟨rc, rd⟩, ⟨re, rf⟩, ⟨rg, rh⟩, ⟨ri, rj⟩⟩, lo, hi, f, fa, bu⟩ := by
    rw [← hw0]
    exact (QyB.laid w ⟨3, cl, ⟨⟨ra, rb⟩, ⟨rc, rd⟩, ⟨re, rf⟩, ⟨rg, rh⟩, ⟨ri, rj⟩⟩, lo, hi, f, fa, bu⟩).jk ((Jk.refl _).alloc _)
  have hz0 : BxB w0 (w.heap.size + 1) Bx.nil := by
    rw [← hw0]
    have := BxB.laid (w.alloc (.cells #[.int .i64 3, .int .i64 cl, .int .i64 ra, .int .i64 rb, .int .i64 rc, .int .i64 rd, .int .i64 re, .int .i64 rf, .int .i64 rg, .int .i64 rh, .int .i64 ri, .int .i64 rj, .int .i64 lo, .int .i64 hi, .int .i64 f, .bool fa, .int .i64 bu] 38)) Bx.nil
    rwa [World.size_alloc] at this
  have HQ := hid HQ0
  have HZ := hid hz0
  obtain ⟨q0, q1, q2, q3, q4, q5, q6, q7, q8, q9, q10, q11, q12, q13, q14, q15, q16⟩ := HQ0.in
  have ql := HQ0.lt
  simp only at q0 q1 q2 q3 q4 q5 q6 q7 q8 q9 q10 q11 q12 q13 q14 q15 q16
  clear hz0 HQ0 hsz
  go_enter Tryz.func26, Tryz.ntmps26
  go_upto_region 1 with fail
  go_cut [3] (fun p wc => ∃ g, p = .pointer (some ⟨g, 0, none⟩) ∧ w0.heap.size ≤ g ∧ BxB wc g ⟨⟨ra, rb⟩, ⟨rc, rd⟩, ⟨re, rf⟩, ⟨rg, rh⟩, ⟨ri, rj⟩⟩ ∧ Jk w0 wc)
  case first =>
    go_wp2
    go_meet
    case rel => exact ⟨_, rfl, Nat.le_refl _, BxB.laid w0 ⟨⟨ra, rb⟩, ⟨rc, rd⟩, ⟨re, rf⟩, ⟨rg, rh⟩, ⟨ri, rj⟩⟩, (Jk.refl w0).alloc _⟩
  case rest =>
    obtain ⟨g, rfl, hg, hB, hj⟩ := hcut
    obtain ⟨w1, rfl⟩ : ∃ z, z = wc := ⟨_, rfl⟩
    obtain ⟨x0, x1, x2, x3, x4, x5, x6, x7, x8, x9⟩ := hB.in
    have xf := hB.frozen
    have xl := hB.lt
    have HB2 := hid (hB.putE Sp.nil)
    have HJ2 := hid ((hj.set (p := ⟨g, 8, none⟩) hg (.int .i64 0)).set (p := ⟨g, 9, none⟩) hg (.int .i64 0))
    simp only [Sp.nil] at HB2
    clear q0 q1 q2 q3 q4 q5 q6 q7 q8 q9 q10 q11 q12 q13 q14 q15 q16
    go_upto_region 3 with fail
    generalize hwE : (w1.setCell ⟨g, 8, none⟩ (.int .i64 0)).setCell ⟨g, 9, none⟩ (.int .i64 0) = w2 at HB2 HJ2 ⊢
    clear hwE x0 x1 x2 x3 x4 x5 x6 x7 x8 x9 xf xl hB hj
    have HB3 := HB2
    have HJ4 := HJ2
    clear HB2 HJ2
    obtain ⟨q0, q1, q2, q3, q4, q5, q6, q7, q8, q9, q10, q11, q12, q13, q14, q15, q16⟩ := (HQ.out.jk HJ4.out).in
    simp only at q0 q1 q2 q3 q4 q5 q6 q7 q8 q9 q10 q11 q12 q13 q14 q15 q16
    go_upto_region 5 with fail
    have HB5 := HB3
    have HJ5 := HJ4
    refine wp_region_lit ?_
    refine list_loadX rfl _ rfl HB5.out rfl ?_
    refine list_storeX rfl _ _ rfl (HZ.out.jk HJ5.out) rfl ⟨⟨ra, rb⟩, ⟨rc, rd⟩, ⟨re, rf⟩, ⟨rg, rh⟩, ⟨0, 0⟩⟩ rfl fun w9 hq9 hg9 => ?_
    have HJ9 := hid ((HJ0.out.trans HJ5.out).grown hg9 (fun k hk => by cases hk; exact Nat.le_succ _))
    go_wp2
    exact bodyPost_ret (results_cell Tryz.results26 rfl (load_X hq9)) rfl ⟨rfl, HJ9.out⟩

set_option maxRecDepth 100000 in
set_option maxHeartbeats 3200000 in
theorem rstart_hi (f cl ra rb rc rd re rf rg rh ri rj lo hi bu : Int) (fa : Bool) (w : World) (hn0 : 0 ≤ f) (hn1 : ¬ f < 4) : Calls Tryz.prog 26 #[.agg #[.int .i64 3, .int .i64 cl, .int .i64 ra, .int .i64 rb, .int .i64 rc, .int .i64 rd, .int .i64 re, .int .i64 rf, .int .i64 rg, .int .i64 rh, .int .i64 ri, .int .i64 rj, .int .i64 lo, .int .i64 hi, .int .i64 f, .bool fa, .int .i64 bu]] w fun e w' => e = .returned (boxW ⟨⟨ra, rb⟩, ⟨rc, rd⟩, ⟨re, rf⟩, ⟨rg, rh⟩, ⟨0, 0⟩⟩) ∧ Jk w w' := by
  have J := rules8
  obtain ⟨w0, hw0⟩ : ∃ w0, (w.alloc (.cells #[.int .i64 3, .int .i64 cl, .int .i64 ra, .int .i64 rb, .int .i64 rc, .int .i64 rd, .int .i64 re, .int .i64 rf, .int .i64 rg, .int .i64 rh, .int .i64 ri, .int .i64 rj, .int .i64 lo, .int .i64 hi, .int .i64 f, .bool fa, .int .i64 bu] 38)).alloc (.cells #[.int .i64 0, .int .i64 0, .int .i64 0, .int .i64 0, .int .i64 0, .int .i64 0, .int .i64 0, .int .i64 0, .int .i64 0, .int .i64 0] 36) = w0 := ⟨_, rfl⟩
  have hsz : w0.heap.size = w.heap.size + 1 + 1 := by rw [← hw0]; simp
  have HSz := hid hsz
  have HJ0 : Hid (Jk w w0) := hw0 ▸ ((Jk.refl w).alloc _).alloc _
  have HQ0 : QyB w0 w.heap.size ⟨3, cl, ⟨⟨ra, rb⟩, ⟨rc, rd⟩, ⟨re, rf⟩, ⟨rg, rh⟩, ⟨ri, rj⟩⟩, lo, hi, f, fa, bu⟩ := by
    rw [← hw0]
    exact (QyB.laid w ⟨3, cl, ⟨⟨ra, rb⟩, ⟨rc, rd⟩, ⟨re, rf⟩, ⟨rg, rh⟩, ⟨ri, rj⟩⟩, lo, hi, f, fa, bu⟩).jk ((Jk.refl _).alloc _)
  have hz0 : BxB w0 (w.heap.size + 1) Bx.nil := by
    rw [← hw0]
    have := BxB.laid (w.alloc (.cells #[.int .i64 3, .int .i64 cl, .int .i64 ra, .int .i64 rb, .int .i64 rc, .int .i64 rd, .int .i64 re, .int .i64 rf, .int .i64 rg, .int .i64 rh, .int .i64 ri, .int .i64 rj, .int .i64 lo, .int .i64 hi, .int .i64 f, .bool fa, .int .i64 bu] 38)) Bx.nil
    rwa [World.size_alloc] at this
  have HQ := hid HQ0
  have HZ := hid hz0
  obtain ⟨q0, q1, q2, q3, q4, q5, q6, q7, q8, q9, q10, q11, q12, q13, q14, q15, q16⟩ := HQ0.in
  have ql := HQ0.lt
  simp only at q0 q1 q2 q3 q4 q5 q6 q7 q8 q9 q10 q11 q12 q13 q14 q15 q16
  clear hz0 HQ0 hsz
  go_enter Tryz.func26, Tryz.ntmps26
  go_upto_region 1 with fail
  go_cut [3] (fun p wc => ∃ g, p = .pointer (some ⟨g, 0, none⟩) ∧ w0.heap.size ≤ g ∧ BxB wc g ⟨⟨ra, rb⟩, ⟨rc, rd⟩, ⟨re, rf⟩, ⟨rg, rh⟩, ⟨ri, rj⟩⟩ ∧ Jk w0 wc)
  case first =>
    go_wp2
    go_meet
    case rel => exact ⟨_, rfl, Nat.le_refl _, BxB.laid w0 ⟨⟨ra, rb⟩, ⟨rc, rd⟩, ⟨re, rf⟩, ⟨rg, rh⟩, ⟨ri, rj⟩⟩, (Jk.refl w0).alloc _⟩
  case rest =>
    obtain ⟨g, rfl, hg, hB, hj⟩ := hcut
    obtain ⟨w1, rfl⟩ : ∃ z, z = wc := ⟨_, rfl⟩
    obtain ⟨x0, x1, x2, x3, x4, x5, x6, x7, x8, x9⟩ := hB.in
    have xf := hB.frozen
    have xl := hB.lt
    have HB2 := hid (hB.putE Sp.nil)
    have HJ2 := hid ((hj.set (p := ⟨g, 8, none⟩) hg (.int .i64 0)).set (p := ⟨g, 9, none⟩) hg (.int .i64 0))
    simp only [Sp.nil] at HB2
    clear q0 q1 q2 q3 q4 q5 q6 q7 q8 q9 q10 q11 q12 q13 q14 q15 q16
    go_upto_region 3 with fail
    generalize hwE : (w1.setCell ⟨g, 8, none⟩ (.int .i64 0)).setCell ⟨g, 9, none⟩ (.int .i64 0) = w2 at HB2 HJ2 ⊢
    clear hwE x0 x1 x2 x3 x4 x5 x6 x7 x8 x9 xf xl hB hj
    have HB3 := HB2
    have HJ4 := HJ2
    clear HB2 HJ2
    obtain ⟨q0, q1, q2, q3, q4, q5, q6, q7, q8, q9, q10, q11, q12, q13, q14, q15, q16⟩ := (HQ.out.jk HJ4.out).in
    simp only at q0 q1 q2 q3 q4 q5 q6 q7 q8 q9 q10 q11 q12 q13 q14 q15 q16
    go_upto_region 5 with fail
    have HB5 := HB3
    have HJ5 := HJ4
    refine wp_region_lit ?_
    refine list_loadX rfl _ rfl HB5.out rfl ?_
    refine list_storeX rfl _ _ rfl (HZ.out.jk HJ5.out) rfl ⟨⟨ra, rb⟩, ⟨rc, rd⟩, ⟨re, rf⟩, ⟨rg, rh⟩, ⟨0, 0⟩⟩ rfl fun w9 hq9 hg9 => ?_
    have HJ9 := hid ((HJ0.out.trans HJ5.out).grown hg9 (fun k hk => by cases hk; exact Nat.le_succ _))
    go_wp2
    exact bodyPost_ret (results_cell Tryz.results26 rfl (load_X hq9)) rfl ⟨rfl, HJ9.out⟩

theorem rstart_ans (q : Qy) : Ans 26 #[queryV q] (boxW (startI q)) := fun w => by
  obtain ⟨b, hb⟩ := pair_bool q
  cases b
  · have hn : ¬ pairP q := fun h => by simpa using hb.2 h
    simp only [startI, if_neg hn]
    obtain ⟨kd, cl, ⟨⟨ra, rb⟩, ⟨rc, rd⟩, ⟨re, rf⟩, ⟨rg, rh⟩, ⟨ri, rj⟩⟩, lo, hi, f, fa, bu⟩ := q
    simp only [pairP] at hn
    by_cases h1 : kd = 3
    · subst h1
      by_cases h2 : 0 ≤ f
      · exact rstart_hi f cl ra rb rc rd re rf rg rh ri rj lo hi bu fa w h2 (fun h => hn ⟨rfl, h2, h⟩)
      · exact rstart_lo f cl ra rb rc rd re rf rg rh ri rj lo hi bu fa w h2
    · exact rstart_kd kd f cl ra rb rc rd re rf rg rh ri rj lo hi bu fa w h1
  · have hp := hb.1 rfl
    simp only [startI, if_pos hp]
    obtain ⟨kd, cl, ⟨⟨ra, rb⟩, ⟨rc, rd⟩, ⟨re, rf⟩, ⟨rg, rh⟩, ⟨ri, rj⟩⟩, lo, hi, f, fa, bu⟩ := q
    obtain ⟨h1, h2, h3⟩ := hp
    simp only at h1 h2 h3
    subst h1
    have hf : f = 0 ∨ f = 1 ∨ f = 2 ∨ f = 3 := by omega
    rcases hf with rfl | rfl | rfl | rfl
    · exact rstart_0 cl ra rb rc rd re rf rg rh ri rj lo hi bu fa w
    · exact rstart_1 cl ra rb rc rd re rf rg rh ri rj lo hi bu fa w
    · exact rstart_2 cl ra rb rc rd re rf rg rh ri rj lo hi bu fa w
    · exact rstart_3 cl ra rb rc rd re rf rg rh ri rj lo hi bu fa w

end Go.Proofs.YtkkbeobocbgmeaaGreat
