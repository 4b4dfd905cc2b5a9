/- What the document's own answer to chapter 2 (Add; Sum of a list that lies in memory, no longer than 2^31) answers: the same words as the contracts of the code. -/
import Derived.Test.YtfdiokegicbjcaaFix
namespace Go.Proofs.Ytfdiokegicbjcaa
open Go.RowKit M

theorem radd_any (a b : Int) (w : World) (ha1 : -9223372036854775808 ≤ a) (ha2 : a ≤ 9223372036854775807) (hb1 : -9223372036854775808 ≤ b) (hb2 : b ≤ 9223372036854775807) :
    Calls Try.prog 11 #[.int .i64 a, .int .i64 b] w fun e w' => e = .returned (.tuple #[.int .i64 (valI (a + b)), .bool (okB (a + b))]) ∧ w' = w := by
  obtain ⟨s, hs⟩ : ∃ s, wrap64 (a + b) = s := ⟨_, rfl⟩
  cases hk : okB (a + b) with
  | true =>
    obtain ⟨h1, h2⟩ := ok_of hk
    have hv : valI (a + b) = s := by rw [val_yes h1 h2, ← hs, wrap_in _ h1 h2]
    have hab : a + b = s := by rw [← hs, wrap_in _ h1 h2]
    rw [hv]
    clear hv h1 h2 hk
    have hc : (0 < a ∧ 0 < b ∧ 0 < s) ∨ (a < 0 ∧ b < 0 ∧ s < 0) ∨ (0 < a ∧ b ≤ 0) ∨ (a < 0 ∧ 0 ≤ b) ∨ (a ≤ 0 ∧ 0 ≤ a) := by omega
    clear hab ha1 ha2 hb1 hb2
    rcases hc with ⟨p1, p2, p3⟩ | ⟨p1, p2, p3⟩ | ⟨p1, p2⟩ | ⟨p1, p2⟩ | ⟨p1, p2⟩
    all_goals
      go_enter Try.func11, Try.ntmps11
      go_wp2_with (simp only [hs])
      go_ret2
      exact ⟨rfl, rfl⟩
  | false =>
    have h := no_of hk
    rw [val_no h]
    have hc : (0 < a ∧ 0 < b ∧ s ≤ 0) ∨ (a < 0 ∧ b < 0 ∧ 0 ≤ s) := by
      unfold wrap64 at hs
      omega
    clear h hk ha1 ha2 hb1 hb2
    rcases hc with ⟨p1, p2, p3⟩ | ⟨p1, p2, p3⟩
    all_goals
      go_enter Try.func11, Try.ntmps11
      go_wp2_with (simp only [hs])
      go_ret2
      exact ⟨rfl, rfl⟩

def hiTo (zs : List Int) : Nat → Int
  | 0 => 0
  | j + 1 => hiTo zs j + nth zs j / 4294967296
def loTo (zs : List Int) : Nat → Int
  | 0 => 0
  | j + 1 => loTo zs j + nth zs j % 4294967296
theorem halves (zs : List Int) : ∀ j, hiTo zs j * 4294967296 + loTo zs j = sumTo zs j
  | 0 => rfl
  | j + 1 => by have := halves zs j; simp only [hiTo, loTo, sumTo]; omega
theorem lo_bd (zs : List Int) : ∀ j, 0 ≤ loTo zs j ∧ loTo zs j ≤ 4294967295 * (j : Int)
  | 0 => by simp [loTo]
  | j + 1 => by have := lo_bd zs j; simp only [loTo]; omega
theorem hi_bd (zs : List Int) (len : Nat) (h : ∀ i, i < len → -9223372036854775808 ≤ nth zs i ∧ nth zs i ≤ 9223372036854775807) :
    ∀ j, j ≤ len → -2147483648 * (j : Int) ≤ hiTo zs j ∧ hiTo zs j ≤ 2147483648 * (j : Int)
  | 0, _ => by simp [hiTo]
  | j + 1, hj => by
    have ih := hi_bd zs len h j (by omega)
    have := h j (by omega)
    simp only [hiTo]
    omega

theorem rsum_at (b off len cap : Nat) (zs : List Int) (w : World) (hl : len ≤ 2147483648)
    (hc : ∀ i, i < len → w.cell? ⟨b, off + i, none⟩ = some (.int .i64 (nth zs i)) ∧ -9223372036854775808 ≤ nth zs i ∧ nth zs i ≤ 9223372036854775807) :
    Calls Try.prog 12 #[.slice (some ⟨b, off, none⟩) len cap] w fun e w' => e = .returned (.tuple #[.int .i64 (valI (sumTo zs len)), .bool (okB (sumTo zs len))]) ∧ w' = w := by
  have hbd := hi_bd zs len (fun i hi => (hc i hi).2)
  go_enter Try.func12, Try.ntmps12
  go_wp2
  go_loopg [4, 5, 10] len (fun k hi lo i wr => ∃ j : Nat, j + k = len ∧ i = .int .i64 (j : Int) ∧ hi = .int .i64 (hiTo zs j) ∧ lo = .int .i64 (loTo zs j) ∧ wr = w)
  case atStart => exact ⟨0, by omega, rfl, rfl, rfl, rfl⟩
  case round =>
    obtain ⟨j, hj, rfl, rfl, rfl, hw⟩ := hrel
    obtain rfl := hw.symm
    by_cases hlt : j < len
    · obtain ⟨c1, c2, c3⟩ := hc j hlt
      obtain ⟨d1, d2⟩ := hbd j (by omega)
      obtain ⟨d3, d4⟩ := lo_bd zs j
      clear hc hbd
      obtain ⟨n, hn⟩ : ∃ n, nth zs j = n := ⟨_, rfl⟩
      rw [hn] at c1 c2 c3
      have HS : Aside (hiTo zs (j + 1) = hiTo zs j + n / 4294967296 ∧ loTo zs (j + 1) = loTo zs j + n % 4294967296) := by rw [hiTo, loTo, hn]; exact ⟨rfl, rfl⟩
      obtain ⟨L, hL⟩ : ∃ L, loTo zs j = L := ⟨_, rfl⟩
      obtain ⟨H, hH⟩ : ∃ H, hiTo zs j = H := ⟨_, rfl⟩
      rw [hL] at d3 d4
      rw [hH] at d1 d2
      have HL : Aside (loTo zs j = L) := hL
      have HH : Aside (hiTo zs j = H) := hH
      rw [hL, hH]
      clear hL hH hn
      have ea := M.and_low32 n
      go_wp2
      go_roundg (gk - 1)
      case measure => omega
      case rel =>
        obtain ⟨s1, s2⟩ := HS.out
        exact ⟨j + 1, by omega, by go_num, by rw [s1, HH.out], by rw [s2, HL.out], rfl⟩
    · have e : j = len := by omega
      subst e
      obtain ⟨d1, d2⟩ := hbd j (by omega)
      obtain ⟨d3, d4⟩ := lo_bd zs j
      have hh := halves zs j
      clear hbd hc
      obtain ⟨L, hL⟩ : ∃ L, loTo zs j = L := ⟨_, rfl⟩
      obtain ⟨H, hH⟩ : ∃ H, hiTo zs j = H := ⟨_, rfl⟩
      obtain ⟨S, hS⟩ : ∃ S, sumTo zs j = S := ⟨_, rfl⟩
      have HS : Hid (sumTo zs j = S) := hS
      rw [hL] at d3 d4 hh
      rw [hH] at d1 d2 hh
      rw [hS] at hh
      rw [hL, hH]
      have ht := half_told H L S hh
      have ea := M.and_low32 L
      have l0 : 0 ≤ L / 4294967296 := by omega
      have l1 : L / 4294967296 ≤ 2147483648 := by omega
      obtain ⟨T, hT⟩ : ∃ T, H + L / 4294967296 = T := ⟨_, rfl⟩
      have m0 : 0 ≤ L % 4294967296 := by omega
      have m1 : L % 4294967296 < 4294967296 := by omega
      cases hk : okB S with
      | true =>
        obtain ⟨b1, b2⟩ := ok_of hk
        have t1 : -2147483648 ≤ T := by omega
        have t2 : T ≤ 2147483647 := by omega
        have eo := or_low T (L % 4294967296) t1 t2 m0 m1
        have HV : Hid (T * 4294967296 + L % 4294967296 = valI S ∧ true = okB S) := by
          show _ ∧ _
          rw [val_yes b1 b2, hk]
          exact ⟨by omega, rfl⟩
        clear ht hk hS hL hH hh
        go_wp2_with (first | simp only [hT])
        go_ret2
        exact ⟨ret_two (by rw [HS.out]; exact HV.out.1) (by rw [HS.out]; exact HV.out.2), rfl⟩
      | false =>
        have hno := ht.2 hk
        rw [hT] at hno
        have HV : Hid (0 = valI S ∧ false = okB S) := by
          show _ ∧ _
          rw [val_no (no_of hk), hk]
          exact ⟨rfl, rfl⟩
        clear ht hk hS hL hH hh
        have hno' : T < -2147483648 ∨ (¬ T < -2147483648 ∧ 2147483647 < T) := by omega
        clear hno
        rcases hno' with h | ⟨h, h'⟩
        all_goals
          go_wp2_with (first | simp only [hT])
          go_ret2
          exact ⟨ret_two (by rw [HS.out]; exact HV.out.1) (by rw [HS.out]; exact HV.out.2), rfl⟩

theorem rsum_none (a : Option Addr) (cap : Nat) (w : World) :
    Calls Try.prog 12 #[.slice a 0 cap] w fun e w' => e = .returned (.tuple #[.int .i64 0, .bool true]) ∧ w' = w := by
  have ea := M.and_low32 0
  have eo := or_low 0 0 (by omega) (by omega) (by omega) (by omega)
  go_enter Try.func12, Try.ntmps12
  go_wp2
  go_loopg [4, 5, 10] 0 (fun _ hi lo i wr => i = .int .i64 0 ∧ hi = .int .i64 0 ∧ lo = .int .i64 0 ∧ wr = w)
  case atStart => exact ⟨rfl, rfl, rfl, rfl⟩
  case round =>
    obtain ⟨rfl, rfl, rfl, rfl⟩ := hrel
    go_wp2_with (first | simp only [ea] | simp only [eo])
    go_ret2
    exact ⟨rfl, rfl⟩

/-- the sum of a list that was made just now -/
theorem rsum_new3 (a b c : Int) (cap : Nat) (w : World) (ha : okB a = true) (hb : okB b = true) (hc : okB c = true) :
    Calls Try.prog 12 #[.slice (some ⟨w.heap.size, 0, none⟩) 3 cap] (w.alloc (.cells #[.int .i64 a, .int .i64 b, .int .i64 c] 3)) fun e w' =>
      e = .returned (.tuple #[.int .i64 (valI (a + b + c)), .bool (okB (a + b + c))]) ∧ w' = w.alloc (.cells #[.int .i64 a, .int .i64 b, .int .i64 c] 3) := by
  have h := rsum_at w.heap.size 0 3 cap [a, b, c] (w.alloc (.cells #[.int .i64 a, .int .i64 b, .int .i64 c] 3)) (by decide) ?_
  · have e : sumTo [a, b, c] 3 = a + b + c := by simp [sumTo, nth]
    rw [e] at h
    exact h
  · intro i hi
    have h1 := ok_of ha
    have h2 := ok_of hb
    have h3 := ok_of hc
    rw [World.cell?_alloc_at _ _ _ _ rfl]
    have : i = 0 ∨ i = 1 ∨ i = 2 := by omega
    rcases this with rfl | rfl | rfl
    · exact ⟨rfl, h1.1, h1.2⟩
    · exact ⟨rfl, h2.1, h2.2⟩
    · exact ⟨rfl, h3.1, h3.2⟩

end Go.Proofs.Ytfdiokegicbjcaa
