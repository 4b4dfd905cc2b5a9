/- What each function of package fix answers, for every argument: the contracts of chapter 2's code (Sum: of a list that lies in memory). -/
import Derived.Test.YtfdiokegicbjcaaBase
import Derived.Test.YtfdiokegicbjcaaMathF
import Derived.Laws.Externs
import Derived.Deep.LoopGhost
namespace Go.Proofs.Ytfdiokegicbjcaa
open Go.RowKit M

theorem add_any (a b : Int) (w : World) (ha1 : -9223372036854775808 ≤ a) (ha2 : a ≤ 9223372036854775807) (hb1 : -9223372036854775808 ≤ b) (hb2 : b ≤ 9223372036854775807) :
    Calls Try.prog 8 #[.int .i64 a, .int .i64 b] w fun e w' => e = .returned (.tuple #[.int .i64 (valI (a + b)), .bool (okB (a + b))]) ∧ w' = w := by
  have ht := add_told a b ha1 ha2 hb1 hb2
  cases hk : okB (a + b) with
  | true =>
    rw [hk] at ht
    have hno : ¬ bits .and .i64 (bits .xor .i64 a (wrap64 (a + b))) (bits .xor .i64 b (wrap64 (a + b))) < 0 := by rw [ht]; simp
    have hv : wrap64 (a + b) = valI (a + b) := by
      obtain ⟨h1, h2⟩ := ok_of hk
      rw [wrap_in _ h1 h2, val_yes h1 h2]
    clear ht hk
    have HV : Hid (wrap64 (a + b) = valI (a + b)) := hv
    clear hv ha1 ha2 hb1 hb2
    go_enter Try.func8, Try.ntmps8
    go_wp2
    go_ret2
    exact ⟨ret_two HV.out rfl, rfl⟩
  | false =>
    rw [hk] at ht
    have hno := ht.2 rfl
    have hv : valI (a + b) = 0 := val_no (no_of hk)
    rw [hv]
    clear ht hk hv ha1 ha2 hb1 hb2
    go_enter Try.func8, Try.ntmps8
    go_wp2
    go_ret2
    exact ⟨rfl, rfl⟩

theorem sub_any (a b : Int) (w : World) (ha1 : -9223372036854775808 ≤ a) (ha2 : a ≤ 9223372036854775807) (hb1 : -9223372036854775808 ≤ b) (hb2 : b ≤ 9223372036854775807) :
    Calls Try.prog 13 #[.int .i64 a, .int .i64 b] w fun e w' => e = .returned (.tuple #[.int .i64 (valI (a - b)), .bool (okB (a - b))]) ∧ w' = w := by
  have ht := sub_told a b ha1 ha2 hb1 hb2
  cases hk : okB (a - b) with
  | true =>
    rw [hk] at ht
    have hno : ¬ bits .and .i64 (bits .xor .i64 a b) (bits .xor .i64 a (wrap64 (a - b))) < 0 := by rw [ht]; simp
    have hv : wrap64 (a - b) = valI (a - b) := by
      obtain ⟨h1, h2⟩ := ok_of hk
      rw [wrap_in _ h1 h2, val_yes h1 h2]
    clear ht hk
    have HV : Hid (wrap64 (a - b) = valI (a - b)) := hv
    clear hv ha1 ha2 hb1 hb2
    go_enter Try.func13, Try.ntmps13
    go_wp2
    go_ret2
    exact ⟨ret_two HV.out rfl, rfl⟩
  | false =>
    rw [hk] at ht
    have hno := ht.2 rfl
    have hv : valI (a - b) = 0 := val_no (no_of hk)
    rw [hv]
    clear ht hk hv ha1 ha2 hb1 hb2
    go_enter Try.func13, Try.ntmps13
    go_wp2
    go_ret2
    exact ⟨rfl, rfl⟩

theorem shift_any (n b : Int) (w : World) (hn1 : -9223372036854775808 ≤ n) (hn2 : n ≤ 9223372036854775807) (hb1 : -9223372036854775808 ≤ b) (hb2 : b ≤ 9223372036854775807) :
    Calls Try.prog 10 #[.int .i64 n, .int .i64 b] w fun e w' => e = .returned (.tuple #[.int .i64 (shV n b), .bool (shOk n b)]) ∧ w' = w := by
  by_cases hb : b < 0
  · have e1 : shOk n b = true := by simp [shOk, hb]
    rw [e1]; clear e1
    by_cases hf : b < -63
    · have HV : Hid (n / 9223372036854775808 = shV n b) := by
        show _ = _
        rw [shV, if_pos hb, Int.min_eq_right (by omega)]
        rfl
      go_enter Try.func10, Try.ntmps10
      go_wp2
      go_ret2
      exact ⟨ret_two HV.out rfl, rfl⟩
    · have HV : Hid (n / 2 ^ (-b).toNat = shV n b) := by
        show _ = _
        rw [shV, if_pos hb, Int.min_eq_left (by omega)]
      go_enter Try.func10, Try.ntmps10
      go_wp2
      go_ret2
      exact ⟨ret_two HV.out rfl, rfl⟩
  · have e1 : shOk n b = okB (n * 2 ^ min b.toNat 64) := by rw [shOk, if_neg hb, cap_ok n _ hn1 hn2]
    have e2 : shV n b = valI (n * 2 ^ min b.toNat 64) := by rw [shV, if_neg hb, cap_val n _ hn1 hn2]
    rw [e1, e2]
    clear e1 e2
    have ht := sh_told n (min b.toNat 64) hn1 hn2
    cases hk : okB (n * 2 ^ min b.toNat 64) with
    | true =>
      rw [hk] at ht
      have hyes := ht.2 rfl
      have HV : Hid (IntKind.i64.wrap (n * 2 ^ min b.toNat 64) = valI (n * 2 ^ min b.toNat 64)) := by
        refine (IntKind.wrap_i64 _).trans ?_
        obtain ⟨h1, h2⟩ := ok_of hk
        have h := wrap_in _ h1 h2
        unfold wrap64 at h
        rw [h, val_yes h1 h2]
      clear ht hk
      go_enter Try.func10, Try.ntmps10
      go_wp2
      go_ret2
      exact ⟨ret_two HV.out rfl, rfl⟩
    | false =>
      rw [hk] at ht
      have hno : ¬ wrap64 (n * 2 ^ min b.toNat 64) / 2 ^ min b.toNat 64 = n := by rw [ht]; simp
      have hv : valI (n * 2 ^ min b.toNat 64) = 0 := val_no (no_of hk)
      rw [hv]
      clear ht hk hv
      go_enter Try.func10, Try.ntmps10
      go_wp2
      go_ret2
      exact ⟨rfl, rfl⟩

theorem add64 (x y c : Int) (hx : 0 ≤ x) (hy : 0 ≤ y) (hc0 : 0 ≤ c) (hc : c ≤ 1) (w : World) :
    (callFunc 17 #[.int .u64 x, .int .u64 y, .int .u64 c]).run Try.prog w =
      .ok (.value (.tuple #[.int .u64 ((x + y + c) % 18446744073709551616), .int .u64 ((x + y + c) / 18446744073709551616)])) w := by
  rw [run_callFunc_extern Try.func17 (by kernel_rfl) (by kernel_rfl) (by kernel_rfl) (e := add64Entry) (by kernel_rfl), run_add64 x y c hx hy hc0 hc]
  rfl
theorem add64_0 (x y : Int) (hx : 0 ≤ x) (hy : 0 ≤ y) (w : World) :
    (callFunc 17 #[.int .u64 x, .int .u64 y, .int .u64 0]).run Try.prog w =
      .ok (.value (.tuple #[.int .u64 ((x + y) % 18446744073709551616), .int .u64 ((x + y) / 18446744073709551616)])) w := by
  have h := add64 x y 0 hx hy (by decide) (by decide) w
  simpa using h

def nth (zs : List Int) (i : Nat) : Int := zs.getD i 0
def sumTo (zs : List Int) : Nat → Int
  | 0 => 0
  | j + 1 => sumTo zs j + nth zs j

theorem sumTo_bd (zs : List Int) (len : Nat) (h : ∀ i, i < len → -9223372036854775808 ≤ nth zs i ∧ nth zs i ≤ 9223372036854775807) :
    ∀ j, j ≤ len → -9223372036854775808 * (j : Int) ≤ sumTo zs j ∧ sumTo zs j ≤ 9223372036854775808 * (j : Int)
  | 0, _ => by simp [sumTo]
  | j + 1, hj => by
    have ih := sumTo_bd zs len h j (by omega)
    have := h j (by omega)
    simp only [sumTo]
    omega

/-- a list that lies in memory, in one block -/
theorem sum_at (b off len cap : Nat) (zs : List Int) (w : World) (hl : len ≤ 9223372036854775807)
    (hc : ∀ i, i < len → w.cell? ⟨b, off + i, none⟩ = some (.int .i64 (nth zs i)) ∧ -9223372036854775808 ≤ nth zs i ∧ nth zs i ≤ 9223372036854775807) :
    Calls Try.prog 9 #[.slice (some ⟨b, off, none⟩) len cap] w fun e w' => e = .returned (.tuple #[.int .i64 (valI (sumTo zs len)), .bool (okB (sumTo zs len))]) ∧ w' = w := by
  have hbd := sumTo_bd zs len (fun i hi => (hc i hi).2)
  go_enter Try.func9, Try.ntmps9
  go_wp2
  go_loopg [4, 5, 12] len (fun k hi lo i wr => ∃ j : Nat, j + k = len ∧ i = .int .i64 (j : Int) ∧ hi = .int .u64 (sumTo zs j / 18446744073709551616 % 18446744073709551616) ∧ lo = .int .u64 (sumTo zs j % 18446744073709551616) ∧ wr = w)
  case atStart => exact ⟨0, by omega, rfl, rfl, rfl, rfl⟩
  case round =>
    obtain ⟨j, hj, rfl, rfl, rfl, rfl⟩ := hrel
    by_cases hlt : j < len
    · obtain ⟨c1, c2, c3⟩ := hc j hlt
      clear hc hbd
      obtain ⟨n, hn⟩ : ∃ n, nth zs j = n := ⟨_, rfl⟩
      rw [hn] at c1 c2 c3
      have HS : Aside (sumTo zs (j + 1) = sumTo zs j + n) := by show _ = _; rw [sumTo, hn]
      obtain ⟨L, hL⟩ : ∃ L, sumTo zs j % 18446744073709551616 = L := ⟨_, rfl⟩
      obtain ⟨H, hH⟩ : ∃ H, sumTo zs j / 18446744073709551616 % 18446744073709551616 = H := ⟨_, rfl⟩
      have l0 : 0 ≤ L := by omega
      have l1 : L < 18446744073709551616 := by omega
      have h0 : 0 ≤ H := by omega
      have HL : Aside (sumTo zs j % 18446744073709551616 = L) := hL
      have HH : Aside (sumTo zs j / 18446744073709551616 % 18446744073709551616 = H) := hH
      rw [hL, hH]
      clear hL hH hn
      obtain ⟨U, hU⟩ : ∃ U, IntKind.u64.wrap n = U := ⟨_, rfl⟩
      obtain ⟨V, hV⟩ : ∃ V, IntKind.u64.wrap (n / 9223372036854775808) = V := ⟨_, rfl⟩
      have eU : U = n % 18446744073709551616 := by rw [← hU, IntKind.wrap_u64]
      have eV : V = n / 9223372036854775808 % 18446744073709551616 := by rw [← hV, IntKind.wrap_u64]
      have u0 : 0 ≤ U := by omega
      have v0 : 0 ≤ V := by omega
      have k0 : 0 ≤ (L + U) / 18446744073709551616 := by omega
      have k1 : (L + U) / 18446744073709551616 ≤ 1 := by omega
      have HU : Aside (U = n % 18446744073709551616) := eU
      have HV : Aside (V = n / 9223372036854775808 % 18446744073709551616) := eV
      clear eU eV
      go_wp2_with (first | simp only [hU] | simp only [hV] | simp only [add64_0 L U l0 u0] | simp only [add64 H V _ h0 v0 k0 k1])
      go_roundg (gk - 1)
      case measure => omega
      case rel =>
        refine ⟨j + 1, by omega, by go_num, ?_, ?_, rfl⟩
        · rw [HS.out, ← sum_high _ _ c2 c3, HL.out, HH.out, HU.out, HV.out]
        · rw [HS.out, ← sum_low (sumTo zs j) n, HL.out, HU.out]
    · have e : j = len := by omega
      subst e
      have b1 := hbd j (by omega)
      clear hbd hc
      obtain ⟨S, hS⟩ : ∃ S, sumTo zs j = S := ⟨_, rfl⟩
      rw [hS] at b1
      have HS : Hid (sumTo zs j = S) := hS
      have he := sum_ends S (by omega) (by omega)
      have hu : IntKind.u64.wrap (wrap64 (S % 18446744073709551616) / 9223372036854775808) = wrap64 (S % 18446744073709551616) / 9223372036854775808 % 18446744073709551616 := IntKind.wrap_u64 _
      cases hk : okB S with
      | true =>
        rw [hk] at he
        have hyes := he.2 rfl
        have HV : Hid (wrap64 (S % 18446744073709551616) = valI S ∧ true = okB S) := by
          show _ ∧ _
          obtain ⟨h1, h2⟩ := ok_of hk
          rw [sum_val S hk, val_yes h1 h2, hk]
          exact ⟨rfl, rfl⟩
        clear he hk
        rw [hS]
        clear hS
        go_wp2_with fail
        go_ret2
        exact ⟨ret_two (by rw [HS.out]; exact HV.out.1) (by rw [HS.out]; exact HV.out.2), rfl⟩
      | false =>
        rw [hk] at he
        have hno : ¬ S / 18446744073709551616 % 18446744073709551616 = wrap64 (S % 18446744073709551616) / 9223372036854775808 % 18446744073709551616 := by rw [he]; simp
        have HV : Hid (0 = valI S ∧ false = okB S) := by
          show _ ∧ _
          rw [val_no (no_of hk), hk]
          exact ⟨rfl, rfl⟩
        clear he hk
        rw [hS]
        clear hS
        go_wp2_with fail
        go_ret2
        exact ⟨ret_two (by rw [HS.out]; exact HV.out.1) (by rw [HS.out]; exact HV.out.2), rfl⟩

theorem sum_none (a : Option Addr) (cap : Nat) (w : World) :
    Calls Try.prog 9 #[.slice a 0 cap] w fun e w' => e = .returned (.tuple #[.int .i64 0, .bool true]) ∧ w' = w := by
  go_enter Try.func9, Try.ntmps9
  go_wp2
  go_loopg [4, 5, 12] 0 (fun _ hi lo i wr => i = .int .i64 0 ∧ hi = .int .u64 0 ∧ lo = .int .u64 0 ∧ wr = w)
  case atStart => exact ⟨rfl, rfl, rfl, rfl⟩
  case round =>
    obtain ⟨rfl, rfl, rfl, rfl⟩ := hrel
    go_wp2_with fail
    go_ret2
    exact ⟨rfl, rfl⟩

end Go.Proofs.Ytfdiokegicbjcaa
