/- What the small functions of package dec answer, for every argument: a number's size; the digit at a place; the whole part and the part that digits spell. -/
import Derived.Test.YtfcphcdhjjjjgaaDoorBase
import Derived.Test.YtfcphcdhjjjjgaaDoorMathD
import Derived.Laws.Externs
import Derived.Deep.LoopGhost
namespace Go.Proofs.YtfcphcdhjjjjgaaDoor
open Go.RowKit M

theorem wrapU (x : Int) : IntKind.u64.wrap x = x % 18446744073709551616 := by
  simp [IntKind.wrap, IntKind.bits, IntKind.signed]
theorem size_any (n : Int) (w : World) (h1 : -9223372036854775808 ≤ n) (h2 : n ≤ 9223372036854775807) :
    Calls Tryd.prog 15 #[.int .i64 n] w fun e w' => e = .returned (.int .u64 (n.natAbs : Int)) ∧ w' = w := by
  by_cases h : n < 0
  · go_enter Tryd.func15, Tryd.ntmps15
    go_wp2
    go_ret
    exact ⟨ret_int (by rw [wrapU, wrapU]; omega), rfl⟩
  · go_enter Tryd.func15, Tryd.ntmps15
    go_wp2
    go_ret
    exact ⟨ret_int (by omega), rfl⟩

/-- the byte at a place -/
def byteAt (s : Txt) (i : Nat) : UInt8 := s.getD i 0
theorem getD_in (s : Txt) (i : Nat) (h : i < s.length) : s.getD i 0 = s[i] := by simp [List.getD, h]
theorem get_byte (s : ByteArray) (i : Nat) (h : i < s.size) : s[i] = byteAt s.data.toList i := by
  have h' : i < s.data.toList.length := by simpa using h
  unfold byteAt
  rw [getD_in _ _ h']
  rfl
theorem drop_byte (s : Txt) (i : Nat) (h : i < s.length) : s.drop i = byteAt s i :: s.drop (i + 1) := by
  unfold byteAt
  rw [getD_in _ _ h]
  exact List.drop_eq_getElem_cons h
theorem take_byte (s : Txt) (i : Nat) (h : i < s.length) : s.take (i + 1) = s.take i ++ [byteAt s i] := by
  unfold byteAt
  rw [getD_in _ _ h, List.take_succ_eq_append_getElem h]
theorem digit_any (s : ByteArray) (i : Nat) (w : World) (hi : i < s.size) :
    Calls Tryd.prog 27 #[.string s, .int .i64 (i : Int)] w fun e w' => e = .returned (.int .u64 (dv (byteAt s.data.toList i) : Int)) ∧ w' = w := by
  have hb := get_byte s i hi
  obtain ⟨c, hc⟩ : ∃ c, byteAt s.data.toList i = c := ⟨_, rfl⟩
  rw [hc] at hb ⊢
  clear hc
  have hlt := c.toNat_lt
  go_enter Tryd.func27, Tryd.ntmps27
  go_wp2
  go_ret
  exact ⟨ret_int (by unfold dv; omega), rfl⟩

theorem whole_any (s : ByteArray) (w : World) (hs : s.size ≤ 140737488355328) :
    Calls Tryd.prog 22 #[.string s] w fun e w' => e = .returned (.int .u64 (readW s.data.toList : Int)) ∧ w' = w := by
  have hl : s.data.toList.length = s.size := by simp
  go_enter Tryd.func22, Tryd.ntmps22
  go_wp2
  go_loopg [3, 7] s.size (fun k v i wr => ∃ j : Nat, j + k = s.size ∧ i = .int .i64 (j : Int) ∧ v = .int .u64 (readW (s.data.toList.take j) : Int) ∧ wr = w)
  case atStart => exact ⟨0, by omega, rfl, rfl, rfl⟩
  case round =>
    obtain ⟨j, hj, rfl, rfl, hw⟩ := hrel
    obtain rfl := hw.symm
    by_cases hlt : j < s.size
    · have HS : Hid (readW (s.data.toList.take (j + 1)) = (readW (s.data.toList.take j) * 10 + dv (byteAt s.data.toList j)) % 18446744073709551616) := by
        rw [take_byte _ _ (by omega), readW_snoc]; exact rfl
      obtain ⟨V, hV⟩ : ∃ V, readW (s.data.toList.take j) = V := ⟨_, rfl⟩
      have hV2 := readW_lt (s.data.toList.take j)
      rw [hV] at HS hV2 ⊢
      clear hV
      obtain ⟨d, hd⟩ : ∃ d, dv (byteAt s.data.toList j) = d := ⟨_, rfl⟩
      have hd2 := dv_lt (byteAt s.data.toList j)
      rw [hd] at HS hd2
      go_wp2_with (go_at_call 27; refine (digit_any s j _ hlt).mono ?_; rintro e w' ⟨rfl, rfl⟩; rw [hd])
      go_roundg (gk - 1)
      case measure => omega
      case rel => exact ⟨j + 1, by omega, by go_num, by rw [HS.out, wrapU, wrapU]; go_num, rfl⟩
    · have e : j = s.size := by omega
      subst e
      rw [List.take_of_length_le (by omega)]
      go_wp2
      go_ret
      exact ⟨rfl, rfl⟩

theorem part_any (s : ByteArray) (w : World) (hs : s.size ≤ 140737488355328) :
    Calls Tryd.prog 23 #[.string s] w fun e w' => e = .returned (.int .u64 (readP s.data.toList : Int)) ∧ w' = w := by
  have hl : s.data.toList.length = s.size := by simp
  go_enter Tryd.func23, Tryd.ntmps23
  go_wp2
  go_loopg [3, 4] s.size (fun k v i wr => k ≤ s.size ∧ i = .int .i64 ((k : Int) - 1) ∧ v = .int .u64 (readP (s.data.toList.drop k) : Int) ∧ wr = w)
  case atStart => exact ⟨by omega, rfl, by rw [List.drop_eq_nil_of_le (by omega)]; rfl, rfl⟩
  case round =>
    obtain ⟨hj, rfl, rfl, hw⟩ := hrel
    obtain rfl := hw.symm
    rcases gk with _ | j
    · simp only [List.drop_zero]
      go_wp2
      go_ret
      exact ⟨rfl, rfl⟩
    · have HS : Hid (readP (s.data.toList.drop j) = (dv (byteAt s.data.toList j) * 256 + readP (s.data.toList.drop (j + 1))) / 10) := by
        rw [drop_byte _ j (by omega)]; exact rfl
      obtain ⟨V, hV⟩ : ∃ V, readP (s.data.toList.drop (j + 1)) = V := ⟨_, rfl⟩
      have hV2 := readP_lt (s.data.toList.drop (j + 1))
      rw [hV] at HS hV2 ⊢
      clear hV
      obtain ⟨d, hd⟩ : ∃ d, dv (byteAt s.data.toList j) = d := ⟨_, rfl⟩
      have hd2 := dv_lt (byteAt s.data.toList j)
      rw [hd] at HS hd2
      have hlt : j < s.size := by omega
      have ej : ((j + 1 : Nat) : Int) - 1 = (j : Int) := by omega
      rw [ej]
      go_wp2_with (go_at_call 27; refine (digit_any s j _ hlt).mono ?_; rintro e w' ⟨rfl, rfl⟩; rw [hd])
      go_roundg j
      case measure => omega
      case rel => exact ⟨by omega, by go_num, by rw [HS.out]; go_num, rfl⟩

end Go.Proofs.YtfcphcdhjjjjgaaDoor
