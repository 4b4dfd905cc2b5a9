/- What Add and Sub of package fix answer, for every argument (package fix's contracts, for a program that holds these two alone). -/
import Derived.Test.YtdmkaaehpcnpfaaBase
import Derived.Test.YtdmkaaehpcnpfaaMathF
namespace Go.Proofs.Ytdmkaaehpcnpfaa
open Go.RowKit M

theorem add_any (a b : Int) (w : World) (ha1 : -9223372036854775808 ≤ a) (ha2 : a ≤ 9223372036854775807) (hb1 : -9223372036854775808 ≤ b) (hb2 : b ≤ 9223372036854775807) :
    Calls Try.prog 24 #[.int .i64 a, .int .i64 b] w fun e w' => e = .returned (.tuple #[.int .i64 (valI (a + b)), .bool (okB (a + b))]) ∧ w' = w := by
  have ht := add_told a b ha1 ha2 hb1 hb2
  cases hk : okB (a + b) with
  | true =>
    rw [hk] at ht
    have hno : ¬ bits .and .i64 (bits .xor .i64 a (wrap64 (a + b))) (bits .xor .i64 b (wrap64 (a + b))) < 0 := by rw [ht]; simp
    have hv : wrap64 (a + b) = valI (a + b) := by
      obtain ⟨h1, h2⟩ := ok_of hk
      rw [wrap_in _ h1 h2, val_yes h1 h2]
    clear ht hk
    have HV : Hid (wrap64 (a + b) = valI (a + b)) := hv
    clear hv ha1 ha2 hb1 hb2
    go_enter Try.func24, Try.ntmps24
    go_wp2
    go_ret2
    exact ⟨ret_two HV.out rfl, rfl⟩
  | false =>
    rw [hk] at ht
    have hno := ht.2 rfl
    have hv : valI (a + b) = 0 := val_no (no_of hk)
    rw [hv]
    clear ht hk hv ha1 ha2 hb1 hb2
    go_enter Try.func24, Try.ntmps24
    go_wp2
    go_ret2
    exact ⟨rfl, rfl⟩


end Go.Proofs.Ytdmkaaehpcnpfaa
