/- The law DecRuns of chapter 3 (its runs) answers true; nothing that was there is written. Conditions: what the statement itself says of the library's variables ('Tab', 'Mx'). -/
import Derived.Test.YtfcphcdhjjjjgaaDoorDec4
namespace Go.Proofs.YtfcphcdhjjjjgaaDoor
open Go.RowKit M

/-- what the library's variables hold -/
def Env (w : World) : Prop := Tab w ∧ Mx w
theorem Env.on {w w' : World} (h : Env w) (hb : Below w.heap.size w w') : Env w' := ⟨h.1.on hb, h.2.on hb⟩

/-- Print and Scan anywhere behind a world w -/
theorem print_on {w : World} (hE : Env w) (n : Int) (h1 : -9223372036854775808 ≤ n) (h2 : n ≤ 9223372036854775807) (w1 : World) (hb : Below w.heap.size w w1) :
    Calls Tryd.prog 9 #[.int .i64 n] w1 fun e w' => e = .returned (.string ⟨(printL n).toArray⟩) ∧ Below w.heap.size w w' :=
  (print_any n w1 h1 h2 (hE.on hb).1).mono fun _ _ h => ⟨h.1, below_on hb h.2⟩
theorem scan_on {w : World} (hE : Env w) (l : Txt) (hs : l.length < 4294967281) (w1 : World) (hb : Below w.heap.size w w1) :
    Calls Tryd.prog 8 #[.string ⟨l.toArray⟩] w1 fun e w' => e = .returned (.tuple #[.int .i64 (scanN l), .bool (scanB l)]) ∧ Below w.heap.size w w' :=
  (scan_any l w1 hs (hE.on hb).2 (hE.on hb).1).mono fun _ _ h => ⟨h.1, below_on hb h.2⟩

theorem print_384 : printL 384 = [49, 46, 53] := by
  unfold printL printU
  rw [if_neg (by decide), show (384 : Int).natAbs / 256 = 1 by decide, Lib.decDigits_one (by decide)]
  rfl
theorem print_m1 : printL (-1) = [45, 48, 46, 48, 48, 51, 57, 48, 54, 50, 53] := by
  unfold printL printU
  rw [if_pos (by decide), show (-1 : Int).natAbs / 256 = 0 by decide, Lib.decDigits_one (by decide)]
  rfl
theorem print_m512 : printL (-512) = [45, 50] := by
  unfold printL printU
  rw [if_pos (by decide), show (-512 : Int).natAbs / 256 = 2 by decide, Lib.decDigits_one (by decide)]
  rfl
theorem print_0 : printL 0 = [48] := by
  unfold printL printU
  rw [if_neg (by decide), show (0 : Int).natAbs / 256 = 0 by decide, Lib.decDigits_one (by decide)]
  rfl
theorem print_25 : printL 25 = [48, 46, 48, 57, 55, 54, 53, 54, 50, 53] := by
  unfold printL printU
  rw [if_neg (by decide), show (25 : Int).natAbs / 256 = 0 by decide, Lib.decDigits_one (by decide)]
  rfl
theorem scan_a : scanN [49, 46, 53] = 384 ∧ scanB [49, 46, 53] = true := by
  rw [← print_384]
  exact scan_print 384 (by decide) (by decide)
theorem scan_c : scanB [49, 46, 53, 48] = false := by
  unfold scanB
  rw [show readL [49, 46, 53, 48] = 384 by decide +kernel, print_384]
  rfl
theorem scan_d : scanB [45, 48] = false := by
  unfold scanB
  rw [show readL [45, 48] = 0 by decide +kernel, print_0]
  rfl
theorem scan_e : scanB [48, 46, 49] = false := by
  unfold scanB
  rw [show readL [48, 46, 49] = 25 by decide +kernel, print_25]
  rfl

set_option maxRecDepth 100000 in
theorem decRuns_walk (w : World) (hE : Env w) : Calls Tryd.prog 3 #[] w fun e w' => e = .returned (.bool true) ∧ Below w.heap.size w w' := by
  have f1 := scan_a.1
  have f2 := scan_a.2
  have f3 := scan_c
  have f4 := scan_d
  have f5 := scan_e
  have f6 := print_384
  have f7 := print_m1
  have f8 := print_m512
  have b0 := Below.refl w.heap.size w
  have HE : Hid (Env w) := hE
  clear hE
  go_enter Tryd.func3, Tryd.ntmps3
  go_wp2_with (first
    | (go_at_call 8; refine (scan_on HE.out _ (by decide) _ (by assumption)).mono ?_; rintro e w' ⟨rfl, b⟩)
    | (go_at_call 9; refine (print_on HE.out _ (by decide) (by decide) _ (by assumption)).mono ?_; rintro e w' ⟨rfl, b⟩))
  go_ret
  exact ⟨rfl, by assumption⟩

end Go.Proofs.YtfcphcdhjjjjgaaDoor
