/- The law DecTells of chapter 3 answers true for every number and every text: Print and Scan are the document's own. Conditions: what the statement itself says of the library's variables ('Env'). -/
import Derived.Test.YtfcphcdhjjjjgaaDoorLawDecRuns
import Derived.Test.YtfcphcdhjjjjgaaDoorRefDec4
namespace Go.Proofs.YtfcphcdhjjjjgaaDoor
open Go.RowKit M

theorem runs_on {w : World} (hE : Env w) (w1 : World) (hb : Below w.heap.size w w1) :
    Calls Tryd.prog 3 #[] w1 fun e w' => e = .returned (.bool true) ∧ Below w.heap.size w w' :=
  (decRuns_walk w1 (hE.on hb)).mono fun _ _ h => ⟨h.1, below_on hb h.2⟩
theorem rprint_on {w : World} (n : Int) (h1 : -9223372036854775808 ≤ n) (h2 : n ≤ 9223372036854775807) (w1 : World) (hb : Below w.heap.size w w1) :
    Calls Tryd.prog 11 #[.int .i64 n] w1 fun e w' => e = .returned (.string ⟨(printL n).toArray⟩) ∧ Below w.heap.size w w' :=
  (rprint_any n w1 h1 h2).mono fun _ _ h => ⟨h.1, below_on hb h.2⟩
theorem rscan_on {w : World} (l : Txt) (hs : l.length < 1099511627776) (w1 : World) (hb : Below w.heap.size w w1) :
    Calls Tryd.prog 10 #[.string ⟨l.toArray⟩] w1 fun e w' => e = .returned (.tuple #[.int .i64 (scanN l), .bool (scanB l)]) ∧ Below w.heap.size w w' :=
  (rscan_any l w1 hs).mono fun _ _ h => ⟨h.1, below_on hb h.2⟩

set_option maxRecDepth 100000 in
theorem decTells_walk (n : Int) (s : ByteArray) (w0 : (Lit.int .i64 n).wf = true) (w1 : s.size ≤ maxLen) (w : World) (hE : Env w) :
    Calls Tryd.prog 4 #[.int .i64 n, .string s] w fun e w' => e = .returned (.bool true) ∧ Below w.heap.size w w' := by
  obtain ⟨n1, n2⟩ := bdi w0
  have hsz : s.size ≤ 9223372036854775807 := by unfold maxLen at w1; omega
  obtain ⟨l, hl, hex⟩ : ∃ l : Txt, l.length ≤ 40 ∧ s.extract 0 (min (s.size : Int) 40).toNat = ⟨l.toArray⟩ := by
    refine ⟨_, ?_, Lib.extract_eq s 0 (min (s.size : Int) 40).toNat⟩
    simp
    omega
  have p1 := print_on hE n n1 n2
  have p2 := rprint_on (w := w) n n1 n2
  have s1 := scan_on hE l (by omega)
  have s2 := rscan_on (w := w) l (by omega)
  have r1 := runs_on hE
  obtain ⟨v, hv⟩ : ∃ v, scanN l = v := ⟨_, rfl⟩
  obtain ⟨b, hb⟩ : ∃ b, scanB l = b := ⟨_, rfl⟩
  obtain ⟨t, ht⟩ : ∃ t, printL n = t := ⟨_, rfl⟩
  rw [hv, hb] at s1 s2
  rw [ht] at p1 p2
  have b0 := Below.refl w.heap.size w
  clear hv hb ht hE w0 w1
  go_enter Tryd.func4, Tryd.ntmps4
  go_wp2_with (first
    | (go_at_call 8; refine (s1 _ (by assumption)).mono ?_; rintro e w' ⟨rfl, b⟩)
    | (go_at_call 10; refine (s2 _ (by assumption)).mono ?_; rintro e w' ⟨rfl, b⟩)
    | (go_at_call 9; refine (p1 _ (by assumption)).mono ?_; rintro e w' ⟨rfl, b⟩)
    | (go_at_call 11; refine (p2 _ (by assumption)).mono ?_; rintro e w' ⟨rfl, b⟩)
    | (go_at_call 3; refine (r1 _ (by assumption)).mono ?_; rintro e w' ⟨rfl, b⟩))
  go_ret
  exact ⟨rfl, by assumption⟩

end Go.Proofs.YtfcphcdhjjjjgaaDoor
