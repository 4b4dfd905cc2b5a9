/- The law DecAlone of chapter 3 answers true for every two ints: numbers a whole apart have the same decimals; twice a number has no more of them; never more than eight. Conditions: what the statement itself says of the library's variables ('Env'). -/
import Derived.Test.YtfcphcdhjjjjgaaDoorLawDecRuns
import Derived.Test.YtfcphcdhjjjjgaaDoorWithinB
import Derived.WalkSpells
import Derived.Deep.DeepCutAuto
namespace Go.Proofs.YtfcphcdhjjjjgaaDoor
open Go.RowKit M

theorem runs_on {w : World} (hE : Env w) (w1 : World) (hb : Below w.heap.size w w1) :
    Calls Tryd.prog 3 #[] w1 fun e w' => e = .returned (.bool true) ∧ Below w.heap.size w w' :=
  (decRuns_walk w1 (hE.on hb)).mono fun _ _ h => ⟨h.1, below_on hb h.2⟩

/-- a text from its first point on -/
def tailF : Txt → Txt
  | [] => []
  | c :: r => if c = 46 then c :: r else tailF r
theorem tailF_digits : ∀ (l r : Txt), l.all isDig = true → tailF (l ++ r) = tailF r
  | [], _, _ => rfl
  | c :: l, r, h => by
    simp only [List.all_cons, Bool.and_eq_true] at h
    show (if c = 46 then c :: (l ++ r) else tailF (l ++ r)) = _
    rw [if_neg (dig_ne h.1).1]
    exact tailF_digits l r h.2
theorem tailF_tail (p : Nat) : tailF (tailD p) = tailD p := by
  unfold tailD
  split
  · rfl
  · simp [tailF]
theorem tailF_printU (X : Nat) : tailF (printU X) = tailD (X % 256) := by
  unfold printU
  rw [tailF_digits _ _ (dd_dig _), tailF_tail]

theorem cutc_any (s : ByteArray) (w : World) (hs : s.size ≤ 1000) :
    Calls Tryd.prog 13 #[.string s] w fun e w' => e = .returned (.string ⟨(tailF s.data.toList).toArray⟩) ∧ w' = w := by
  obtain ⟨l, hl⟩ : ∃ l, s.data.toList = l := ⟨_, rfl⟩
  have hlen : l.length = s.size := by rw [← hl]; simp
  have HG : Hid (∀ i (h : i < s.size), s[i] = byteAt l i) := fun i h => by rw [get_byte, hl]
  have HX : Hid (∀ i, s.extract i s.size = ⟨(l.drop i).toArray⟩) := fun i => by
    rw [Lib.extract_eq, hl, ← hlen, List.take_of_length_le (by simp)]
  rw [hl]
  clear hl
  go_enter Tryd.func13, Tryd.ntmps13
  go_wp2
  go_loopg [6] s.size (fun k iv wr => ∃ i : Nat, i + k = s.size ∧ iv = .int .i64 (i : Int) ∧ tailF (l.drop i) = tailF l ∧ wr = w)
  case atStart => exact ⟨0, by omega, rfl, rfl, rfl⟩
  case round =>
    obtain ⟨i, hi, rfl, ht, hw⟩ := hrel
    obtain rfl := hw.symm
    by_cases hlt : i < s.size
    · have hd := drop_byte l i (by omega)
      have hg := HG.out i hlt
      have hx := HX.out i
      obtain ⟨c, hc⟩ : ∃ c, byteAt l i = c := ⟨_, rfl⟩
      rw [hc] at hg hd
      by_cases h46 : c = 46
      · subst h46
        have HT : Hid (l.drop i = tailF l) := by
          rw [← ht, hd]
          show _ = (if (46 : UInt8) = 46 then 46 :: l.drop (i + 1) else _)
          rw [if_pos rfl]
        clear hd hc ht
        go_wp2
        go_ret
        exact ⟨ret_text HT.out, rfl⟩
      · have h46' : ((c.toNat : Int) == 46) = false := by
          have : ¬ c.toNat = 46 := fun e => h46 (UInt8.toNat_inj.1 e)
          simp; omega
        have HT : Hid (tailF (l.drop (i + 1)) = tailF l) := by
          rw [← ht, hd]
          show _ = (if c = 46 then c :: l.drop (i + 1) else tailF (l.drop (i + 1)))
          rw [if_neg h46]
        clear hd hc ht hx
        go_wp2
        go_roundg (gk - 1)
        case measure => omega
        case rel => exact ⟨i + 1, by omega, by go_num, HT.out, rfl⟩
    · have HT : Hid (tailF l = []) := by
        rw [← ht, List.drop_eq_nil_of_le (by omega)]
        exact rfl
      clear ht
      go_wp2
      go_ret
      exact ⟨ret_text HT.out.symm, rfl⟩

theorem tail_of (X : Nat) (hX : X < 18446744073709551616) : ∃ s : ByteArray, s = ⟨(printL (X : Int)).toArray⟩ ∧ s.size ≤ 1000 ∧ tailF s.data.toList = tailD (X % 256) := by
  have e : printL (X : Int) = printU X := by unfold printL; rw [if_neg (by omega)]; rfl
  refine ⟨_, rfl, ?_, ?_⟩
  · show (printL (X : Int)).length ≤ 1000
    rw [e]
    have := printU_len X hX
    omega
  · show tailF (printL (X : Int)) = _
    rw [e]
    exact tailF_printU X
theorem tailD_len (p : Nat) (h : p < 256) : (tailD p).length ≤ 9 ∧ (tailD (2 * p % 256)).length ≤ (tailD p).length := by
  have h1 := (decs_facts p h)
  have h2 := (decs_facts (2 * p % 256) (by omega))
  have h3 := decs_twice p h
  unfold tailD
  by_cases h0 : p = 0
  · subst h0; simp
  · rw [if_neg h0]
    by_cases h4 : 2 * p % 256 = 0
    · rw [if_pos h4]; simp; omega
    · rw [if_neg h4]; simp; omega

set_option maxRecDepth 100000 in
theorem decAlone_walk (n by_ : Int) (w0 : (Lit.int .i64 n).wf = true) (w1 : (Lit.int .i64 by_).wf = true) (w : World) (hE : Env w) :
    Calls Tryd.prog 7 #[.int .i64 n, .int .i64 by_] w fun e w' => e = .returned (.bool true) ∧ Below w.heap.size w w' := by
  obtain ⟨n1, n2⟩ := bdi w0
  obtain ⟨m1, m2⟩ := bdi w1
  have hw1 := within_any n 0 1125899906842624 w n1 n2 (by decide) (by decide) (by decide)
  have hb1 := within_bd n 0 1125899906842624 (by decide)
  have hw2 := within_any by_ 0 1099511627776 w m1 m2 (by decide) (by decide) (by decide)
  have hb2 := within_bd by_ 0 1099511627776 (by decide)
  obtain ⟨X, hX⟩ : ∃ X : Nat, withinI n 0 1125899906842624 = (X : Int) := ⟨(withinI n 0 1125899906842624).toNat, by omega⟩
  obtain ⟨K, hK⟩ : ∃ K : Nat, withinI by_ 0 1099511627776 = (K : Int) := ⟨(withinI by_ 0 1099511627776).toNat, by omega⟩
  rw [hX] at hw1 hb1
  rw [hK] at hw2 hb2
  obtain ⟨x1, x2⟩ := hb1
  obtain ⟨k1, k2⟩ := hb2
  obtain ⟨s1, q1, z1, f1⟩ := tail_of X (by omega)
  obtain ⟨s2, q2, z2, f2⟩ := tail_of (X + K * 256) (by omega)
  obtain ⟨s3, q3, z3, f3⟩ := tail_of (X * 2) (by omega)
  obtain ⟨hT1, hT2⟩ := tailD_len (X % 256) (by omega)
  rw [show (X + K * 256) % 256 = X % 256 by omega] at f2
  rw [show X * 2 % 256 = 2 * (X % 256) % 256 by omega] at f3
  obtain ⟨T, hT⟩ : ∃ T, tailD (X % 256) = T := ⟨_, rfl⟩
  obtain ⟨T3, hT3⟩ : ∃ T, tailD (2 * (X % 256) % 256) = T := ⟨_, rfl⟩
  rw [hT] at f1 f2 hT1 hT2
  rw [hT3] at f3 hT2
  have q1' := q1.symm
  have q2' : (⟨(printL ((X : Int) + (K : Int) * 256)).toArray⟩ : ByteArray) = s2 := by
    rw [q2]; simp
  have q3' : (⟨(printL ((X : Int) * 2)).toArray⟩ : ByteArray) = s3 := by
    rw [q3]; simp
  have r1 := runs_on hE
  have HE : Hid (Env w) := hE
  have b0 := Below.refl w.heap.size w
  clear q1 q2 q3 hX hK hT hT3 hE w0 w1 n1 n2 m1 m2
  go_enter Tryd.func7, Tryd.ntmps7
  go_upto_region 2 with (go_at_call 12; refine hw1.mono ?_; rintro e w' ⟨rfl, hw'⟩; obtain rfl := hw'.symm)
  go_wp2_with (first
    | (go_at_call 12; refine hw2.mono ?_; rintro e w' ⟨rfl, hw'⟩; obtain rfl := hw'.symm)
    | (go_at_call 9; refine (print_on HE.out _ (by omega) (by omega) _ (by assumption)).mono ?_; rintro e w1 ⟨rfl, b1⟩)
    | (go_at_call 13; refine (cutc_any _ _ (by assumption)).mono ?_; rintro e w' ⟨rfl, hw'⟩; obtain rfl := hw'.symm)
    | (go_at_call 3; refine (r1 _ (by assumption)).mono ?_; rintro e w1 ⟨rfl, b1⟩))
  go_ret
  exact ⟨rfl, by assumption⟩

end Go.Proofs.YtfcphcdhjjjjgaaDoor
