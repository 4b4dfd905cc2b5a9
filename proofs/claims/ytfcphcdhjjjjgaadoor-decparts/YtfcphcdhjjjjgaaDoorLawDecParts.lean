/- The law DecParts of chapter 3 answers true for every int: the whole part is the number's, shifted; with the opposite sign it is the same text behind a minus; never more than eight decimals. Conditions: what the statement itself says of the library's variables ('Env'). -/
import Derived.Test.YtfcphcdhjjjjgaaDoorLawDecRuns
import Derived.Test.YtfcphcdhjjjjgaaDoorRefDec1
import Derived.Test.YtfcphcdhjjjjgaaDoorWithinB
import Derived.Test.YtfcphcdhjjjjgaaDoorMath
import Derived.Deep.DeepCutAuto
namespace Go.Proofs.YtfcphcdhjjjjgaaDoor
open Go.RowKit M

theorem runs_on {w : World} (hE : Env w) (w1 : World) (hb : Below w.heap.size w w1) :
    Calls Tryd.prog 3 #[] w1 fun e w' => e = .returned (.bool true) ∧ Below w.heap.size w w' :=
  (decRuns_walk w1 (hE.on hb)).mono fun _ _ h => ⟨h.1, below_on hb h.2⟩

/-- a digit of the whole part, counted from its end -/
theorem dd_at (W k : Nat) (r : Txt) (h : k < Lib.nDigits W) : byteAt (Lib.decDigits W ++ r) (Lib.nDigits W - (k + 1)) = UInt8.ofNat (48 + W / 10 ^ k % 10) := by
  unfold byteAt
  rw [Lib.decDigits_eq, List.getD_eq_getElem?_getD, List.getElem?_append_left (by simp; omega)]
  rw [List.getElem?_map, List.getElem?_range (by omega)]
  show Lib.dg W (Lib.nDigits W - 1 - (Lib.nDigits W - (k + 1))) = _
  rw [show Lib.nDigits W - 1 - (Lib.nDigits W - (k + 1)) = k by omega]
  rfl
theorem div_step (W k : Nat) : W / 10 ^ k = 10 * (W / 10 ^ (k + 1)) + W / 10 ^ k % 10 := by
  rw [Nat.pow_succ, ← Nat.div_div_eq_div_mul]
  omega
theorem byte_of (k : Nat) (h : k < 10) : (UInt8.ofNat (48 + k)).toNat = 48 + k := by
  rw [UInt8.toNat_ofNat']; omega

theorem point_at (D r : Txt) (K : Nat) (h : D.length = K) : byteAt (D ++ 46 :: r) K = 46 := by
  subst h
  simp [byteAt]
theorem last_at (D r : Txt) (K Q : Nat) (h : D.length = K) (hq : r.length = Q) (h1 : 1 ≤ Q) (h2 : r.getLast? ≠ some 48) : ∃ c, byteAt (D ++ 46 :: r) (K + Q) = c ∧ c ≠ 48 := by
  refine ⟨_, rfl, fun e => h2 ?_⟩
  subst h hq
  unfold byteAt at e
  rw [List.getD_eq_getElem?_getD, List.getElem?_append_right (by omega), show D.length + r.length - D.length = (r.length - 1) + 1 by omega, List.getElem?_cons_succ] at e
  rw [List.getLast?_eq_getElem?]
  rw [List.getElem?_eq_getElem (by omega)] at e ⊢
  simpa using e

/-- the text of a number, as a string that is told only by its size, its bytes and what stands ahead of it -/
theorem text_told (X : Nat) : ∃ sB tB : ByteArray, sB = ⟨(printU X).toArray⟩ ∧ tB = ⟨(45 :: printU X).toArray⟩ ∧ (⟨#[45]⟩ : ByteArray) ++ sB = tB ∧
    sB.size = Lib.nDigits (X / 256) + (tailD (X % 256)).length ∧ (∀ i (h : i < sB.size), sB[i] = byteAt (printU X) i) := by
  refine ⟨_, _, rfl, rfl, text_app [45] (printU X), ?_, fun i h => get_byte _ i h⟩
  show (printU X).length = _
  unfold printU
  rw [List.length_append, Lib.decDigits_length]

set_option maxRecDepth 100000 in
set_option maxHeartbeats 1600000 in
theorem decParts_walk (n : Int) (w0 : (Lit.int .i64 n).wf = true) (w : World) (hE : Env w) :
    Calls Tryd.prog 6 #[.int .i64 n] w fun e w' => e = .returned (.bool true) ∧ Below w.heap.size w w' := by
  obtain ⟨n1, n2⟩ := bdi w0
  have hw := within_any n 1 1152921504606846976 w n1 n2 (by decide) (by decide) (by decide)
  have hwb := within_bd n 1 1152921504606846976 (by decide)
  obtain ⟨X, hX⟩ : ∃ X : Nat, withinI n 1 1152921504606846976 = (X : Int) := ⟨(withinI n 1 1152921504606846976).toNat, by omega⟩
  rw [hX] at hw hwb
  clear hX
  obtain ⟨x1, x2⟩ := hwb
  have e1 : printL (X : Int) = printU X := by unfold printL; rw [if_neg (by omega)]; rfl
  have e2 : printL (-(X : Int)) = 45 :: printU X := by unfold printL; rw [if_pos (by omega)]; simp
  obtain ⟨sB, tB, hs, ht, hcat, hsz, hget⟩ := text_told X
  have q1 : (⟨(printL (X : Int)).toArray⟩ : ByteArray) = sB := by rw [e1, hs]
  have q2 : (⟨(printL (-(X : Int))).toArray⟩ : ByteArray) = tB := by rw [e2, ht]
  have HE : Hid (Env w) := hE
  have r1 := runs_on hE
  have ea : bits .and .i64 (X : Int) 255 = ((X % 256 : Nat) : Int) := by
    have := and_low_i64 (X : Int) 8 (by decide)
    simpa using this
  obtain ⟨W, hW⟩ : ∃ W, X / 256 = W := ⟨_, rfl⟩
  obtain ⟨p, hp⟩ : ∃ p, X % 256 = p := ⟨_, rfl⟩
  obtain ⟨K, hK⟩ : ∃ K, Lib.nDigits W = K := ⟨_, rfl⟩
  have hp1 : p < 256 := by omega
  have hxW : (X : Int) / 256 = (W : Int) := by omega
  have hW1 : W < 100000000000000000 := by omega
  have hK1 : K ≤ 20 := by rw [← hK]; exact nD_le 19 W (by omega)
  have hK0 : W < 10 ^ K := by rw [← hK]; exact Lib.lt_pow_nDigits W
  have HU : Hid (printU X = Lib.decDigits W ++ tailD p) := by show _ = _; unfold printU; rw [hW, hp]
  rw [hW, hp, hK] at hsz
  rw [hp] at ea
  have HG : Hid (∀ i (h : i < sB.size), sB[i] = byteAt (Lib.decDigits W ++ tailD p) i) := by rw [← HU.out]; exact hget
  have HK : Hid (Lib.nDigits W = K) := hK
  have HK0 : Hid (W / 10 ^ K = 0) := Nat.div_eq_of_lt hK0
  have b0 := Below.refl w.heap.size w
  clear hs ht hget hK hK0 hW hp hE w0 e1 e2 HU n1 n2
  go_enter Tryd.func6, Tryd.ntmps6
  go_wp2_with (first
    | (go_at_call 12; refine hw.mono ?_; rintro e w' ⟨rfl, hw'⟩; obtain rfl := hw'.symm)
    | (go_at_call 9; refine (print_on HE.out _ (by omega) (by omega) _ (by assumption)).mono ?_; rintro e w1 ⟨rfl, b1⟩))
  go_loopg [6, 7] K (fun k wv iv wr => k ≤ K ∧ wv = .int .i64 ((W / 10 ^ k : Nat) : Int) ∧ iv = .int .i64 ((K - k : Nat) : Int) ∧ wr = w1)
  case atStart => exact ⟨Nat.le_refl _, by rw [HK0.out]; rfl, by rw [Nat.sub_self]; rfl, rfl⟩
  case round =>
    clear HK0 q1 q2
    obtain ⟨hk, rfl, rfl, hwr⟩ := hrel
    obtain rfl := hwr.symm
    rcases gk with _ | k
    · rw [Nat.pow_zero, Nat.div_one, Nat.sub_zero]
      by_cases h0 : p = 0
      · subst h0
        have hsz' : sB.size = K := hsz
        clear hsz
        go_upto_region 8 with fail
        go_cut [8] (fun o wc => o = .int .i64 0 ∧ wc = w1)
        case first =>
          go_wp2
          go_meet
          case rel => exact ⟨by go_num, rfl⟩
        case rest =>
          obtain ⟨rfl, hwr⟩ := hcut
          obtain rfl := hwr.symm
          go_wp2_with (go_at_call 3; refine (r1 _ (by assumption)).mono ?_; rintro e w3 ⟨rfl, b3⟩)
          go_ret
          exact ⟨rfl, b3⟩
      · obtain ⟨Q, hQ⟩ : ∃ Q, (decs p).length = Q := ⟨_, rfl⟩
        obtain ⟨_, f2, f3, f4⟩ := decs_facts p hp1
        rw [hQ] at f2 f3
        have hQ0 : 1 ≤ Q := by omega
        have ht : tailD p = 46 :: decs p := by unfold tailD; rw [if_neg h0]
        rw [ht, List.length_cons, hQ] at hsz
        rw [ht] at HG
        have hDl : (Lib.decDigits W).length = K := by rw [Lib.decDigits_length]; exact HK.out
        have hKl : K < sB.size := by omega
        have hg := HG.out K hKl
        rw [point_at _ _ _ hDl] at hg
        obtain ⟨c, hc, hc48⟩ := last_at (Lib.decDigits W) (decs p) K Q hDl hQ hQ0 f4
        obtain ⟨N, hN⟩ : ∃ N, K + Q = N := ⟨_, rfl⟩
        have hsz' : sB.size = N + 1 := by omega
        have hNl : N < sB.size := by omega
        have hgl := HG.out N hNl
        rw [hN] at hc
        rw [hc] at hgl
        have hN0 : K < N := by omega
        have hN1 : N ≤ 30 := by omega
        have hmax : max ((N : Int) - (K : Int)) 0 = (Q : Int) := by omega
        have hQe : ((Q : Int) == 0) = false := by simp; omega
        have hpe : ((p : Int) == 0) = false := by simpa using h0
        have hcne : ((c.toNat : Int) != 48) = true := by
          have : ¬ c.toNat = 48 := fun e => hc48 (UInt8.toNat_inj.1 e)
          simp; omega
        clear hsz HG f3 f4 hQ ht hDl hc hc48 HK
        go_upto_region 8 with fail
        go_cut [8] (fun o wc => o = .int .i64 (Q : Int) ∧ wc = w1)
        case first =>
          go_wp2
          go_meet
          case rel => exact ⟨by go_num, rfl⟩
        case rest =>
          obtain ⟨rfl, hwr⟩ := hcut
          obtain rfl := hwr.symm
          go_wp2_with (go_at_call 3; refine (r1 _ (by assumption)).mono ?_; rintro e w3 ⟨rfl, b3⟩)
          go_ret
          exact ⟨rfl, b3⟩
    · obtain ⟨i, hi⟩ : ∃ i, K - (k + 1) = i := ⟨_, rfl⟩
      have HI : Hid (K - k = i + 1) := by show _ = _; omega
      have hlt : i < sB.size := by omega
      have hi20 : i ≤ 20 := by omega
      have hg := HG.out i hlt
      have hd := dd_at W k (tailD p) (by have := HK.out; omega)
      rw [HK.out, hi] at hd
      rw [hd] at hg
      obtain ⟨d, hdd⟩ : ∃ d, W / 10 ^ k % 10 = d := ⟨_, rfl⟩
      have hst := div_step W k
      rw [hdd] at hst hg
      have hd9 : d < 10 := by omega
      obtain ⟨V, hV⟩ : ∃ V, W / 10 ^ (k + 1) = V := ⟨_, rfl⟩
      have hVW : V ≤ W := by rw [← hV]; exact Nat.div_le_self _ _
      rw [hV] at hst
      have HST : Hid (W / 10 ^ k = 10 * V + d) := hst
      obtain ⟨c, hc⟩ : ∃ c, UInt8.ofNat (48 + d) = c := ⟨_, rfl⟩
      have hcn : c.toNat = 48 + d := by rw [← hc]; exact byte_of d hd9
      rw [hc] at hg
      have hne : ((48 + (d : Int)) != 46) = true := by simp; omega
      rw [hV, hi]
      clear hd hst hdd hV hc hi
      go_wp2
      go_roundg k
      case measure => omega
      case rel => exact ⟨by omega, by rw [HST.out]; go_num, by rw [HI.out]; go_num, rfl⟩

end Go.Proofs.YtfcphcdhjjjjgaaDoor
