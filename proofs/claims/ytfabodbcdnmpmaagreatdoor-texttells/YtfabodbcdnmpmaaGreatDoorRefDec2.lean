/- What the document's own Print answers, for every int: the number's text; nothing that was there is written. -/
import Derived.Test.YtfabodbcdnmpmaaGreatDoorRefDec1
import Derived.Test.YtfabodbcdnmpmaaGreatDoorDec1
import Derived.WalkSpells
import Derived.Deep.DeepCutAuto
namespace Go.Proofs.YtfabodbcdnmpmaaGreatDoor
open Go.RowKit M

theorem rdigits_whole (N : Nat) (hN : N < 18446744073709551616) (w : World) :
    Calls Tryz.prog 44 #[.int .u64 ((N : Int) / 256), .int .i64 1] w fun e w' => e = .returned (.string ⟨(Lib.decDigits (N / 256)).toArray⟩) ∧ Below w.heap.size w w' := by
  have e : ((N : Int) / 256) = ((N / 256 : Nat) : Int) := by omega
  rw [e]
  exact digits_any (N / 256) 1 _ w (by omega) (by omega) (digs_dd _) (dd_len _ (by omega))
theorem rdigits_part (p : Nat) (hp : p < 256) (h0 : p ≠ 0) (w : World) :
    Calls Tryz.prog 44 #[.int .u64 ((p : Int) * 390625), .int .i64 8] w fun e w' => e = .returned (.string ⟨(pd p).toArray⟩) ∧ Below w.heap.size w w' := by
  have e : ((p : Int) * 390625) = ((p * 390625 : Nat) : Int) := by omega
  rw [e]
  exact digits_any (p * 390625) 8 _ w (by omega) (by omega) (digs_pd _ hp) (by rw [(pd_facts p hp h0).2.2]; decide)
theorem rdigits_1 (N : Nat) (hN : N < 18446744073709551616) (D : Txt) (hD : Lib.decDigits (N / 256) = D) (U : Int) (hU : U = (N : Int) / 256) (w : World) :
    Calls Tryz.prog 44 #[.int .u64 U, .int .i64 1] w fun e w' => e = .returned (.string ⟨D.toArray⟩) ∧ Below w.heap.size w w' := by
  subst hU hD
  exact rdigits_whole N hN w
theorem rdigits_8 (p : Nat) (hp : p < 256) (h0 : p ≠ 0) (P : Txt) (hP : pd p = P) (U : Int) (hU : U = (p : Int) * 390625) (w : World) :
    Calls Tryz.prog 44 #[.int .u64 U, .int .i64 8] w fun e w' => e = .returned (.string ⟨P.toArray⟩) ∧ Below w.heap.size w w' := by
  subst hU hP
  exact rdigits_part p hp h0 w
theorem text_app4 (a b c d : Txt) : ((⟨a.toArray⟩ : ByteArray) ++ (⟨b.toArray⟩ : ByteArray) ++ (⟨c.toArray⟩ : ByteArray) ++ (⟨d.toArray⟩ : ByteArray)) = ⟨(a ++ (b ++ c ++ d)).toArray⟩ := by
  rw [text_app, text_app, text_app]
  simp
theorem last_text (q : Txt) (c : UInt8) : ∃ s : ByteArray, s = ⟨(q ++ [c]).toArray⟩ ∧ s.size = q.length + 1 ∧ (∀ h : q.length < s.size, s[q.length] = c) ∧ s.extract 0 q.length = ⟨q.toArray⟩ := by
  refine ⟨_, rfl, ?_, ?_, ?_⟩
  · show (q ++ [c]).length = _
    simp
  · intro h
    rw [get_byte]
    simp [byteAt]
  · rw [Lib.extract_eq]
    simp

set_option maxRecDepth 100000 in
theorem rprint_any (n : Int) (w : World) (h1 : -9223372036854775808 ≤ n) (h2 : n ≤ 9223372036854775807) :
    Calls Tryz.prog 26 #[.int .i64 n] w fun e w' => e = .returned (.string ⟨(printL n).toArray⟩) ∧ Below w.heap.size w w' := by
  obtain ⟨N, hN⟩ : ∃ N, n.natAbs = N := ⟨_, rfl⟩
  have hN1 : N < 18446744073709551616 := by omega
  have ea := and255 N hN1
  obtain ⟨p, hp⟩ : ∃ p, N % 256 = p := ⟨_, rfl⟩
  rw [hp] at ea
  have hp1 : p < 256 := by omega
  obtain ⟨D, hD⟩ : ∃ D, Lib.decDigits (N / 256) = D := ⟨_, rfl⟩
  have hD1 : D.length ≤ 20 := by rw [← hD]; exact dd_len _ (by omega)
  have HP : Hid (printL n = (if n < 0 then [45] else []) ++ (D ++ tailD p)) := by
    show _ = _
    unfold printL printU
    rw [hN, hp, hD]
    split <;> rfl
  have hd1 := rdigits_1 N hN1 D hD
  by_cases hn : n < 0
  · have HP' : Hid (printL n = [45] ++ D ++ tailD p) := by
      have := HP.out
      rw [if_pos hn] at this
      rw [this, List.append_assoc]
      exact rfl
    clear HP
    have eN : IntKind.u64.wrap (-IntKind.u64.wrap n) = (N : Int) := by rw [wrapU, wrapU]; omega
    by_cases h0 : p = 0
    · subst h0
      clear hN hp hD
      go_enter Tryz.func26, Tryz.ntmps26
      go_wp2_with (go_at_call 44; refine (hd1 _ (by exact rfl) _).mono ?_; rintro e w1 ⟨rfl, b1⟩)
      go_ret
      exact ⟨by rw [HP'.out, tailD, if_pos rfl, List.append_nil]; exact congrArg (fun x => Ending.returned (.string x)) (text_app _ _), b1⟩
    · obtain ⟨hs1, hs2, hs3⟩ := pd_facts p hp1 h0
      obtain ⟨P, hP⟩ : ∃ P, pd p = P := ⟨_, rfl⟩
      have hd2 := rdigits_8 p hp1 h0 P hP
      rw [hP] at hs1 hs3
      clear hN hp hD hP
      have HS : Hid (strip P = decs p ∧ decs p ≠ []) := ⟨hs1, hs2⟩
      clear hs1 hs2
      go_enter Tryz.func26, Tryz.ntmps26
      go_upto_region 9 with (go_at_call 44; refine (hd1 _ (by exact rfl) _).mono ?_; rintro e w1 ⟨rfl, b1⟩)
      go_wp2_with (go_at_call 44; refine (hd2 _ (by exact rfl) _).mono ?_; rintro e w2 ⟨rfl, b2⟩)
      go_loopg [8] P.length (fun k sv wr => ∃ q : Txt, sv = .string ⟨q.toArray⟩ ∧ strip q = decs p ∧ k = q.length ∧ q.length ≤ 8 ∧ wr = w2)
      case atStart => exact ⟨P, rfl, HS.out.1, rfl, by omega, rfl⟩
      case round =>
        obtain ⟨q, rfl, hq1, hq2, hq3, hw⟩ := hrel
        obtain rfl := hw.symm
        rcases List.eq_nil_or_concat q with rfl | ⟨q', c, hqc⟩
        · exact absurd hq1.symm HS.out.2
        · rw [List.concat_eq_append] at hqc
          subst hqc
          obtain ⟨sB, hsB, hsz, hget, hex⟩ := last_text q' c
          have HB : Hid (sB = ⟨(q' ++ [c]).toArray⟩) := hsB
          rw [← hsB]
          have hlen : q'.length ≤ 8 := by simp at hq3; omega
          have HQ1 : Hid (strip (q' ++ [c]) = decs p) := hq1
          have HQ2 : Hid (gk = q'.length + 1) := by rw [hq2]; show _ = _; simp
          have hg := hget (by omega)
          clear hsB hq1 hq2 hq3 hget
          by_cases hc : c = 48
          · subst hc
            go_wp2
            go_roundg (gk - 1)
            case measure => have := HQ2.out; omega
            case rel => exact ⟨q', rfl, by rw [← strip_zero]; exact HQ1.out, by have := HQ2.out; omega, hlen, rfl⟩
          · have hc' : ¬ ((c.toNat : Int) = 48) := fun h => hc (UInt8.toNat_inj.1 (show c.toNat = 48 by omega))
            have HE : Hid (D ++ tailD p = D ++ [46] ++ (q' ++ [c])) := by
              show _ = _
              rw [tailD, if_neg h0, ← HQ1.out, strip_end _ _ hc]
              simp
            go_wp2
            go_ret
            refine ⟨?_, below_on b1 b2⟩
            rw [HP'.out, HB.out, List.append_assoc, HE.out]
            exact congrArg (fun x => Ending.returned (.string x)) (text_app4 [45] D [46] (q' ++ [c]))
  · have HP' : Hid (printL n = [] ++ D ++ tailD p) := by
      have := HP.out
      rw [if_neg hn] at this
      rw [this, List.append_assoc]
      exact rfl
    clear HP
    obtain rfl : n = (N : Int) := by omega
    by_cases h0 : p = 0
    · subst h0
      clear hN hp hD
      go_enter Tryz.func26, Tryz.ntmps26
      go_wp2_with (go_at_call 44; refine (hd1 _ (by exact rfl) _).mono ?_; rintro e w1 ⟨rfl, b1⟩)
      go_ret
      exact ⟨by rw [HP'.out, tailD, if_pos rfl, List.append_nil]; exact congrArg (fun x => Ending.returned (.string x)) (text_app _ _), b1⟩
    · obtain ⟨hs1, hs2, hs3⟩ := pd_facts p hp1 h0
      obtain ⟨P, hP⟩ : ∃ P, pd p = P := ⟨_, rfl⟩
      have hd2 := rdigits_8 p hp1 h0 P hP
      rw [hP] at hs1 hs3
      clear hN hp hD hP
      have HS : Hid (strip P = decs p ∧ decs p ≠ []) := ⟨hs1, hs2⟩
      clear hs1 hs2
      go_enter Tryz.func26, Tryz.ntmps26
      go_upto_region 9 with (go_at_call 44; refine (hd1 _ (by exact rfl) _).mono ?_; rintro e w1 ⟨rfl, b1⟩)
      go_wp2_with (go_at_call 44; refine (hd2 _ (by exact rfl) _).mono ?_; rintro e w2 ⟨rfl, b2⟩)
      go_loopg [8] P.length (fun k sv wr => ∃ q : Txt, sv = .string ⟨q.toArray⟩ ∧ strip q = decs p ∧ k = q.length ∧ q.length ≤ 8 ∧ wr = w2)
      case atStart => exact ⟨P, rfl, HS.out.1, rfl, by omega, rfl⟩
      case round =>
        obtain ⟨q, rfl, hq1, hq2, hq3, hw⟩ := hrel
        obtain rfl := hw.symm
        rcases List.eq_nil_or_concat q with rfl | ⟨q', c, hqc⟩
        · exact absurd hq1.symm HS.out.2
        · rw [List.concat_eq_append] at hqc
          subst hqc
          obtain ⟨sB, hsB, hsz, hget, hex⟩ := last_text q' c
          have HB : Hid (sB = ⟨(q' ++ [c]).toArray⟩) := hsB
          rw [← hsB]
          have hlen : q'.length ≤ 8 := by simp at hq3; omega
          have HQ1 : Hid (strip (q' ++ [c]) = decs p) := hq1
          have HQ2 : Hid (gk = q'.length + 1) := by rw [hq2]; show _ = _; simp
          have hg := hget (by omega)
          clear hsB hq1 hq2 hq3 hget
          by_cases hc : c = 48
          · subst hc
            go_wp2
            go_roundg (gk - 1)
            case measure => have := HQ2.out; omega
            case rel => exact ⟨q', rfl, by rw [← strip_zero]; exact HQ1.out, by have := HQ2.out; omega, hlen, rfl⟩
          · have hc' : ¬ ((c.toNat : Int) = 48) := fun h => hc (UInt8.toNat_inj.1 (show c.toNat = 48 by omega))
            have HE : Hid (D ++ tailD p = D ++ [46] ++ (q' ++ [c])) := by
              show _ = _
              rw [tailD, if_neg h0, ← HQ1.out, strip_end _ _ hc]
              simp
            go_wp2
            go_ret
            refine ⟨?_, below_on b1 b2⟩
            rw [HP'.out, HB.out, List.append_assoc, HE.out]
            exact congrArg (fun x => Ending.returned (.string x)) (text_app4 [] D [46] (q' ++ [c]))

end Go.Proofs.YtfabodbcdnmpmaaGreatDoor
