/- What the document's own 'candidates' answers, for every text of less than 2^40 bytes: nothing, or one number; nothing that was there is written. -/
import Derived.Test.YtfabodbcdnmpmaaGreatDoorRefDec2
namespace Go.Proofs.YtfabodbcdnmpmaaGreatDoor
open Go.RowKit M

def CandPost (w : World) (r : Option Int) (e : Ending) (w' : World) : Prop :=
  match r with
  | none => e = .returned (.slice none 0 0) ∧ w' = w
  | some n => ∃ g, e = .returned (.slice (some ⟨g, 0, none⟩) 1 1) ∧ w'.cell? ⟨g, 0, none⟩ = some (.int .i64 n) ∧ Below w.heap.size w w'

def finW (m : Bool) (W F : Nat) : Option Int :=
  if 36028797018963968 < W ∨ F % 390625 ≠ 0 then none
  else if m = true ∧ W = 36028797018963968 ∧ F = 0 then some (-9223372036854775808)
  else if W = 36028797018963968 then none
  else some (if m = true then -((W * 256 + F / 390625 : Nat) : Int) else ((W * 256 + F / 390625 : Nat) : Int))
theorem fold_step {f : Bool} {st st' : St} {c : UInt8} {r : Txt} {R : Option St} (h : foldS f st (c :: r) = R) (hs : stepS f st c = some st') : foldS false st' r = R := by
  rw [foldS, hs] at h
  exact h
theorem fold_stop {f : Bool} {st : St} {c : UInt8} {r : Txt} {R : Option St} (h : foldS f st (c :: r) = R) (hs : stepS f st c = none) : R = none := by
  rw [foldS, hs] at h
  exact h.symm
theorem byte_int {c : UInt8} {k : Nat} (hk : k < 256) (h : ¬ c = UInt8.ofNat k) : ¬ ((c.toNat : Int) = (k : Int)) := fun e => h (UInt8.toNat_inj.1 (by rw [UInt8.toNat_ofNat']; omega))

theorem byte_ne {c : UInt8} {k : Nat} (hk : k < 256) (h : ¬ c = UInt8.ofNat k) : ((c.toNat : Int) == (k : Int)) = false := by
  simpa using byte_int hk h
theorem cand_nil {w : World} {r : Option Int} {R : Option St} {m : Bool} (hR : R = none) (h : r = R.bind (finish m)) : CandPost w r (.returned (.slice none 0 0)) w := by
  subst hR h
  exact ⟨rfl, rfl⟩
theorem step_out {f : Bool} {st : St} {c : UInt8} (h1 : ¬ (c = 45 ∧ f = true)) (h2 : ¬ (c = 46 ∧ st.point = false)) (h3 : c.toNat < 48 ∨ 57 < c.toNat) : stepS f st c = none := by
  unfold stepS
  rw [if_neg h1, if_neg h2, if_pos h3]
theorem step_part {f : Bool} {W P L : Nat} {c : UInt8} (h1 : 48 ≤ c.toNat) (h2 : c.toNat ≤ 57) :
    stepS f ⟨W, P, L, true⟩ c = if L = 8 then none else some ⟨W, 10 * P + (c.toNat - 48), L + 1, true⟩ := by
  have n1 : ¬ c = 45 := fun h => by subst h; revert h1; decide
  have n2 : ¬ c = 46 := fun h => by subst h; revert h1; decide
  unfold stepS
  rw [if_neg (fun h => n1 h.1), if_neg (fun h => n2 h.1), if_neg (by omega), if_pos rfl]
theorem step_whole {f : Bool} {W P L : Nat} {c : UInt8} (h1 : 48 ≤ c.toNat) (h2 : c.toNat ≤ 57) :
    stepS f ⟨W, P, L, false⟩ c = if 36028797018963968 < W then none else some ⟨10 * W + (c.toNat - 48), P, L, false⟩ := by
  have n1 : ¬ c = 45 := fun h => by subst h; revert h1; decide
  have n2 : ¬ c = 46 := fun h => by subst h; revert h1; decide
  unfold stepS
  rw [if_neg (fun h => n1 h.1), if_neg (fun h => n2 h.1), if_neg (by omega), if_neg (by simp)]

set_option maxRecDepth 100000 in
set_option maxHeartbeats 3200000 in
theorem cands_any (s : ByteArray) (w : World) (hs : s.size < 1099511627776) :
    Calls Tryz.prog 33 #[.string s] w fun e w' => CandPost w (candL s.data.toList) e w' := by
  obtain ⟨l, hl⟩ : ∃ l, s.data.toList = l := ⟨_, rfl⟩
  have hlen : l.length = s.size := by rw [← hl]; simp
  obtain ⟨R, hR⟩ : ∃ R, foldS true ⟨0, 0, 0, false⟩ l = R := ⟨_, rfl⟩
  obtain ⟨m, hm⟩ : ∃ m, minusB l = m := ⟨_, rfl⟩
  have HC : Hid (candL s.data.toList = R.bind (finish m)) := by
    show _ = _
    unfold candL
    rw [hl, hR, hm]
  have hget : ∀ i (h : i < s.size), s[i] = byteAt l i := fun i h => by rw [get_byte, hl]
  -- the sign
  have hmm : (s.size = 0 ∧ m = false) ∨ (0 < s.size ∧ m = (byteAt l 0 == 45)) := by
    rw [← hm]
    cases l with
    | nil => exact .inl ⟨hlen.symm, rfl⟩
    | cons c r => exact .inr ⟨by rw [← hlen]; simp, by simp [minusB, byteAt]⟩
  have HG : Hid (∀ i (h : i < s.size), s[i] = byteAt l i) := hget
  have HL : Hid (s.data.toList = l) := hl
  have HR : Hid (foldS true ⟨0, 0, 0, false⟩ l = R) := hR
  clear hl hR hm
  clear hget
  go_enter Tryz.func33, Tryz.ntmps33
  go_upto_region 2 with fail
  go_cut [7] (fun o wc => o = .bool m ∧ wc = w)
  case first =>
    rcases hmm with ⟨h0, rfl⟩ | ⟨h0, hmb⟩
    · go_wp2
      go_meet
      case rel => exact ⟨rfl, rfl⟩
    · have hg := HG.out 0 h0
      obtain ⟨c, hc⟩ : ∃ c, byteAt l 0 = c := ⟨_, rfl⟩
      rw [hc] at hg hmb
      by_cases h45 : c = 45
      · subst h45
        obtain rfl : m = true := hmb
        clear hc
        go_wp2
        go_meet
        case rel => exact ⟨rfl, rfl⟩
      · have h45' : ((c.toNat : Int) == 45) = false := byte_ne (k := 45) (by decide) h45
        obtain rfl : m = false := by rw [hmb]; simpa using h45
        clear hc hmb
        go_wp2
        go_meet
        case rel => exact ⟨rfl, rfl⟩
  case rest =>
    obtain ⟨rfl, hw⟩ := hcut
    obtain rfl := hw.symm
    clear hmm
    go_wp2
    go_loopg [3, 4, 5, 6, 8] s.size (fun k wv pv plv ptv iv wr => ∃ (i : Nat) (st : St), i + k = s.size ∧ iv = .int .i64 (i : Int) ∧ wv = .int .i64 (st.whole : Int) ∧ pv = .int .i64 (st.part : Int) ∧ plv = .int .i64 (st.places : Int) ∧ ptv = .bool st.point ∧ GoodSt st ∧ foldS (decide (i = 0)) st (l.drop i) = R ∧ wr = w)
    case atStart => exact ⟨0, ⟨0, 0, 0, false⟩, by omega, rfl, rfl, rfl, rfl, rfl, ⟨by decide, by decide, by decide⟩, HR.out, rfl⟩
    case round =>
      obtain ⟨i, ⟨W, P, L, b⟩, hi, rfl, rfl, rfl, rfl, rfl, hgood, hfold, hw⟩ := hrel
      obtain rfl := hw.symm
      obtain ⟨g1, g2, g3⟩ := id hgood
      simp only at g1 g2 g3
      have gP : P < 100000000 := Nat.lt_of_lt_of_le g2 (Nat.le_trans (Nat.pow_le_pow_right (by decide) g3) (by decide))
      by_cases hlt : i < s.size
      · rw [drop_byte l i (by omega)] at hfold
        have hg := HG.out i hlt
        obtain ⟨c, hc⟩ : ∃ c, byteAt l i = c := ⟨_, rfl⟩
        rw [hc] at hg hfold
        clear hc
        have hc2 := c.toNat_lt
        have HF : Hid (foldS (decide (i = 0)) ⟨W, P, L, b⟩ (c :: l.drop (i + 1)) = R) := hfold
        have HGd : Hid (GoodSt ⟨W, P, L, b⟩) := hgood
        have hd1 : decide (i + 1 = 0) = false := by simp
        clear hfold hgood g2
        by_cases c1 : c = 45
        · subst c1
          by_cases i0 : i = 0
          · subst i0
            have hst : stepS (decide (0 = 0)) ⟨W, P, L, b⟩ 45 = some ⟨W, P, L, b⟩ := rfl
            have HN : Hid (foldS false ⟨W, P, L, b⟩ (l.drop 1) = R) := fold_step HF.out hst
            clear HF hst
            go_wp2
            go_roundg (gk - 1)
            case measure => omega
            case rel => exact ⟨1, ⟨W, P, L, b⟩, by omega, by go_num, rfl, rfl, rfl, rfl, HGd.out, HN.out, rfl⟩
          · have HN : Hid (R = none) := fold_stop HF.out (step_out (by simpa using i0) (by simp) (by decide))
            have i0' : ((i : Int) == 0) = false := by simpa using i0
            clear HF
            go_wp2
            go_ret
            exact cand_nil HN.out HC.out
        · have c1' : ((c.toNat : Int) == 45) = false := byte_ne (k := 45) (by decide) c1
          by_cases c2 : c = 46
          · subst c2
            cases b
            · have hst : stepS (decide (i = 0)) ⟨W, P, L, false⟩ 46 = some ⟨W, P, L, true⟩ := by simp [stepS]
              have HN : Hid (foldS false ⟨W, P, L, true⟩ (l.drop (i + 1)) = R) := fold_step HF.out hst
              have HG2 : Hid (GoodSt ⟨W, P, L, true⟩) := HGd.out
              clear HF hst HGd
              go_wp2
              go_roundg (gk - 1)
              case measure => omega
              case rel => exact ⟨i + 1, ⟨W, P, L, true⟩, by omega, by go_num, rfl, rfl, rfl, rfl, HG2.out, by rw [hd1]; exact HN.out, rfl⟩
            · have HN : Hid (R = none) := fold_stop HF.out (step_out (by simp) (by simp) (by decide))
              clear HF
              go_wp2
              go_ret
              exact cand_nil HN.out HC.out
          · have c2' : ((c.toNat : Int) == 46) = false := byte_ne (k := 46) (by decide) c2
            by_cases c3 : c.toNat < 48
            · have HN : Hid (R = none) := fold_stop HF.out (step_out (fun h => c1 h.1) (fun h => c2 h.1) (.inl c3))
              clear HF
              go_wp2
              go_ret
              exact cand_nil HN.out HC.out
            · by_cases c4 : 57 < c.toNat
              · have HN : Hid (R = none) := fold_stop HF.out (step_out (fun h => c1 h.1) (fun h => c2 h.1) (.inr c4))
                clear HF
                go_wp2
                go_ret
                exact cand_nil HN.out HC.out
              · have c5 : 48 ≤ c.toNat := by omega
                have c6 : c.toNat ≤ 57 := by omega
                cases b
                · have hst := step_whole (f := decide (i = 0)) (W := W) (P := P) (L := L) c5 c6
                  by_cases hW : 36028797018963968 < W
                  · rw [if_pos hW] at hst
                    have HN : Hid (R = none) := fold_stop HF.out hst
                    clear HF hst
                    go_wp2
                    go_ret
                    exact cand_nil HN.out HC.out
                  · rw [if_neg hW] at hst
                    have HN : Hid (foldS false ⟨10 * W + (c.toNat - 48), P, L, false⟩ (l.drop (i + 1)) = R) := fold_step HF.out hst
                    have HG2 : Hid (GoodSt ⟨10 * W + (c.toNat - 48), P, L, false⟩) := stepS_good HGd.out hst
                    clear HF hst HGd
                    go_wp2
                    go_roundg (gk - 1)
                    case measure => omega
                    case rel => exact ⟨i + 1, ⟨10 * W + (c.toNat - 48), P, L, false⟩, by omega, by go_num, by go_num, rfl, rfl, rfl, HG2.out, by rw [hd1]; exact HN.out, rfl⟩
                · have hst := step_part (f := decide (i = 0)) (W := W) (P := P) (L := L) c5 c6
                  by_cases hL : L = 8
                  · rw [if_pos hL] at hst
                    have HN : Hid (R = none) := fold_stop HF.out hst
                    clear HF hst
                    subst hL
                    go_wp2
                    go_ret
                    exact cand_nil HN.out HC.out
                  · rw [if_neg hL] at hst
                    have HN : Hid (foldS false ⟨W, 10 * P + (c.toNat - 48), L + 1, true⟩ (l.drop (i + 1)) = R) := fold_step HF.out hst
                    have HG2 : Hid (GoodSt ⟨W, 10 * P + (c.toNat - 48), L + 1, true⟩) := stepS_good HGd.out hst
                    have hL' : ((L : Int) == 8) = false := by simp; omega
                    clear HF hst HGd
                    go_wp2
                    go_roundg (gk - 1)
                    case measure => omega
                    case rel => exact ⟨i + 1, ⟨W, 10 * P + (c.toNat - 48), L + 1, true⟩, by omega, by go_num, rfl, by go_num, by go_num, rfl, HG2.out, by rw [hd1]; exact HN.out, rfl⟩
      · obtain ⟨F, hF⟩ : ∃ F, fill ⟨W, P, L, b⟩ = F := ⟨_, rfl⟩
        have hF1 : F < 100000000 := by rw [← hF]; exact fill_lt hgood
        have HF2 : Hid (P * 10 ^ (8 - L) = F) := hF
        have HC2 : Hid (candL s.data.toList = finW m W F) := by
          show _ = _
          rw [HC.out, ← hfold, List.drop_eq_nil_of_le (by omega)]
          show finish m ⟨W, P, L, b⟩ = _
          unfold finish finW
          rw [hF]
        clear hfold hgood g2 hF HC HR
        go_wp2
        go_loopg [4, 5] (8 - L) (fun k pv plv wr => ∃ (P' L' : Nat), L' + k = 8 ∧ pv = .int .i64 (P' : Int) ∧ plv = .int .i64 (L' : Int) ∧ P' * 10 ^ k = F ∧ wr = w)
        case atStart => exact ⟨P, L, by omega, rfl, rfl, HF2.out, rfl⟩
        case round =>
          clear HF2
          obtain ⟨P', L', hL, rfl, rfl, hP, hw⟩ := hrel
          obtain rfl := hw.symm
          rcases gk with _ | k
          · obtain rfl : L' = 8 := by omega
            rw [Nat.pow_zero, Nat.mul_one] at hP
            subst hP
            by_cases f1 : 36028797018963968 < W
            · have HN : Hid (finW m W P' = none) := by show _ = _; unfold finW; rw [if_pos (.inl f1)]
              go_wp2
              go_ret
              rw [HC2.out, HN.out]
              exact ⟨rfl, rfl⟩
            · by_cases f2 : P' % 390625 ≠ 0
              · have HN : Hid (finW m W P' = none) := by show _ = _; unfold finW; rw [if_pos (.inr f2)]
                have f2' : ((P' : Int) % 390625 != 0) = true := by simp; omega
                go_wp2
                go_ret
                rw [HC2.out, HN.out]
                exact ⟨rfl, rfl⟩
              · have f2' : ((P' : Int) % 390625 != 0) = false := by simp; omega
                have hfin : ¬ (36028797018963968 < W ∨ P' % 390625 ≠ 0) := fun h => h.elim f1 f2
                clear f2
                by_cases hW : W = 36028797018963968
                · cases m
                  · have HN : Hid (finW false W P' = none) := by show _ = _; unfold finW; rw [if_neg hfin, if_neg (by simp), if_pos hW]
                    subst hW
                    clear hfin
                    go_wp2
                    go_ret
                    rw [HC2.out, HN.out]
                    exact ⟨rfl, rfl⟩
                  · by_cases hP0 : P' = 0
                    · have HN : Hid (finW true W P' = some (-9223372036854775808)) := by show _ = _; unfold finW; rw [if_neg hfin, if_pos ⟨rfl, hW, hP0⟩]
                      subst hW hP0
                      clear hfin
                      go_wp2
                      go_ret
                      rw [HC2.out, HN.out]
                      exact ⟨w.heap.size, rfl, by rw [World.cell?_alloc_at _ _ _ _ rfl]; rfl, (Below.refl _ w).alloc (Nat.le_refl _) _⟩
                    · have HN : Hid (finW true W P' = none) := by show _ = _; unfold finW; rw [if_neg hfin, if_neg (fun h => hP0 h.2.2), if_pos hW]
                      have hP0' : ((P' : Int) == 0) = false := by simpa using hP0
                      subst hW
                      clear hfin
                      go_wp2
                      go_ret
                      rw [HC2.out, HN.out]
                      exact ⟨rfl, rfl⟩
                · have hW' : ((W : Int) == 36028797018963968) = false := by simp; omega
                  cases m
                  · have HN : Hid (finW false W P' = some ((W : Int) * 256 + (P' : Int) / 390625)) := by
                      show _ = _; unfold finW; rw [if_neg hfin, if_neg (by simp), if_neg hW, if_neg (by simp)]; simp
                    clear hfin
                    go_wp2
                    go_ret
                    rw [HC2.out, HN.out]
                    exact ⟨w.heap.size, rfl, by rw [World.cell?_alloc_at _ _ _ _ rfl]; rfl, (Below.refl _ w).alloc (Nat.le_refl _) _⟩
                  · have HN : Hid (finW true W P' = some (-((W : Int) * 256 + (P' : Int) / 390625))) := by
                      show _ = _; unfold finW; rw [if_neg hfin, if_neg (fun h => hW h.2.1), if_neg hW, if_pos rfl]; simp
                    clear hfin
                    go_wp2
                    go_ret
                    rw [HC2.out, HN.out]
                    exact ⟨w.heap.size, rfl, by rw [World.cell?_alloc_at _ _ _ _ rfl]; rfl, (Below.refl _ w).alloc (Nat.le_refl _) _⟩
          · have hP2 : 10 * P' * 10 ^ k = F := by rw [← hP, Nat.pow_succ, Nat.mul_comm 10 P', Nat.mul_assoc, Nat.mul_comm 10 (10 ^ k)]
            have hP3 : 10 * P' ≤ F := by rw [← hP2]; exact Nat.le_mul_of_pos_right _ (Nat.pos_of_ne_zero (by simp))
            have HP2 : Hid (10 * P' * 10 ^ k = F) := hP2
            have HL : Hid (L' + (k + 1) = 8) := hL
            have hL8 : L' < 8 := by omega
            clear hP hP2 hL
            go_wp2
            go_roundg k
            case measure => omega
            case rel => exact ⟨10 * P', L' + 1, by have := HL.out; omega, by go_num, by go_num, HP2.out, rfl⟩

end Go.Proofs.YtfabodbcdnmpmaaGreatDoor
