/- What the document's own num, small and words of chapter 9 answer: a small number in decimals, a word read as a small number, the words of a line. -/
import Derived.Test.YtfabodbcdnmpmaaGreatDoorRefDec1
import Derived.Test.YtfabodbcdnmpmaaGreatDoorRefDec4
import Derived.Test.YtfabodbcdnmpmaaGreatDoorTextK
import Derived.Test.YtfabodbcdnmpmaaGreatDoorTextM
import Derived.Test.YtfabodbcdnmpmaaGreatDoorMathX
namespace Go.Proofs.YtfabodbcdnmpmaaGreatDoor
open Go.RowKit M

theorem dg_nat (u : Nat) : dg (u : Int) = Lib.decDigits u := by unfold dg; simp
set_option maxRecDepth 100000 in
theorem num_any (u0 : Nat) (w : World) (hu : u0 ≤ 1000) : Calls Tryz.prog 25 #[.int .i64 (u0 : Int)] w fun e w' => e = .returned (tx (dg (u0 : Int))) ∧ Jk w w' := by
  obtain ⟨t, ht⟩ : ∃ t, dg (u0 : Int) = t := ⟨_, rfl⟩
  have hD : Digs u0 1 t := by rw [← ht, dg_nat]; exact digs_dd u0
  have hl : t.length ≤ 20 := by rw [← ht, dg_nat]; exact dd_len _ (by omega)
  rw [ht]
  clear ht
  go_enter Tryz.func25, Tryz.ntmps25
  go_wp2
  go_loopg [0, 3] t.length (fun k uv sv wr => ∃ (u : Nat) (q r : Txt), uv = .int .i64 (u : Int) ∧ sv = .string ⟨r.toArray⟩ ∧ Digs u (if r = [] then 1 else 0) q ∧ q ++ r = t ∧ k = q.length ∧ u ≤ 1000 ∧ Jk w wr)
  case atStart => exact ⟨u0, t, [], rfl, rfl, by simpa using hD, by simp, rfl, hu, Jk.refl _⟩
  case round =>
    obtain ⟨u, q, r, rfl, rfl, hd, hq, hk, hu1, hb⟩ := hrel
    have hr : r.length ≤ 20 := by
      have := congrArg List.length hq
      simp at this
      omega
    by_cases h0 : u = 0 ∧ r ≠ []
    · obtain ⟨rfl, h02⟩ := h0
      rw [if_neg h02] at hd
      obtain rfl := hd.zero
      rw [List.nil_append] at hq
      subst hq
      have h03 : r.isEmpty = false := by cases r with
        | nil => exact absurd rfl h02
        | cons c r => rfl
      go_wp2
      go_ret
      exact ⟨rfl, hb⟩
    · have h1 : ¬ (u = 0 ∧ (if r = [] then 1 else 0) = 0) := by
        rintro ⟨e1, e2⟩
        refine h0 ⟨e1, fun e => ?_⟩
        rw [if_pos e] at e2
        cases e2
      obtain ⟨q', rfl, hd'⟩ := hd.more h1
      have hl1 : (q' ++ [UInt8.ofNat (48 + u % 10)]).length = q'.length + 1 := by simp
      rw [hl1] at hk
      obtain ⟨c, hc⟩ : ∃ c, UInt8.ofNat (48 + u % 10) = c := ⟨_, rfl⟩
      have HC : Hid (48 + u % 10 = c.toNat) := by
        rw [← hc, UInt8.toNat_ofNat']; show _ = _; omega
      rw [hc] at hq
      have HQ : Hid (q' ++ [c] ++ r = t) := hq
      have HD : Hid (Digs (u / 10) (if c :: r = [] then 1 else 0) q') := by
        have e : (if r = [] then 1 else 0) - 1 = 0 := by split <;> rfl
        rw [e] at hd'
        rw [if_neg (by simp)]
        exact hd'
      have HB : Hid (Jk w wr) := hb
      have HK : Hid (gk = q'.length + 1) := hk
      have hcv : (convert 58 9 (.slice (some ⟨wr.heap.size, 0, none⟩) 1 1)).run Tryz.prog (wr.alloc (.cells #[.int .u8 (48 + (u : Int) % 10)] 5)) = .ok (.string ⟨#[c]⟩) (wr.alloc (.cells #[.int .u8 (48 + (u : Int) % 10)] 5)) := by
        refine run_convert_bytes_back _ 58 9 5 ⟨wr.heap.size, 0, none⟩ 1 [c] Tryz.underlying58 Tryz.underlying5 Tryz.underlying9 fun j hj => ?_
        obtain rfl : j = 0 := by simpa using hj
        rw [show (⟨wr.heap.size, 0, none⟩ : Addr).add 0 = ⟨wr.heap.size, 0, none⟩ from rfl, World.cell?_alloc_at _ _ _ _ rfl]
        have := HC.out
        simp
        omega
      have hp : 0 < u ∨ (u = 0 ∧ r = []) := by
        rcases Nat.eq_zero_or_pos u with h | h
        · right
          refine ⟨h, ?_⟩
          cases r with
          | nil => rfl
          | cons x r => exact absurd ⟨h, by simp⟩ h0
        · exact .inl h
      clear hd hd' hq hb hk hl1 hc h0 h1 hD
      rcases hp with hp | ⟨rfl, rfl⟩
      · go_wp2
        go_roundg (gk - 1)
        case measure => have := HK.out; omega
        case rel => exact ⟨u / 10, q', c :: r, by go_num, congrArg Value.string (text_app [c] r), HD.out, by rw [← HQ.out]; simp, by have := HK.out; omega, by omega, HB.out.alloc _⟩
      · rw [show (48 + ((0 : Nat) : Int) % 10) = 48 from rfl] at hcv
        go_wp2
        go_roundg (gk - 1)
        case measure => have := HK.out; omega
        case rel => exact ⟨0, q', [c], by go_num, congrArg Value.string (text_app [c] []), HD.out, by rw [← HQ.out]; simp, by have := HK.out; omega, by omega, HB.out.alloc _⟩

theorem foldD_snoc (s : Txt) (c : UInt8) : foldD (s ++ [c]) = 10 * foldD s + ((c.toNat : Int) - 48) := by
  unfold foldD
  rw [List.foldl_append]
  rfl
theorem smV_no {s : Txt} (h : smB s = false) : smV s = -1 := by unfold smV; rw [h]; rfl
theorem smV_yes {s : Txt} (h : smB s = true) : smV s = foldD s := by unfold smV; rw [if_pos h]
theorem foldD_bd : ∀ (s : Txt), s.length ≤ 2 → s.all isDig = true → 0 ≤ foldD s ∧ foldD s ≤ 99 := by
  have hb : ∀ c : UInt8, isDig c = true → 48 ≤ c.toNat ∧ c.toNat ≤ 57 := fun c h => by
    simpa [isDig] using h
  intro s hl h
  match s, hl with
  | [], _ => exact ⟨Int.le_refl 0, by decide⟩
  | [a], _ =>
    simp at h
    have := hb a h
    simp [foldD]
    omega
  | [a, b], _ =>
    simp at h
    have := hb a h.1
    have := hb b h.2
    simp [foldD]
    omega

set_option maxRecDepth 100000 in
theorem small_any6 (l : Txt) (w : World) (hl : l.length ≤ 1000000) : Calls Tryz.prog 16 #[tx l] w fun e w' => e = .returned (.int .i64 (smV l)) ∧ Jk w w' := by
  obtain ⟨V, hV⟩ : ∃ V, smV l = V := ⟨_, rfl⟩
  have HNo : Hid (smB l = false → V = -1) := fun h => by rw [← hV]; exact smV_no h
  have HYes : Hid (smB l = true → V = foldD l) := fun h => by rw [← hV]; exact smV_yes h
  rw [hV]
  clear hV
  obtain ⟨s, hs⟩ : ∃ s : ByteArray, s = ⟨l.toArray⟩ := ⟨_, rfl⟩
  have HSz : Hid (s.size = l.length) := by rw [hs]; exact text_size l
  have HGet : Hid (∀ j, ∀ h : j < s.size, s[j] = byteAt l j) := fun j h => by subst hs; exact text_byte l j h
  simp only [tx]
  rw [← hs]
  have hsz := HSz.out
  clear hs
  go_enter Tryz.func16, Tryz.ntmps16
  go_wp2
  go_loopg [4, 3] l.length (fun k i v wr => ∃ j : Nat, i = .int .i64 (j : Int) ∧ v = .int .i64 (foldD (l.take j)) ∧ j ≤ 2 ∧ (l.take j).all isDig = true ∧ j + k = l.length ∧ Hid (Jk w wr))
  case atStart => exact ⟨0, rfl, rfl, by omega, rfl, by omega, hid (Jk.refl _)⟩
  case round =>
    obtain ⟨j, rfl, rfl, hj2, ha, hj, HJ⟩ := hrel
    have hfb := foldD_bd (l.take j) (by simp; omega) ha
    by_cases hk : gk = 0
    · subst hk
      obtain rfl : j = l.length := by omega
      rw [List.take_of_length_le (Nat.le_refl _)] at ha hfb ⊢
      by_cases h0 : l.length = 0
      · obtain rfl : V = -1 := HNo.out (by simp [smB, h0])
        go_wp2
        go_ret
        exact ⟨rfl, HJ.out⟩
      · have hVF : V = foldD l := HYes.out (by simp [smB, ha]; omega)
        have h00 : ¬ (l.length : Int) = 0 := by omega
        have h00b : ((l.length : Int) == 0) = false := by simpa using h00
        rw [← hVF] at hfb ⊢
        clear hVF HNo HYes ha
        go_wp2
        go_ret
        exact ⟨rfl, HJ.out⟩
    · have hjl : j < l.length := by omega
      have hlt : (j : Int) < (l.length : Int) := by omega
      have hg := HGet.out j (by omega)
      have HTk : Hid (l.take (j + 1) = l.take j ++ [byteAt l j]) := take_byte l j hjl
      obtain ⟨b, hb⟩ : ∃ b, byteAt l j = b := ⟨_, rfl⟩
      rw [hb] at hg HTk
      have hb256 := b.toNat_lt
      have HIn : Hid (b ∈ l) := by
        rw [← hb]
        show _ ∈ l
        simp [byteAt, hjl]
      obtain ⟨F, hF⟩ : ∃ F, foldD (l.take j) = F := ⟨_, rfl⟩
      have HF : Hid (foldD (l.take (j + 1)) = 10 * F + ((b.toNat : Int) - 48)) := by rw [HTk.out, foldD_snoc, hF]; exact rfl
      rw [hF] at hfb ⊢
      have HA : Hid ((l.take j).all isDig = true) := ha
      clear hb hF ha
      by_cases hd : 48 ≤ b.toNat ∧ b.toNat ≤ 57
      · by_cases hj1 : j ≤ 1
        · have HD : Hid (isDig b = true) := by show _ = _; simp [isDig]; omega
          have d1 : ¬ (b.toNat : Int) < 48 := by omega
          have d2 : ¬ 57 < (b.toNat : Int) := by omega
          have d3 : ¬ 1 < (j : Int) := by omega
          have e1 : IntKind.u8.wrap ((b.toNat : Int) - 48) = (b.toNat : Int) - 48 := by simp [IntKind.wrap, IntKind.signed, IntKind.bits]; omega
          have e2 : IntKind.i64.wrap ((b.toNat : Int) - 48) = (b.toNat : Int) - 48 := i64_in (by omega) (by omega)
          have e3 : IntKind.i64.wrap (10 * F) = 10 * F := i64_in (by omega) (by omega)
          have e4 : IntKind.i64.wrap (10 * F + ((b.toNat : Int) - 48)) = 10 * F + ((b.toNat : Int) - 48) := i64_in (by omega) (by omega)
          go_wp2
          go_roundg (gk - 1)
          case measure => omega
          case rel => exact ⟨j + 1, by go_num, by rw [HF.out], by omega, by rw [HTk.out, List.all_append, HA.out]; simp [HD.out], by omega, HJ⟩
        · obtain rfl : V = -1 := HNo.out (by simp [smB]; intro _; omega)
          clear HNo HYes
          have d1 : ¬ (b.toNat : Int) < 48 := by omega
          have d2 : ¬ 57 < (b.toNat : Int) := by omega
          have d3 : 1 < (j : Int) := by omega
          go_wp2
          go_ret
          exact ⟨rfl, HJ.out⟩
      · obtain rfl : V = -1 := HNo.out (by
          unfold smB
          have : l.all isDig = false := by
            rw [Bool.eq_false_iff]
            intro h
            have := List.all_eq_true.1 h b HIn.out
            simp [isDig] at this
            omega
          rw [this]
          rfl)
        by_cases h1 : b.toNat < 48
        · have d1 : (b.toNat : Int) < 48 := by omega
          go_wp2
          go_ret
          exact ⟨rfl, HJ.out⟩
        · have d1 : ¬ (b.toNat : Int) < 48 := by omega
          have d2 : 57 < (b.toNat : Int) := by omega
          go_wp2
          go_ret
          exact ⟨rfl, HJ.out⟩

/-- the words of a line, in memory -/
def GotWs (w : World) (W : List Txt) (e : Ending) (w' : World) : Prop := ∃ (g c : Nat), e = .returned (.slice (some ⟨g, 0, none⟩) W.length c) ∧ AtS w' g 0 W ∧ g < w'.heap.size ∧ w.heap.size ≤ g ∧ W.length ≤ c ∧ c ≤ maxLen ∧ Jk w w'
theorem wordsF_ne : ∀ (l u : Txt), wordsF u l ≠ []
  | [], u => by simp [wordsF]
  | c :: r, u => by
    rw [wordsF]
    split
    · simp
    · exact wordsF_ne r _
theorem wordsF_len : ∀ (l u : Txt), (wordsF u l).length ≤ l.length + 1
  | [], u => by simp [wordsF]
  | c :: r, u => by
    rw [wordsF]
    split
    · have := wordsF_len r []
      simp only [List.length_cons]
      omega
    · have := wordsF_len r (u ++ [c])
      simp only [List.length_cons]
      omega

set_option maxRecDepth 100000 in
set_option maxHeartbeats 1600000 in
theorem words_any (l : Txt) (w : World) (hl : l.length ≤ 900) : Calls Tryz.prog 15 #[tx l] w fun e w' => GotWs w (wordsF [] l) e w' := by
  obtain ⟨W, hW⟩ : ∃ W, wordsF [] l = W := ⟨_, rfl⟩
  have HNe : Hid (W ≠ [] ∧ W.length ≤ l.length + 1) := by rw [← hW]; exact ⟨wordsF_ne l [], wordsF_len l []⟩
  obtain ⟨s, hs⟩ : ∃ s : ByteArray, s = ⟨l.toArray⟩ := ⟨_, rfl⟩
  have HSz : Hid (s.size = l.length) := by rw [hs]; exact text_size l
  have HGet : Hid (∀ j, ∀ h : j < s.size, s[j] = byteAt l j) := fun j h => by subst hs; exact text_byte l j h
  have HCut : Hid (∀ j, j < l.length → s.extract j (j + 1) = ⟨#[byteAt l j]⟩) := fun j hj => by
    subst hs
    rw [Lib.extract_eq]
    have e : (l.drop j).take (j + 1 - j) = [byteAt l j] := by
      rw [drop_byte l j hj, show j + 1 - j = 1 by omega]
      rfl
    simp only
    rw [e]
  simp only [tx]
  rw [← hs, hW]
  have hsz := HSz.out
  clear hs
  go_enter Tryz.func15, Tryz.ntmps15
  go_wp2
  go_loopg [5, 3, 4] (l.length + 1) (fun k i ov uv wr => ∃ (j : Nat) (L : List Txt) (u : Txt), i = .int .i64 (j : Int) ∧ uv = .string ⟨u.toArray⟩ ∧ j + k = l.length + 1 ∧ Hid (OwnS w.heap.size wr ov L.length L) ∧ Hid (Jk w wr) ∧ Hid (j ≤ l.length → L ++ wordsF u (l.drop j) = W) ∧ Hid (j = l.length + 1 → L = W) ∧ L.length ≤ j ∧ u.length ≤ j)
  case atStart => exact ⟨0, [], [], rfl, rfl, by omega, hid (OwnS.nil _ _), hid (Jk.refl _), hid (fun _ => by rw [List.drop_zero]; exact hW), hid (fun h => by omega), by simp, by simp⟩
  case round =>
    obtain ⟨j, L, u, rfl, rfl, hj, HO, HJ, HA, HB, hLj, hu⟩ := hrel
    have hbase := HO.out.base
    have hszw := HJ.out.below.size
    by_cases hk : gk = 0
    · subst hk
      obtain rfl : j = l.length + 1 := by omega
      obtain rfl := HB.out rfl
      have h1 : ¬ (((l.length + 1 : Nat) : Int) ≤ (l.length : Int)) := by omega
      obtain ⟨a, c, e, q1, q2, q3⟩ := row_form HO.out.2
      subst e
      obtain ⟨g, rfl, hg1, hg2⟩ := q3 (List.length_pos_iff.2 HNe.out.1)
      clear hbase
      go_wp2
      go_ret
      exact ⟨g, c, rfl, HO.out.at, hg2, hg1, q1, q2, HJ.out⟩
    · have hle : (j : Int) ≤ (l.length : Int) := by omega
      by_cases hjl : j = l.length
      · subst hjl
        have HW : Hid (L ++ [u] = W) := by
          have := HA.out (Nat.le_refl _)
          rwa [List.drop_length] at this
        clear hle hbase
        go_wp2_with (at_builtin; refine list_appS rfl _ _ rfl (HO.out.jk ((Jk.refl wr).alloc _)) (by rw [World.size_alloc]; omega) rfl wr.heap.size 0 1 1 [u] rfl (by decide) rfl (fun i hi => (by simp at hi; subst hi; exact new_cells wr #[tx u] _ _ rfl 0 _ rfl)) (by omega) ?_; intro g6 c6 w6 hO6 hG6; have HO6 := hid hO6; have HG6 : Hid (Jk w w6) := (HJ.out.alloc _).grown hG6 (fun k hk => by have := HO.out.base k hk; omega); clear hO6 hG6)
        go_roundg (gk - 1)
        case measure => omega
        case rel => exact ⟨l.length + 1, L ++ [u], [], by go_num, rfl, by omega, by rw [List.length_append]; exact hid HO6.out, HG6, hid (fun h => by omega), hid (fun _ => HW.out), by simp; omega, by simp⟩
      · have hlt : j < l.length := by omega
        have hne : ¬ (j : Int) = (l.length : Int) := by omega
        have hl2 : (j : Int) < (l.length : Int) := by omega
        have hg := HGet.out j (by omega)
        have hcut := HCut.out j hlt
        have HAj : Hid (L ++ wordsF u (byteAt l j :: l.drop (j + 1)) = W) := by rw [← drop_byte l j hlt]; exact HA.out (by omega)
        obtain ⟨b, hb⟩ : ∃ b, byteAt l j = b := ⟨_, rfl⟩
        rw [hb] at hg hcut HAj
        clear hb hle hbase
        by_cases hc : b = 32
        · subst hc
          have HW : Hid ((L ++ [u]) ++ wordsF [] (l.drop (j + 1)) = W) := by
            have := HAj.out
            rw [wordsF, if_pos rfl] at this
            rw [List.append_assoc]
            exact this
          clear hcut
          go_wp2_with (at_builtin; refine list_appS rfl _ _ rfl (HO.out.jk ((Jk.refl wr).alloc _)) (by rw [World.size_alloc]; omega) rfl wr.heap.size 0 1 1 [u] rfl (by decide) rfl (fun i hi => (by simp at hi; subst hi; exact new_cells wr #[tx u] _ _ rfl 0 _ rfl)) (by omega) ?_; intro g6 c6 w6 hO6 hG6; have HO6 := hid hO6; have HG6 : Hid (Jk w w6) := (HJ.out.alloc _).grown hG6 (fun k hk => by have := HO.out.base k hk; omega); clear hO6 hG6)
          go_roundg (gk - 1)
          case measure => omega
          case rel => exact ⟨j + 1, L ++ [u], [], by go_num, rfl, by omega, by rw [List.length_append]; exact hid HO6.out, HG6, hid (fun _ => HW.out), hid (fun h => by omega), by simp; omega, by simp⟩
        · have hi1 : ¬ ((b.toNat : Int) = 32) := fun h => hc (UInt8.toNat_inj.1 (show b.toNat = 32 by omega))
          have hb1 : ((b.toNat : Int) == 32) = false := by simpa using hi1
          have HW : Hid (L ++ wordsF (u ++ [b]) (l.drop (j + 1)) = W) := by
            have := HAj.out
            rw [wordsF, if_neg hc] at this
            exact this
          go_wp2
          go_roundg (gk - 1)
          case measure => omega
          case rel => exact ⟨j + 1, L, u ++ [b], by go_num, congrArg Value.string (text_app u [b]), by omega, HO, HJ, hid (fun _ => HW.out), hid (fun h => by omega), by omega, by simp; omega⟩

end Go.Proofs.YtfabodbcdnmpmaaGreatDoor
