/- The reader of package text: what take, small and number answer, on any text; the reader alone is written.
   The reader of package text: what small answers, on any text.
   The reader of package text: what number answers, on any text.
   The reader of package text: what node answers, on any text; the reader alone is written. -/
import Derived.Test.YtfabodbcdnmpmaaGreatDoorTextK
import Derived.BigRegion
import Derived.Test.YtfabodbcdnmpmaaGreatDoorDec1
import Derived.Test.YtfabodbcdnmpmaaGreatDoorNodeD
namespace Go.Proofs.YtfabodbcdnmpmaaGreatDoor
open Go.RowKit M

/-- the reader, in block b -/
def RdB (w : World) (b : Nat) (l : Txt) (f : Bool) : Prop := w.heap[b]? = some (.cells #[tx l, .bool f] 46 (0, 0))
theorem RdB.lt {w : World} {b : Nat} {l : Txt} {f : Bool} (h : RdB w b l f) : b < w.heap.size := (Array.getElem?_eq_some_iff.1 h).1
theorem RdB.c0 {w : World} {b : Nat} {l : Txt} {f : Bool} (h : RdB w b l f) : w.cell? ⟨b, 0, none⟩ = some (tx l) := by rw [cell_of_row _ _ _ _ _ _ h]; rfl
theorem RdB.c1 {w : World} {b : Nat} {l : Txt} {f : Bool} (h : RdB w b l f) : w.cell? ⟨b, 1, none⟩ = some (.bool f) := by rw [cell_of_row _ _ _ _ _ _ h]; rfl
theorem RdB.fr {w : World} {b : Nat} {l : Txt} {f : Bool} (h : RdB w b l f) (q : Nat) : w.frozen? ⟨b, q, none⟩ = false := frozen_of_row _ _ _ _ _ h
theorem RdB.set {w : World} {b : Nat} {l : Txt} {f : Bool} (h : RdB w b l f) (l' : Txt) (f' : Bool) : RdB ((w.setCell ⟨b, 0, none⟩ (tx l')).setCell ⟨b, 1, none⟩ (.bool f')) b l' f' := heap_setCell_same _ _ _ _ _ _ (heap_setCell_same _ _ _ _ _ _ h)
theorem RdB.jk {w w' : World} {b : Nat} {l : Txt} {f : Bool} (h : RdB w b l f) (hj : Jk w w') : RdB w' b l f := (hj.below.block b h.lt).trans h
/-- what a call on the reader leaves -/
def RdP (w : World) (b : Nat) (v : Value) (s : Rst) (e : Ending) (w' : World) : Prop := e = .returned v ∧ RdB w' b s.1 s.2 ∧ w.grownBy w' (some b)
theorem Jk.by {w w' : World} (h : Jk w w') (b : Nat) : w.grownBy w' (some b) := ⟨h.below.os, h.below.tape, h.below.output, h.below.size, fun k hk _ => h.below.block k hk⟩
theorem grown_two (w : World) (b : Nat) (x y : Value) : w.grownBy ((w.setCell ⟨b, 0, none⟩ x).setCell ⟨b, 1, none⟩ y) (some b) := (grown_set w b 0 x).trans (grown_set _ b 1 y)

theorem end_none {P : Program} {fn : Func} {R : Ending → World → Prop} {a : Act} {w : World} (hr : fn.results = #[]) (hd : a.defers = []) (hR : R (.returned (.tuple #[])) w) : bodyPost P fn R .normal a w := by
  refine bodyPost_ret (v := .tuple #[]) (results_none hr _ _ _) hd hR

set_option maxRecDepth 100000 in
theorem take_any {wb : World} (hL : LibP wb) (p l : Txt) (f : Bool) {w : World} {b : Nat} (h : RdB w b l f) :
    Calls Tryz.prog 30 #[.pointer (some ⟨b, 0, none⟩), tx p] w fun e w' => RdP w b (.tuple #[]) (takeR p (l, f)) e w' := by
  have HC := hid (hL.cut p l)
  have HB := hid h
  have c0 := h.c0
  have c1 := h.c1
  have f0 := h.fr 0
  have f1 := h.fr 1
  have hb := h.lt
  have HT : Hid (takeR p (l, f) = (Lib.trimPrefix l p, f || !Lib.hasPrefix l p)) := rfl
  obtain ⟨t, ht⟩ : ∃ t, Lib.trimPrefix l p = t := ⟨_, rfl⟩
  obtain ⟨k, hk⟩ : ∃ k, Lib.hasPrefix l p = k := ⟨_, rfl⟩
  rw [ht, hk] at HC HT
  clear ht hk h hL
  cases f
  all_goals cases k
  all_goals
    go_enter Tryz.func30, Tryz.ntmps30
    go_wp2_with (go_at_call 47; refine (HC.out.on _).mono ?_; rintro e w' ⟨rfl, hw⟩; obtain rfl := hw.symm)
    refine end_none rfl rfl ⟨rfl, ?_, grown_two _ _ _ _⟩
    rw [HT.out]
    exact HB.out.set t _

end Go.Proofs.YtfabodbcdnmpmaaGreatDoor

namespace Go.Proofs.YtfabodbcdnmpmaaGreatDoor
open Go.RowKit M

theorem isdig_any (c : UInt8) : AnsP 46 #[.int .u8 (c.toNat : Int)] (.bool (isDig c)) := fun w => by
  have HD : Hid (isDig c = decide (48 ≤ c.toNat ∧ c.toNat ≤ 57)) := rfl
  by_cases h1 : (48 : Int) ≤ (c.toNat : Int)
  · by_cases h2 : (c.toNat : Int) ≤ 57
    · go_enter Tryz.func46, Tryz.ntmps46
      go_wp2
      go_ret
      exact ⟨ret_bool (by rw [HD.out]; symm; simp only [decide_eq_true_eq]; omega), rfl⟩
    · go_enter Tryz.func46, Tryz.ntmps46
      go_wp2
      go_ret
      exact ⟨ret_bool (by rw [HD.out]; symm; simp only [decide_eq_false_iff_not]; omega), rfl⟩
  · go_enter Tryz.func46, Tryz.ntmps46
    go_wp2
    go_ret
    exact ⟨ret_bool (by rw [HD.out]; symm; simp only [decide_eq_false_iff_not]; omega), rfl⟩

theorem dig_stop (l : Txt) (n : Int) (f : Bool) (h : f = true ∨ NoDig l) : digR l n f = (n, l, f) := by
  cases l with
  | nil => rfl
  | cons c q =>
    rcases h with rfl | h
    · simp [digR]
    · simp [digR, h c q rfl]
theorem dig_step {c : UInt8} {q : Txt} (n : Int) (h : isDig c = true) : digR (c :: q) n false = digR q (n * 10 + ((c.toNat : Int) - 48)) (decide (31 < n * 10 + ((c.toNat : Int) - 48))) := by
  simp [digR, h]

set_option maxRecDepth 100000 in
theorem small_any {wb : World} (hL : LibP wb) (p l : Txt) (f : Bool) {w : World} {b : Nat} (h : RdB w b l f) :
    Calls Tryz.prog 29 #[.pointer (some ⟨b, 0, none⟩), tx p] w fun e w' => RdP w b (.int .i64 (smallR p (l, f)).1) (smallR p (l, f)).2 e w' := by
  have HK := hid (take_any hL p l f h)
  have HR : Hid (smallR p (l, f) = digR (takeR p (l, f)).1 0 (takeR p (l, f)).2) := rfl
  have hlen : (takeR p (l, f)).1.length ≤ l.length := by
    show (Lib.trimPrefix l p).length ≤ _
    unfold Lib.trimPrefix
    split <;> simp
  obtain ⟨s1, hs1⟩ : ∃ s, takeR p (l, f) = s := ⟨_, rfl⟩
  obtain ⟨R, hRe⟩ : ∃ R, smallR p (l, f) = R := ⟨_, rfl⟩
  rw [hs1] at HK HR hlen
  rw [hRe] at HR ⊢
  obtain ⟨l1, f1⟩ := s1
  simp only at HR hlen
  clear hs1 hRe hL h
  go_enter Tryz.func29, Tryz.ntmps29
  go_wp2_with (go_at_call 30; refine HK.out.mono ?_; rintro e w1 ⟨rfl, hR1, hg1⟩; have HR1 := hid hR1; have HG1 := hid hg1; clear hR1 hg1)
  go_loopg [5] l1.length (fun k v wr => ∃ (n : Int) (q : Txt) (g : Bool), v = .int .i64 n ∧ k = q.length ∧ (0 ≤ n ∧ n ≤ 319) ∧ (g = false → n ≤ 31) ∧ Hid (RdB wr b q g) ∧ Hid (w.grownBy wr (some b)) ∧ Hid (digR q n g = R))
  case atStart => exact ⟨0, l1, f1, rfl, rfl, by omega, fun _ => by omega, HR1, HG1, hid HR.out.symm⟩
  case round =>
    obtain ⟨n, q, g, rfl, hk, hn, hn2, HQ, HG, HD⟩ := hrel
    have hb := HQ.out.lt
    have c0 := HQ.out.c0
    have c1 := HQ.out.c1
    have f0 := HQ.out.fr 0
    have f1 := HQ.out.fr 1
    cases g
    · have hn31 := hn2 rfl
      cases q with
      | nil =>
        go_wp2
        go_ret
        have e := HD.out
        simp only [digR] at e
        subst e
        exact ⟨rfl, HQ.out, HG.out⟩
      | cons c q =>
        obtain ⟨s, hs, hsz, hget, hex⟩ := first_text c q
        have HS : Hid (s = ⟨(c :: q).toArray⟩) := hs
        have hsl : s.toList.isEmpty = false := by rw [hs, ByteArray.toList_mk]; rfl
        have hg0 := hget (by omega)
        simp only [tx] at c0
        rw [← hs] at c0
        have HI := hid (isdig_any c)
        clear hs hget
        obtain ⟨d, hd⟩ : ∃ d, isDig c = d := ⟨_, rfl⟩
        rw [hd] at HI
        cases d
        · go_wp2_with (go_at_call 46; refine (HI.out.on _).mono ?_; rintro e w' ⟨rfl, hw⟩; obtain rfl := hw.symm)
          go_ret
          have e := HD.out
          rw [dig_stop _ _ _ (.inr (noDig_cons hd))] at e
          subst e
          exact ⟨rfl, HQ.out, HG.out⟩
        · have hcd : 48 ≤ c.toNat ∧ c.toNat ≤ 57 := by simpa [isDig] using hd
          have hu : IntKind.u8.wrap ((c.toNat : Int) - 48) = (c.toNat : Int) - 48 := by
            simp [IntKind.wrap, IntKind.signed, IntKind.bits]; omega
          have HD2 : Hid (digR q (n * 10 + ((c.toNat : Int) - 48)) (decide (31 < n * 10 + ((c.toNat : Int) - 48))) = R) := by rw [← dig_step n hd]; exact HD.out
          go_wp2_with (go_at_call 46; refine (HI.out.on _).mono ?_; rintro e w' ⟨rfl, hw⟩; obtain rfl := hw.symm)
          go_roundg q.length
          case measure => simp at hk; omega
          case rel => exact ⟨_, q, _, rfl, rfl, by omega, fun h => by simpa using h, hid (HQ.out.set q _), hid (HG.out.trans (grown_two _ _ _ _)), HD2⟩
    · go_wp2
      go_ret
      have e := HD.out
      rw [dig_stop _ _ _ (.inl rfl)] at e
      subst e
      exact ⟨rfl, HQ.out, HG.out⟩

end Go.Proofs.YtfabodbcdnmpmaaGreatDoor

namespace Go.Proofs.YtfabodbcdnmpmaaGreatDoor
open Go.RowKit M

theorem word_at : ∀ (l : Txt) (j : Nat), (wordA l = l.take j ++ wordA (l.drop j) ∧ wordB l = wordB (l.drop j)) → j < l.length → ¬ (byteAt l j = 32 ∨ byteAt l j = 10) → wordA l = l.take (j + 1) ++ wordA (l.drop (j + 1)) ∧ wordB l = wordB (l.drop (j + 1))
  | l, j, ⟨h1, h2⟩, hj, hc => by
    have e := drop_byte l j hj
    rw [e] at h1 h2
    simp only [wordA, if_neg hc] at h1
    simp only [wordB, if_neg hc] at h2
    exact ⟨by rw [h1, take_byte l j hj]; simp, h2⟩
theorem word_end {l : Txt} {j : Nat} (h : wordA l = l.take j ++ wordA (l.drop j) ∧ wordB l = wordB (l.drop j)) (he : ¬ j < l.length ∨ (byteAt l j = 32 ∨ byteAt l j = 10)) : wordA l = l.take j ∧ wordB l = l.drop j := by
  by_cases hj : j < l.length
  · have hc := he.resolve_left (fun h => h hj)
    have e := drop_byte l j hj
    rw [e] at h
    simp only [wordA, wordB, if_pos hc, List.append_nil] at h
    rw [← e] at h
    exact h
  · have e : l.drop j = [] := List.drop_eq_nil_of_le (by omega)
    rw [e] at h ⊢
    simpa [wordA, wordB] using h
theorem grown_drew {w w' : World} {b : Option Nat} (h : w.grownBy w' b) : w.grownBy w'.drew b := ⟨h.os, h.tape, h.output, h.size, h.block⟩
theorem text_byte (l : Txt) (j : Nat) (h : j < (⟨l.toArray⟩ : ByteArray).size) : (⟨l.toArray⟩ : ByteArray)[j] = byteAt l j := get_byte _ j h
theorem text_cut (l : Txt) (j : Nat) : (⟨l.toArray⟩ : ByteArray).extract 0 j = ⟨(l.take j).toArray⟩ ∧ (⟨l.toArray⟩ : ByteArray).extract j l.length = ⟨(l.drop j).toArray⟩ := by
  constructor
  · rw [Lib.extract_eq]; simp
  · rw [Lib.extract_eq]
    simp only
    rw [List.take_of_length_le (by simp)]

set_option maxRecDepth 100000 in
set_option maxHeartbeats 1600000 in
theorem number_any {wb : World} (hL : LibP wb) (p l : Txt) (f : Bool) {w : World} {b : Nat} (hw : Jk wb w) (hbb : wb.heap.size ≤ b) (h : RdB w b l f) (hl : l.length ≤ 1000000) :
    Calls Tryz.prog 31 #[.pointer (some ⟨b, 0, none⟩), tx p] w fun e w' => RdP w b (.int .i64 (numR p (l, f)).1) (numR p (l, f)).2 e w' := by
  have HK := hid (take_any hL p l f h)
  have hlen : (takeR p (l, f)).1.length ≤ l.length := by
    show (Lib.trimPrefix l p).length ≤ _
    unfold Lib.trimPrefix
    split <;> simp
  have HR : Hid (numR p (l, f) = (scanN (wordA (takeR p (l, f)).1), wordB (takeR p (l, f)).1, (takeR p (l, f)).2 || !scanB (wordA (takeR p (l, f)).1))) := rfl
  obtain ⟨s1, hs1⟩ : ∃ s, takeR p (l, f) = s := ⟨_, rfl⟩
  obtain ⟨R, hRe⟩ : ∃ R, numR p (l, f) = R := ⟨_, rfl⟩
  rw [hs1] at HK HR hlen
  rw [hRe] at HR ⊢
  obtain ⟨l1, f1⟩ := s1
  simp only at HR hlen
  have HS := hid (hL.scan (wordA l1) (by
    have : ∀ q : Txt, (wordA q).length ≤ q.length := fun q => by
      induction q with
      | nil => simp [wordA]
      | cons c r ih => unfold wordA; split <;> simp <;> omega
    have := this l1
    omega))
  have HJ0 := hid hw
  clear hs1 hRe hL h hw
  obtain ⟨s, hs⟩ : ∃ s : ByteArray, s = ⟨l1.toArray⟩ := ⟨_, rfl⟩
  have HSz : Hid (s.size = l1.length) := by rw [hs]; exact text_size l1
  have HGet : Hid (∀ j, ∀ h : j < s.size, s[j] = byteAt l1 j) := fun j h => by subst hs; exact text_byte l1 j h
  have HCut : Hid (∀ j, s.extract 0 j = ⟨(l1.take j).toArray⟩ ∧ s.extract j s.size = ⟨(l1.drop j).toArray⟩) := fun j => by
    have h2 := HSz.out
    subst hs
    rw [h2]
    exact text_cut l1 j
  go_enter Tryz.func31, Tryz.ntmps31
  go_upto_region 2 with (go_at_call 30; refine HK.out.mono ?_; rintro e w1 ⟨rfl, hR1, hg1⟩; have HR1 := hid hR1; have HG1 := hid hg1; clear hR1 hg1)
  have c0 := HR1.out.c0
  have c1 := HR1.out.c1
  simp only [tx] at c0
  rw [← hs] at c0
  have f0 := HR1.out.fr 0
  have f1' := HR1.out.fr 1
  have hb := HR1.out.lt
  have hsz := HSz.out
  have HJ1 : Hid (Jk wb w1) := HJ0.out.grown HG1.out (fun k hk => by cases hk; exact hbb)
  have HZ : Hid (s = ⟨l1.toArray⟩) := hs
  clear hs
  go_cut [5] (fun v wc => v = .int .i64 0 ∧ wc = w1)
  case first =>
    go_wp2
    go_meet
    case rel => exact ⟨rfl, rfl⟩
  case rest =>
  obtain ⟨rfl, hw⟩ := hcut
  obtain ⟨w2, rfl⟩ : ∃ z, z = wc := ⟨_, rfl⟩
  obtain rfl := hw.symm
  go_step
  go_step
  go_cut [5] (fun v wc => ∃ j : Nat, v = .int .i64 (j : Int) ∧ j ≤ l1.length ∧ wordA l1 = l1.take j ∧ wordB l1 = l1.drop j ∧ wc = w1)
  case first =>
    go_wp2
    go_loopg [5] l1.length (fun k v wr => ∃ j : Nat, v = .int .i64 (j : Int) ∧ j + k = l1.length ∧ wr = w1 ∧ Hid (wordA l1 = l1.take j ++ wordA (l1.drop j) ∧ wordB l1 = wordB (l1.drop j)))
    case atStart => exact ⟨0, rfl, by omega, rfl, hid ⟨rfl, rfl⟩⟩
    case round =>
      obtain ⟨j, rfl, hj, hw, HW⟩ := hrel
      obtain rfl := hw.symm
      by_cases hex : ¬ j < l1.length ∨ (byteAt l1 j = 32 ∨ byteAt l1 j = 10)
      · have HE := hid (word_end HW.out hex)
        have HC : Hid ((¬ j < l1.length) ∨ (j < s.size ∧ ∀ h : j < s.size, s[j] = 32) ∨ (j < s.size ∧ ∀ h : j < s.size, s[j] = 10)) := by
          by_cases hj2 : j < l1.length
          · rcases hex.resolve_left (fun h => h hj2) with h | h
            · exact .inr (.inl ⟨by omega, fun _ => by rw [HGet.out j (by omega), h]⟩)
            · exact .inr (.inr ⟨by omega, fun _ => by rw [HGet.out j (by omega), h]⟩)
          · exact .inl hj2
        clear hex HW
        rcases HC.out with hq | ⟨hq, hg⟩ | ⟨hq, hg⟩
        case' inl =>
          have hlt : ¬ (j : Int) < (s.size : Int) := by omega
        case' inr.inl =>
          have hlt : (j : Int) < (s.size : Int) := by omega
          have hg1 := hg hq
          clear hg
        case' inr.inr =>
          have hlt : (j : Int) < (s.size : Int) := by omega
          have hg1 := hg hq
          clear hg
        all_goals
          go_wp2
          go_meet
          case rel => exact ⟨j, rfl, by omega, HE.out.1, HE.out.2, rfl⟩
      · have hj2 : j < l1.length := Classical.not_not.1 (fun h => hex (.inl h))
        have hc : ¬ (byteAt l1 j = 32 ∨ byteAt l1 j = 10) := fun h => hex (.inr h)
        have HW2 := hid (word_at l1 j HW.out hj2 hc)
        clear hex
        have hg := HGet.out j (by omega)
        obtain ⟨c, hc'⟩ : ∃ c, byteAt l1 j = c := ⟨_, rfl⟩
        rw [hc'] at hg hc
        have hc1 : ((c.toNat : Int) == 32) = false := by
          have : ¬ c.toNat = 32 := fun h => hc (.inl (UInt8.toNat_inj.1 h))
          simp; omega
        have hc2 : ((c.toNat : Int) == 10) = false := by
          have : ¬ c.toNat = 10 := fun h => hc (.inr (UInt8.toNat_inj.1 h))
          simp; omega
        have hlt : (j : Int) < (s.size : Int) := by omega
        obtain ⟨hn1, hn2⟩ := not_or.1 hc
        have hi1 : ¬ ((c.toNat : Int) = 32) := fun h => hn1 (UInt8.toNat_inj.1 (show c.toNat = 32 by omega))
        have hi2 : ¬ ((c.toNat : Int) = 10) := fun h => hn2 (UInt8.toNat_inj.1 (show c.toNat = 10 by omega))
        have hb1 : ((c.toNat : Int) != 32) = true := by simpa using hi1
        have hb2 : ((c.toNat : Int) != 10) = true := by simpa using hi2
        clear hc hc1 hc2 hi1 hi2 hn1 hn2
        go_wp2
        go_roundg (gk - 1)
        case measure => omega
        case rel => exact ⟨j + 1, by go_num, by omega, rfl, HW2⟩
  case rest =>
    obtain ⟨j, rfl, hj, e1, e2, hw⟩ := hcut
    obtain ⟨w2, rfl⟩ : ∃ z, z = wc := ⟨_, rfl⟩
    obtain rfl := hw.symm
    obtain ⟨hx1, hx2⟩ := HCut.out j
    rw [← e1] at hx1
    rw [← e2, hsz] at hx2
    have hle : ¬ (s.size : Int) < (j : Int) := by omega
    have HR2 := hid HR.out
    obtain ⟨A, hA⟩ : ∃ A, wordA l1 = A := ⟨_, rfl⟩
    obtain ⟨Bq, hB⟩ : ∃ B, wordB l1 = B := ⟨_, rfl⟩
    rw [hA] at hx1 HS HR2
    rw [hB] at hx2 HR2
    obtain ⟨N, hN⟩ : ∃ N, scanN A = N := ⟨_, rfl⟩
    obtain ⟨O, hO⟩ : ∃ O, scanB A = O := ⟨_, rfl⟩
    rw [hN, hO] at HS HR2
    clear e1 e2 hA hB hN hO HR
    cases f1
    all_goals
      go_upto_region 6 with (go_at_call 48; refine (HS.out.on _ HJ1.out).mono ?_; rintro e w2 ⟨rfl, hj2⟩; have HJ2 := hid hj2; clear hj2)
      have HQ := hid (HR1.out.jk HJ2.out)
      have d0 := HQ.out.c0
      have d1 := HQ.out.c1
      simp only [tx] at d0
      rw [← HZ.out] at d0
      have g0 := HQ.out.fr 0
      have g1 := HQ.out.fr 1
      have hb2 := HQ.out.lt
      clear c0 c1 f0 f1' hb
      go_region
      all_goals
        go_wp2
        go_ret
        refine ⟨by rw [HR2.out]; rfl, ?_, (HG1.out.trans (HJ2.out.by b)).trans (grown_drew (grown_two _ _ _ _))⟩
        rw [HR2.out]
        exact HQ.out.set Bq _

end Go.Proofs.YtfabodbcdnmpmaaGreatDoor

namespace Go.Proofs.YtfabodbcdnmpmaaGreatDoor
open Go.RowKit M

/-- the reader lies in block b of a world that has grown from wb -/
structure RdJ (wb : World) (b : Nat) (l : Txt) (f : Bool) (w : World) : Prop where
  j : Jk wb w
  base : wb.heap.size ≤ b
  rd : RdB w b l f
theorem RdJ.call {wb w w' : World} {b : Nat} {l l' : Txt} {f f' : Bool} (h : RdJ wb b l f w) (hr : RdB w' b l' f') (hg : w.grownBy w' (some b)) : RdJ wb b l' f' w' :=
  ⟨h.j.grown hg (fun k hk => by cases hk; exact h.base), h.base, hr⟩
theorem RdJ.grow {wb w w' : World} {b : Nat} {l : Txt} {f : Bool} (h : RdJ wb b l f w) (hj : Jk w w') : RdJ wb b l f w' := ⟨h.j.trans hj, h.base, h.rd.jk hj⟩
theorem RdJ.put {wb w : World} {b r : Nat} {l : Txt} {f : Bool} (h : RdJ wb b l f w) (hr : wb.heap.size ≤ r) (hne : b ≠ r) (q : Nat) (u : Value) : RdJ wb b l f (w.setCell ⟨r, q, none⟩ u) :=
  ⟨h.j.set hr u, h.base, ((grown_set w r q u).block b h.rd.lt (by simpa using hne)).trans h.rd⟩
theorem put_new {w w' : World} {b r : Nat} (h : w.grownBy w' (some b)) (hr : w.heap.size ≤ r) (q : Nat) (u : Value) : w.grownBy (w'.setCell ⟨r, q, none⟩ u) (some b) :=
  ⟨h.os, h.tape, h.output, Nat.le_trans h.size (grown_set w' r q u).size, fun k hk hne => ((grown_set w' r q u).block k (Nat.lt_of_lt_of_le hk h.size) (by simp; omega)).trans (h.block k hk hne)⟩
/-- a call on the reader: what it answers, what it leaves -/
def AnsR (wb : World) (b : Nat) (f : Nat) (args : Array Value) (s : Rst) (v : Value) (s' : Rst) : Prop := ∀ w, RdJ wb b s.1 s.2 w → Calls Tryz.prog f args w fun e w' => RdP w b v s' e w'
theorem AnsR.on {wb : World} {b : Nat} {f : Nat} {args : Array Value} {s : Rst} {v : Value} {s' : Rst} (h : AnsR wb b f args s v s') {w : World} (hr : RdJ wb b s.1 s.2 w) : Calls Tryz.prog f args w fun e w' => RdP w b v s' e w' := h w hr
theorem take_r {wb : World} (hL : LibP wb) (b : Nat) (p : Txt) (s : Rst) {s' : Rst} (hs : takeR p s = s') : AnsR wb b 30 #[.pointer (some ⟨b, 0, none⟩), tx p] s (.tuple #[]) s' := fun _ h => hs ▸ take_any hL p s.1 s.2 h.rd
theorem small_r {wb : World} (hL : LibP wb) (b : Nat) (p : Txt) (s : Rst) {n : Int} {s' : Rst} (hs : smallR p s = (n, s')) : AnsR wb b 29 #[.pointer (some ⟨b, 0, none⟩), tx p] s (.int .i64 n) s' := fun _ h => by
  have := small_any hL p s.1 s.2 h.rd
  rw [hs] at this
  exact this
theorem number_r {wb : World} (hL : LibP wb) (b : Nat) (p : Txt) (s : Rst) (hl : s.1.length ≤ 1000000) {n : Int} {s' : Rst} (hs : numR p s = (n, s')) : AnsR wb b 31 #[.pointer (some ⟨b, 0, none⟩), tx p] s (.int .i64 n) s' := fun _ h => by
  have := number_any hL p s.1 s.2 h.j h.base h.rd hl
  rw [hs] at this
  exact this

/-! texts get no longer -/
theorem trim_len (l p : Txt) : (Lib.trimPrefix l p).length ≤ l.length := by
  unfold Lib.trimPrefix
  split <;> simp
theorem take_len (p : Txt) (s : Rst) : (takeR p s).1.length ≤ s.1.length := trim_len _ _
theorem dig_len : ∀ (l : Txt) (n : Int) (f : Bool), (digR l n f).2.1.length ≤ l.length
  | [], _, _ => by simp [digR]
  | c :: r, n, f => by
    unfold digR
    split
    · have := dig_len r (n * 10 + ((c.toNat : Int) - 48)) (decide (31 < n * 10 + ((c.toNat : Int) - 48)))
      simp; omega
    · simp
theorem small_len {p : Txt} {s s' : Rst} {n : Int} (h : smallR p s = (n, s')) : s'.1.length ≤ s.1.length := by
  have h1 := dig_len (takeR p s).1 0 (takeR p s).2
  have h2 := take_len p s
  have h3 : digR (takeR p s).1 0 (takeR p s).2 = (n, s') := h
  rw [h3] at h1
  simp only at h1
  omega
theorem wordB_len : ∀ l : Txt, (wordB l).length ≤ l.length
  | [] => by simp [wordB]
  | c :: r => by have := wordB_len r; unfold wordB; split <;> simp; omega
theorem num_len {p : Txt} {s s' : Rst} {n : Int} (h : numR p s = (n, s')) : s'.1.length ≤ s.1.length := by
  have h1 := wordB_len (takeR p s).1
  have h2 := take_len p s
  have h3 : s' = (wordB (takeR p s).1, (takeR p s).2 || !scanB (wordA (takeR p s).1)) := (congrArg Prod.snd h).symm
  rw [h3]
  simp only
  omega

/-- a node in a block of its own -/
def NdB (w : World) (b : Nat) (x : Nd) : Prop := w.heap[b]? = some (.cells #[.bool x.leaf, .int .i64 x.v, .int .i64 x.f, .int .i64 x.a, .int .i64 x.l, .int .i64 x.r] 53 (0, 0))
theorem NdB.lt {w : World} {b : Nat} {x : Nd} (h : NdB w b x) : b < w.heap.size := (Array.getElem?_eq_some_iff.1 h).1
theorem NdB.cells {w : World} {b : Nat} {x : Nd} (h : NdB w b x) : w.cell? ⟨b, 0, none⟩ = some (.bool x.leaf) ∧ w.cell? ⟨b, 1, none⟩ = some (.int .i64 x.v) ∧ w.cell? ⟨b, 2, none⟩ = some (.int .i64 x.f) ∧ w.cell? ⟨b, 3, none⟩ = some (.int .i64 x.a) ∧ w.cell? ⟨b, 4, none⟩ = some (.int .i64 x.l) ∧ w.cell? ⟨b, 5, none⟩ = some (.int .i64 x.r) := by
  refine ⟨?_, ?_, ?_, ?_, ?_, ?_⟩ <;> (rw [cell_of_row _ _ _ _ _ _ h]; rfl)
theorem NdB.frozen {w : World} {b : Nat} {x : Nd} (h : NdB w b x) (q : Nat) : w.frozen? ⟨b, q, none⟩ = false := frozen_of_row _ _ _ _ _ h
theorem NdB.set0 {w : World} {b : Nat} {x : Nd} (h : NdB w b x) (y : Bool) : NdB (w.setCell ⟨b, 0, none⟩ (.bool y)) b { x with leaf := y } := heap_setCell_same _ _ _ _ _ _ h
theorem NdB.set1 {w : World} {b : Nat} {x : Nd} (h : NdB w b x) (y : Int) : NdB (w.setCell ⟨b, 1, none⟩ (.int .i64 y)) b { x with v := y } := heap_setCell_same _ _ _ _ _ _ h
theorem NdB.set2 {w : World} {b : Nat} {x : Nd} (h : NdB w b x) (y : Int) : NdB (w.setCell ⟨b, 2, none⟩ (.int .i64 y)) b { x with f := y } := heap_setCell_same _ _ _ _ _ _ h
theorem NdB.set3 {w : World} {b : Nat} {x : Nd} (h : NdB w b x) (y : Int) : NdB (w.setCell ⟨b, 3, none⟩ (.int .i64 y)) b { x with a := y } := heap_setCell_same _ _ _ _ _ _ h
theorem NdB.set4 {w : World} {b : Nat} {x : Nd} (h : NdB w b x) (y : Int) : NdB (w.setCell ⟨b, 4, none⟩ (.int .i64 y)) b { x with l := y } := heap_setCell_same _ _ _ _ _ _ h
theorem NdB.set5 {w : World} {b : Nat} {x : Nd} (h : NdB w b x) (y : Int) : NdB (w.setCell ⟨b, 5, none⟩ (.int .i64 y)) b { x with r := y } := heap_setCell_same _ _ _ _ _ _ h
theorem NdB.by {w w' : World} {b g : Nat} {x : Nd} (h : NdB w b x) (hg : w.grownBy w' (some g)) (hne : b ≠ g) : NdB w' b x := (hg.block b h.lt (by simpa using hne)).trans h
theorem NdB.laid (w : World) (x : Nd) : NdB (w.alloc (.cells #[.bool x.leaf, .int .i64 x.v, .int .i64 x.f, .int .i64 x.a, .int .i64 x.l, .int .i64 x.r] 53)) w.heap.size x := heap_alloc_new w _

set_option maxRecDepth 100000 in
set_option maxHeartbeats 1600000 in
theorem node_r {wb : World} (hL : LibP wb) (b : Nat) (s : Rst) (hl : s.1.length ≤ 1000000) {x : Nd} {s' : Rst} (hs : nodeR s = (x, s')) : AnsR wb b 50 #[.pointer (some ⟨b, 0, none⟩)] s (nodeV x) s' := fun w h => by
  obtain ⟨l, f⟩ := s
  simp only at h hl
  obtain ⟨w0, hw0⟩ : ∃ w0, (w.alloc (.cells #[.bool false, .int .i64 0, .int .i64 0, .int .i64 0, .int .i64 0, .int .i64 0] 53)).alloc (.cells #[.bool false, .int .i64 0, .int .i64 0, .int .i64 0, .int .i64 0, .int .i64 0] 53) = w0 := ⟨_, rfl⟩
  have hj0 : Jk w w0 := hw0 ▸ ((Jk.refl w).alloc _).alloc _
  have hN0 : NdB w0 (w.heap.size + 1) Nd.nil := by
    rw [← hw0]
    have := NdB.laid (w.alloc (.cells #[.bool false, .int .i64 0, .int .i64 0, .int .i64 0, .int .i64 0, .int .i64 0] 53)) Nd.nil
    rwa [World.size_alloc] at this
  have hM0 : NdB w0 w.heap.size Nd.nil := by
    rw [← hw0]
    exact ((Jk.refl _).alloc _).below.block _ (by simp) |>.trans (NdB.laid w Nd.nil)
  have hbl := h.rd.lt
  have hne : b ≠ w.heap.size + 1 := by omega
  have hne2 : b ≠ w.heap.size := by omega
  have hwb : wb.heap.size ≤ w.heap.size + 1 := Nat.le_succ_of_le h.j.below.size
  have HR0 := hid (h.grow hj0)
  have HG0 := hid (hj0.by b)
  have HN0 := hid hN0
  have HM0 := hid hM0
  have c0 := HR0.out.rd.c0
  have hlt1 := HN0.out.lt
  have n0 := HN0.out.cells.1
  have hf1 := HN0.out.frozen 0
  have hb0 := HR0.out.rd.lt
  have HP := hid (hL.has [108, 101, 97, 102] l)
  clear h hj0 hN0 hM0
  by_cases hp : Lib.hasPrefix l [108, 101, 97, 102] = true
  · have e : leafR (l, f) = (x, s') := by
      rw [← hs]; unfold nodeR; simp only [hp, if_true]
    rw [hp] at HP
    obtain ⟨⟨A, s1⟩, e1⟩ : ∃ R, numR kLeaf (l, f) = R := ⟨_, rfl⟩
    have e2 : takeR [10] s1 = s' := by
      have := congrArg Prod.snd e
      simpa [leafR, e1] using this
    have e3 : (⟨true, A, 0, 0, 0, 0⟩ : Nd) = x := by
      have := congrArg Prod.fst e
      simpa [leafR, e1] using this
    subst e3
    have H1 := hid (number_r hL b kLeaf (l, f) hl e1)
    have H2 := hid (take_r hL b [10] s1 e2)
    clear hs hp e e1 e2 hL hl
    go_enter Tryz.func50, Tryz.ntmps50
    go_upto_region 4 with (go_at_call 66; refine (HP.out.on _).mono ?_; rintro e w' ⟨rfl, hw⟩; obtain rfl := hw.symm)
    have HR1 := hid (HR0.out.put hwb hne 0 (.bool true))
    have HG1 := hid (put_new HG0.out (Nat.le_succ _) 0 (.bool true))
    have HN1 := hid (HN0.out.set0 true)
    have HM1 : Hid (NdB (w0.setCell ⟨w.heap.size + 1, 0, none⟩ (.bool true)) w.heap.size Nd.nil) := HM0.out.by (grown_set w0 (w.heap.size + 1) 0 (.bool true)) (by omega)
    clear HR0 HG0 HN0 HM0 c0 hlt1 n0 hf1 hb0 hw0
    generalize w0.setCell ⟨w.heap.size + 1, 0, none⟩ (.bool true) = w1 at HR1 HG1 HN1 HM1 ⊢
    go_upto_region 9 with (go_at_call 31; refine (H1.out.on HR1.out).mono ?_; rintro e w2 ⟨rfl, hR2, hg2⟩; have HR2 := hid (HR1.out.call hR2 hg2); have HG2 := hid (HG1.out.trans hg2); have HN2 := hid (HN1.out.by hg2 (Ne.symm hne)); have HM2 := hid (HM1.out.by hg2 (Ne.symm hne2)); clear hR2 hg2; have n1 := HN2.out.cells.2.1; have hf1 := HN2.out.frozen 1; have hlt1 := HN2.out.lt)
    have HR3 := hid (HR2.out.put hwb hne 1 (.int .i64 A))
    have HG3 := hid (put_new HG2.out (Nat.le_succ _) 1 (.int .i64 A))
    have HN3 := hid (HN2.out.set1 A)
    have HM3 : Hid (NdB (w2.setCell ⟨w.heap.size + 1, 1, none⟩ (.int .i64 A)) w.heap.size Nd.nil) := HM2.out.by (grown_set w2 (w.heap.size + 1) 1 (.int .i64 A)) (by omega)
    clear HR2 HG2 HN2 HM2 hlt1 n1 hf1 HR1 HG1 HN1 HM1
    generalize w2.setCell ⟨w.heap.size + 1, 1, none⟩ (.int .i64 A) = w3 at HR3 HG3 HN3 HM3 ⊢
    go_wp2_with (go_at_call 30; refine (H2.out.on HR3.out).mono ?_; rintro e w4 ⟨rfl, hR4, hg4⟩; have HR4 := hid hR4; have HG4 := hid (HG3.out.trans hg4); have HN4 := hid (HN3.out.by hg4 (Ne.symm hne)); have HM4 := hid (HM3.out.by hg4 (Ne.symm hne2)); clear hR4 hg4; obtain ⟨n0, n1, n2, n3, n4, n5⟩ := HN4.out.cells; obtain ⟨m0, m1, m2, m3, m4, m5⟩ := HM4.out.cells; have hmf := HM4.out.frozen; have hml := HM4.out.lt; simp only at n0 n1 n2 n3 n4 n5 m0 m1 m2 m3 m4 m5)
    have HE := hid ((((((HM4.out.set0 true).set1 A).set2 0).set3 0).set4 0).set5 0)
    have HGf := hid (put_new (put_new (put_new (put_new (put_new (put_new HG4.out (Nat.le_refl _) 0 (.bool true)) (Nat.le_refl _) 1 (.int .i64 A)) (Nat.le_refl _) 2 (.int .i64 0)) (Nat.le_refl _) 3 (.int .i64 0)) (Nat.le_refl _) 4 (.int .i64 0)) (Nat.le_refl _) 5 (.int .i64 0))
    have hp := fun (z : World) (hz : RdB z b s'.1 s'.2) (q : Nat) (u : Value) => (((grown_set z w.heap.size q u).block b hz.lt (by simpa using hne2)).trans hz : RdB (z.setCell ⟨w.heap.size, q, none⟩ u) b s'.1 s'.2)
    have HRf := hid (hp _ (hp _ (hp _ (hp _ (hp _ (hp _ HR4.out 0 (.bool true)) 1 (.int .i64 A)) 2 (.int .i64 0)) 3 (.int .i64 0)) 4 (.int .i64 0)) 5 (.int .i64 0))
    clear hp
    obtain ⟨z0, z1, z2, z3, z4, z5⟩ := HE.out.cells
    simp only at z0 z1 z2 z3 z4 z5
    exact bodyPost_ret (v := nodeV ⟨true, A, 0, 0, 0, 0⟩) (by simp [results, Tryz.results50, go_sem, z0, z1, z2, z3, z4, z5]) rfl ⟨rfl, HRf.out, HGf.out⟩
  · have hp' : Lib.hasPrefix l [108, 101, 97, 102] = false := by simpa using hp
    have e : forkR (l, f) = (x, s') := by
      rw [← hs]; unfold nodeR; simp only [hp', Bool.false_eq_true, if_false]
    rw [hp'] at HP
    obtain ⟨⟨F, s1⟩, e1⟩ : ∃ R, smallR kIf (l, f) = R := ⟨_, rfl⟩
    obtain ⟨⟨A, s2⟩, e2⟩ : ∃ R, numR kLe s1 = R := ⟨_, rfl⟩
    obtain ⟨⟨L, s3⟩, e3⟩ : ∃ R, smallR kThen s2 = R := ⟨_, rfl⟩
    obtain ⟨⟨Q, s4⟩, e4⟩ : ∃ R, smallR kElse s3 = R := ⟨_, rfl⟩
    have l1 := small_len e1
    have l2 := num_len e2
    have l3 := small_len e3
    have e5 : takeR [10] s4 = s' := by
      have := congrArg Prod.snd e
      simpa [forkR, e1, e2, e3, e4] using this
    have e6 : (⟨false, 0, F, A, L, Q⟩ : Nd) = x := by
      have := congrArg Prod.fst e
      simpa [forkR, e1, e2, e3, e4] using this
    subst e6
    have H1 := hid (small_r hL b kIf (l, f) e1)
    have H2 := hid (number_r hL b kLe s1 (by simp only at l1; omega) e2)
    have H3 := hid (small_r hL b kThen s2 e3)
    have H4 := hid (small_r hL b kElse s3 e4)
    have H5 := hid (take_r hL b [10] s4 e5)
    clear hs hp hp' e e1 e2 e3 e4 e5 hL hl l1 l2 l3
    go_enter Tryz.func50, Tryz.ntmps50
    go_upto_region 5 with (go_at_call 66; refine (HP.out.on _).mono ?_; rintro e w' ⟨rfl, hw⟩; obtain rfl := hw.symm)
    have HR1 := hid (HR0.out.put hwb hne 0 (.bool false))
    have HG1 := hid (put_new HG0.out (Nat.le_succ _) 0 (.bool false))
    have HN1 := hid (HN0.out.set0 false)
    have HM1 : Hid (NdB (w0.setCell ⟨w.heap.size + 1, 0, none⟩ (.bool false)) w.heap.size Nd.nil) := HM0.out.by (grown_set w0 (w.heap.size + 1) 0 (.bool false)) (by omega)
    clear HR0 HG0 HN0 HM0 c0 hlt1 n0 hf1 hb0 hw0
    generalize w0.setCell ⟨w.heap.size + 1, 0, none⟩ (.bool false) = w1 at HR1 HG1 HN1 HM1 ⊢
    go_upto_region 6 with (go_at_call 29; refine (H1.out.on HR1.out).mono ?_; rintro e w2 ⟨rfl, hR2, hg2⟩; have HR2 := hid (HR1.out.call hR2 hg2); have HG2 := hid (HG1.out.trans hg2); have HN2 := hid (HN1.out.by hg2 (Ne.symm hne)); have HM2 := hid (HM1.out.by hg2 (Ne.symm hne2)); clear hR2 hg2; have n1 := HN2.out.cells.2.2.1; have hf1 := HN2.out.frozen 2; have hlt1 := HN2.out.lt)
    clear HR1 HG1 HN1 HM1
    have HR1 := hid (HR2.out.put hwb hne 2 (.int .i64 F))
    have HG1 := hid (put_new HG2.out (Nat.le_succ _) 2 (.int .i64 F))
    have HN1 := hid (HN2.out.set2 F)
    have HM1 : Hid (NdB (w2.setCell ⟨w.heap.size + 1, 2, none⟩ (.int .i64 F)) w.heap.size Nd.nil) := HM2.out.by (grown_set w2 (w.heap.size + 1) 2 (.int .i64 F)) (by omega)
    clear HR2 HG2 HN2 HM2 hlt1 n1 hf1
    generalize w2.setCell ⟨w.heap.size + 1, 2, none⟩ (.int .i64 F) = w1x at HR1 HG1 HN1 HM1 ⊢
    go_upto_region 7 with (go_at_call 31; refine (H2.out.on HR1.out).mono ?_; rintro e w2 ⟨rfl, hR2, hg2⟩; have HR2 := hid (HR1.out.call hR2 hg2); have HG2 := hid (HG1.out.trans hg2); have HN2 := hid (HN1.out.by hg2 (Ne.symm hne)); have HM2 := hid (HM1.out.by hg2 (Ne.symm hne2)); clear hR2 hg2; have n1 := HN2.out.cells.2.2.2.1; have hf1 := HN2.out.frozen 3; have hlt1 := HN2.out.lt)
    clear HR1 HG1 HN1 HM1
    have HR1 := hid (HR2.out.put hwb hne 3 (.int .i64 A))
    have HG1 := hid (put_new HG2.out (Nat.le_succ _) 3 (.int .i64 A))
    have HN1 := hid (HN2.out.set3 A)
    have HM1 : Hid (NdB (w2.setCell ⟨w.heap.size + 1, 3, none⟩ (.int .i64 A)) w.heap.size Nd.nil) := HM2.out.by (grown_set w2 (w.heap.size + 1) 3 (.int .i64 A)) (by omega)
    clear HR2 HG2 HN2 HM2 hlt1 n1 hf1
    generalize w2.setCell ⟨w.heap.size + 1, 3, none⟩ (.int .i64 A) = w1x at HR1 HG1 HN1 HM1 ⊢
    go_upto_region 8 with (go_at_call 29; refine (H3.out.on HR1.out).mono ?_; rintro e w2 ⟨rfl, hR2, hg2⟩; have HR2 := hid (HR1.out.call hR2 hg2); have HG2 := hid (HG1.out.trans hg2); have HN2 := hid (HN1.out.by hg2 (Ne.symm hne)); have HM2 := hid (HM1.out.by hg2 (Ne.symm hne2)); clear hR2 hg2; have n1 := HN2.out.cells.2.2.2.2.1; have hf1 := HN2.out.frozen 4; have hlt1 := HN2.out.lt)
    clear HR1 HG1 HN1 HM1
    have HR1 := hid (HR2.out.put hwb hne 4 (.int .i64 L))
    have HG1 := hid (put_new HG2.out (Nat.le_succ _) 4 (.int .i64 L))
    have HN1 := hid (HN2.out.set4 L)
    have HM1 : Hid (NdB (w2.setCell ⟨w.heap.size + 1, 4, none⟩ (.int .i64 L)) w.heap.size Nd.nil) := HM2.out.by (grown_set w2 (w.heap.size + 1) 4 (.int .i64 L)) (by omega)
    clear HR2 HG2 HN2 HM2 hlt1 n1 hf1
    generalize w2.setCell ⟨w.heap.size + 1, 4, none⟩ (.int .i64 L) = w1x at HR1 HG1 HN1 HM1 ⊢
    go_upto_region 9 with (go_at_call 29; refine (H4.out.on HR1.out).mono ?_; rintro e w2 ⟨rfl, hR2, hg2⟩; have HR2 := hid (HR1.out.call hR2 hg2); have HG2 := hid (HG1.out.trans hg2); have HN2 := hid (HN1.out.by hg2 (Ne.symm hne)); have HM2 := hid (HM1.out.by hg2 (Ne.symm hne2)); clear hR2 hg2; have n1 := HN2.out.cells.2.2.2.2.2; have hf1 := HN2.out.frozen 5; have hlt1 := HN2.out.lt)
    clear HR1 HG1 HN1 HM1
    have HR3 := hid (HR2.out.put hwb hne 5 (.int .i64 Q))
    have HG3 := hid (put_new HG2.out (Nat.le_succ _) 5 (.int .i64 Q))
    have HN3 := hid (HN2.out.set5 Q)
    have HM3 : Hid (NdB (w2.setCell ⟨w.heap.size + 1, 5, none⟩ (.int .i64 Q)) w.heap.size Nd.nil) := HM2.out.by (grown_set w2 (w.heap.size + 1) 5 (.int .i64 Q)) (by omega)
    clear HR2 HG2 HN2 HM2 hlt1 n1 hf1
    generalize w2.setCell ⟨w.heap.size + 1, 5, none⟩ (.int .i64 Q) = w3x at HR3 HG3 HN3 HM3 ⊢
    go_wp2_with (go_at_call 30; refine (H5.out.on HR3.out).mono ?_; rintro e w4 ⟨rfl, hR4, hg4⟩; have HR4 := hid hR4; have HG4 := hid (HG3.out.trans hg4); have HN4 := hid (HN3.out.by hg4 (Ne.symm hne)); have HM4 := hid (HM3.out.by hg4 (Ne.symm hne2)); clear hR4 hg4; obtain ⟨n0, n1, n2, n3, n4, n5⟩ := HN4.out.cells; obtain ⟨m0, m1, m2, m3, m4, m5⟩ := HM4.out.cells; have hmf := HM4.out.frozen; have hml := HM4.out.lt; simp only at n0 n1 n2 n3 n4 n5 m0 m1 m2 m3 m4 m5)
    have HE := hid ((((((HM4.out.set0 false).set1 0).set2 F).set3 A).set4 L).set5 Q)
    have HGf := hid (put_new (put_new (put_new (put_new (put_new (put_new HG4.out (Nat.le_refl _) 0 (.bool false)) (Nat.le_refl _) 1 (.int .i64 0)) (Nat.le_refl _) 2 (.int .i64 F)) (Nat.le_refl _) 3 (.int .i64 A)) (Nat.le_refl _) 4 (.int .i64 L)) (Nat.le_refl _) 5 (.int .i64 Q))
    have hp := fun (z : World) (hz : RdB z b s'.1 s'.2) (q : Nat) (u : Value) => (((grown_set z w.heap.size q u).block b hz.lt (by simpa using hne2)).trans hz : RdB (z.setCell ⟨w.heap.size, q, none⟩ u) b s'.1 s'.2)
    have HRf := hid (hp _ (hp _ (hp _ (hp _ (hp _ (hp _ HR4.out 0 (.bool false)) 1 (.int .i64 0)) 2 (.int .i64 F)) 3 (.int .i64 A)) 4 (.int .i64 L)) 5 (.int .i64 Q))
    clear hp
    obtain ⟨z0, z1, z2, z3, z4, z5⟩ := HE.out.cells
    simp only at z0 z1 z2 z3 z4 z5
    exact bodyPost_ret (v := nodeV ⟨false, 0, F, A, L, Q⟩) (by simp [results, Tryz.results50, go_sem, z0, z1, z2, z3, z4, z5]) rfl ⟨rfl, HRf.out, HGf.out⟩

end Go.Proofs.YtfabodbcdnmpmaaGreatDoor
