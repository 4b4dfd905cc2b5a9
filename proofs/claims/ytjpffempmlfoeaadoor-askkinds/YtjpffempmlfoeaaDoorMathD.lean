/- Plain mathematics of chapter 3 (a number's text, and the number of a text): no program is spoken of here, so this text has no conditions on one. -/
import Derived.WalkKit
import Derived.Lib.ItoaNum
namespace Go.Proofs.YtjpffempmlfoeaaDoor.M
open Go.RowKit (wrap64)
open Go

abbrev Txt := List UInt8

/-! the decimals of a part -/
def decsF : Nat → Nat → Txt
  | 0, _ => []
  | f + 1, p => if p = 0 then [] else UInt8.ofNat (48 + p * 10 / 256) :: decsF f (p * 10 % 256)
def decs (p : Nat) : Txt := decsF 8 p
theorem decs_zero : decs 0 = [] := rfl
theorem decs_step (p : Nat) (h : p < 256) (h0 : p ≠ 0) : decs p = UInt8.ofNat (48 + p * 10 / 256) :: decs (p * 10 % 256) :=
  (show ∀ p : Fin 256, p.val ≠ 0 → decs p.val = UInt8.ofNat (48 + p.val * 10 / 256) :: decs (p.val * 10 % 256) by decide +kernel) ⟨p, h⟩ h0
def isDig (c : UInt8) : Bool := decide (48 ≤ c.toNat ∧ c.toNat ≤ 57)
theorem decs_facts (p : Nat) (h : p < 256) : (decs p).all isDig = true ∧ (decs p).length ≤ 8 ∧ ((decs p).length = 0 ↔ p = 0) ∧ (decs p).getLast? ≠ some 48 :=
  (show ∀ p : Fin 256, (decs p.val).all isDig = true ∧ (decs p.val).length ≤ 8 ∧ ((decs p.val).length = 0 ↔ p.val = 0) ∧ (decs p.val).getLast? ≠ some 48 by decide +kernel) ⟨p, h⟩
theorem decs_twice (p : Nat) (h : p < 256) : (decs (2 * p % 256)).length ≤ (decs p).length :=
  (show ∀ p : Fin 256, (decs (2 * p.val % 256)).length ≤ (decs p.val).length by decide +kernel) ⟨p, h⟩

/-! the text of a number -/
def tailD (p : Nat) : Txt := if p = 0 then [] else 46 :: decs p
def printU (u : Nat) : Txt := Lib.decDigits (u / 256) ++ tailD (u % 256)
def printL (n : Int) : Txt := if n < 0 then 45 :: printU n.natAbs else printU n.natAbs

theorem dig_of (k : Nat) (h : k < 10) : isDig (UInt8.ofNat (48 + k)) = true :=
  (show ∀ k : Fin 10, isDig (UInt8.ofNat (48 + k.val)) = true by decide +kernel) ⟨k, h⟩
theorem dd_dig (u : Nat) : (Lib.decDigits u).all isDig = true := by
  induction u using Nat.strongRecOn with
  | _ u ih =>
    rw [Lib.decDigits]
    split
    · rename_i h
      simp only [List.all_cons, List.all_nil, Bool.and_true]
      exact dig_of u h
    · rename_i h
      rw [List.all_append, ih (u / 10) (by omega)]
      simp only [List.all_cons, List.all_nil, Bool.and_true, Bool.true_and]
      exact dig_of (u % 10) (by omega)
theorem dd_ne (u : Nat) : Lib.decDigits u ≠ [] := by
  rw [Lib.decDigits]
  split <;> simp
theorem nD_le : ∀ (k u : Nat), u < 10 ^ (k + 1) → Lib.nDigits u ≤ k + 1
  | 0, u, h => by rw [Lib.nDigits_small (by omega)]; exact Nat.le_refl _
  | k + 1, u, h => by
    by_cases hs : u < 10
    · rw [Lib.nDigits_small hs]; omega
    · rw [Lib.nDigits_big hs]
      have := nD_le k (u / 10) (by rw [Nat.pow_succ] at h; omega)
      omega
theorem dd_len (u : Nat) (h : u < 18446744073709551616) : (Lib.decDigits u).length ≤ 20 := by
  rw [Lib.decDigits_length]
  exact nD_le 19 u (by omega)
theorem dd_pos (u : Nat) : 1 ≤ (Lib.decDigits u).length := by
  rcases h : Lib.decDigits u with _ | ⟨a, b⟩
  · exact absurd h (dd_ne u)
  · simp

/-! the number of a text -/
def dv (c : UInt8) : Nat := (c.toNat + 208) % 256
def readW (l : Txt) : Nat := l.foldl (fun w c => (w * 10 + dv c) % 18446744073709551616) 0
def readP (l : Txt) : Nat := l.foldr (fun c p => (dv c * 256 + p) / 10) 0
def cutA : Txt → Txt
  | [] => []
  | c :: r => if c = 46 then [] else c :: cutA r
def cutB : Txt → Txt
  | [] => []
  | c :: r => if c = 46 then r else cutB r
def minusB (s : Txt) : Bool := s.head? == some 45
def unsg (s : Txt) : Txt := if minusB s then s.drop 1 else s
def sizeL (s : Txt) : Nat := (readW (cutA (unsg s)) * 256 + readP (cutB (unsg s))) % 18446744073709551616
def readL (s : Txt) : Int := wrap64 (if minusB s then -(sizeL s : Int) else (sizeL s : Int))

theorem dv_dig (k : Nat) (h : k < 10) : dv (UInt8.ofNat (48 + k)) = k :=
  (show ∀ k : Fin 10, dv (UInt8.ofNat (48 + k.val)) = k.val by decide +kernel) ⟨k, h⟩
theorem dv_lt (c : UInt8) : dv c < 256 := Nat.mod_lt _ (by decide)
theorem readW_snoc (l : Txt) (c : UInt8) : readW (l ++ [c]) = (readW l * 10 + dv c) % 18446744073709551616 := by
  unfold readW; rw [List.foldl_append]; rfl
theorem readW_lt (l : Txt) : readW l < 18446744073709551616 := by
  rcases List.eq_nil_or_concat l with rfl | ⟨m, c, rfl⟩
  · decide
  · rw [List.concat_eq_append, readW_snoc]; exact Nat.mod_lt _ (by decide)
theorem readP_lt (l : Txt) : readP l < 8000 := by
  induction l with
  | nil => decide
  | cons c r ih =>
    have := dv_lt c
    show (dv c * 256 + readP r) / 10 < 8000
    omega
theorem readW_dd (u : Nat) (h : u < 18446744073709551616) : readW (Lib.decDigits u) = u := by
  induction u using Nat.strongRecOn with
  | _ u ih =>
    rw [Lib.decDigits]
    split
    · rename_i h1
      show (0 * 10 + dv _) % 18446744073709551616 = u
      rw [dv_dig u h1]; omega
    · rename_i h1
      rw [readW_snoc, ih (u / 10) (by omega) (by omega), dv_dig _ (by omega)]; omega
theorem readP_decs (p : Nat) (h : p < 256) : readP (decs p) = p :=
  (show ∀ p : Fin 256, readP (decs p.val) = p.val by decide +kernel) ⟨p, h⟩
theorem dig_ne {c : UInt8} (h : isDig c = true) : c ≠ 46 ∧ c ≠ 45 ∧ c ≠ 43 := by
  refine ⟨?_, ?_, ?_⟩ <;> (rintro rfl; revert h; decide)
theorem cutA_app : ∀ (l r : Txt), l.all isDig = true → cutA (l ++ 46 :: r) = l ∧ cutB (l ++ 46 :: r) = r
  | [], r, _ => by simp [cutA, cutB]
  | c :: l, r, h => by
    simp only [List.all_cons, Bool.and_eq_true] at h
    have hc := (dig_ne h.1).1
    have := cutA_app l r h.2
    simp [cutA, cutB, hc, this]
theorem cutA_all : ∀ (l : Txt), l.all isDig = true → cutA l = l ∧ cutB l = []
  | [], _ => by simp [cutA, cutB]
  | c :: l, h => by
    simp only [List.all_cons, Bool.and_eq_true] at h
    have hc := (dig_ne h.1).1
    have := cutA_all l h.2
    simp [cutA, cutB, hc, this]
theorem cut_printU (u : Nat) : cutA (printU u) = Lib.decDigits (u / 256) ∧ cutB (printU u) = decs (u % 256) := by
  unfold printU tailD
  split
  · rename_i h
    rw [List.append_nil, h, decs_zero]
    exact cutA_all _ (dd_dig _)
  · exact cutA_app _ _ (dd_dig _)
theorem printU_head (u : Nat) : ∃ c r, printU u = c :: r ∧ isDig c = true := by
  unfold printU
  rcases h : Lib.decDigits (u / 256) with _ | ⟨a, b⟩
  · exact absurd h (dd_ne _)
  · have := dd_dig (u / 256)
    rw [h] at this
    simp only [List.all_cons, Bool.and_eq_true] at this
    exact ⟨a, _, rfl, this.1⟩
theorem minus_printU (u : Nat) : minusB (printU u) = false := by
  obtain ⟨c, r, h, hc⟩ := printU_head u
  rw [h]
  simp [minusB, (dig_ne hc).2.1]
theorem minus_printL (n : Int) : minusB (printL n) = decide (n < 0) ∧ unsg (printL n) = printU n.natAbs := by
  unfold printL
  split
  · rename_i h; simp [minusB, unsg, h]
  · rename_i h; simp [unsg, minus_printU, h]
theorem read_print (n : Int) (h1 : -9223372036854775808 ≤ n) (h2 : n ≤ 9223372036854775807) : readL (printL n) = n := by
  have hu := minus_printL n
  have hc := cut_printU n.natAbs
  have hs : sizeL (printL n) = n.natAbs := by
    unfold sizeL
    rw [hu.2, hc.1, hc.2, readW_dd _ (by omega), readP_decs _ (by omega)]
    omega
  unfold readL
  rw [hs, hu.1]
  by_cases h : n < 0
  · simp only [h, decide_true, if_true]
    unfold wrap64; omega
  · simp only [h, decide_false, Bool.false_eq_true, if_false]
    unfold wrap64; omega
theorem readL_bd (s : Txt) : -9223372036854775808 ≤ readL s ∧ readL s ≤ 9223372036854775807 := by
  unfold readL wrap64; omega

/-! what is scanned -/
def scanN (s : Txt) : Int := if printL (readL s) = s then readL s else 0
def scanB (s : Txt) : Bool := decide (printL (readL s) = s)
theorem scan_print (n : Int) (h1 : -9223372036854775808 ≤ n) (h2 : n ≤ 9223372036854775807) : scanN (printL n) = n ∧ scanB (printL n) = true := by
  unfold scanN scanB
  rw [read_print n h1 h2]
  simp
theorem scan_yes {s : Txt} (h : scanB s = true) : printL (scanN s) = s ∧ scanN s = readL s := by
  have h' : printL (readL s) = s := of_decide_eq_true h
  unfold scanN
  rw [if_pos h']
  exact ⟨h', rfl⟩
theorem scan_no {s : Txt} (h : scanB s = false) : scanN s = 0 ∧ ∀ n : Int, -9223372036854775808 ≤ n → n ≤ 9223372036854775807 → printL n ≠ s := by
  have h' : ¬ printL (readL s) = s := of_decide_eq_false h
  refine ⟨by unfold scanN; rw [if_neg h'], fun n h1 h2 e => ?_⟩
  subst e
  rw [read_print n h1 h2] at h'
  exact h' rfl
theorem scanN_bd (s : Txt) : -9223372036854775808 ≤ scanN s ∧ scanN s ≤ 9223372036854775807 := by
  have := readL_bd s
  unfold scanN
  split <;> omega
theorem print_inj {n m : Int} (h1 : -9223372036854775808 ≤ n) (h2 : n ≤ 9223372036854775807) (h3 : -9223372036854775808 ≤ m) (h4 : m ≤ 9223372036854775807) (h : printL n = printL m) : n = m := by
  rw [← read_print n h1 h2, h, read_print m h3 h4]
theorem printU_len (u : Nat) (h : u < 18446744073709551616) : (printU u).length ≤ 29 ∧ 1 ≤ (printU u).length := by
  have h1 := dd_len (u / 256) (by omega)
  have h2 := (decs_facts (u % 256) (by omega)).2.1
  have h3 := dd_pos (u / 256)
  unfold printU tailD
  split <;> simp <;> omega
theorem printL_len (n : Int) (h1 : -9223372036854775808 ≤ n) (h2 : n ≤ 9223372036854775807) : (printL n).length ≤ 30 ∧ 1 ≤ (printL n).length := by
  have := printU_len n.natAbs (by omega)
  unfold printL
  split
  · simp only [List.length_cons]; omega
  · omega

/-! the document's own way of printing -/
def DigsR : Txt → Nat → Nat → Prop
  | [], u, l => u = 0 ∧ l = 0
  | c :: r, u, l => ¬ (u = 0 ∧ l = 0) ∧ c = UInt8.ofNat (48 + u % 10) ∧ DigsR r (u / 10) (l - 1)
def Digs (u l : Nat) (t : Txt) : Prop := DigsR t.reverse u l
theorem Digs.nil : Digs 0 0 [] := ⟨rfl, rfl⟩
theorem Digs.step {u l : Nat} {t : Txt} (h : ¬ (u = 0 ∧ l = 0)) (ht : Digs (u / 10) (l - 1) t) : Digs u l (t ++ [UInt8.ofNat (48 + u % 10)]) := by
  unfold Digs
  rw [List.reverse_append]
  exact ⟨h, rfl, ht⟩
theorem Digs.zero {t : Txt} (h : Digs 0 0 t) : t = [] := by
  unfold Digs at h
  rcases hr : t.reverse with _ | ⟨c, r⟩
  · simpa using hr
  · rw [hr] at h
    exact absurd ⟨rfl, rfl⟩ h.1
theorem Digs.more {u l : Nat} {t : Txt} (h : Digs u l t) (h0 : ¬ (u = 0 ∧ l = 0)) : ∃ t', t = t' ++ [UInt8.ofNat (48 + u % 10)] ∧ Digs (u / 10) (l - 1) t' := by
  unfold Digs at h
  rcases hr : t.reverse with _ | ⟨c, r⟩
  · rw [hr] at h
    exact absurd h h0
  · rw [hr] at h
    obtain ⟨_, rfl, h2⟩ := h
    refine ⟨r.reverse, ?_, ?_⟩
    · rw [← List.reverse_reverse t, hr, List.reverse_cons]
    · unfold Digs
      rwa [List.reverse_reverse]
theorem digs_dd0 (u : Nat) (h0 : 1 ≤ u) : Digs u 0 (Lib.decDigits u) := by
  induction u using Nat.strongRecOn with
  | _ u ih =>
    rw [Lib.decDigits]
    split
    · rename_i h
      have e : u % 10 = u := by omega
      have := Digs.step (u := u) (l := 0) (t := []) (by omega) (by rw [show u / 10 = 0 by omega]; exact Digs.nil)
      rw [e] at this
      exact this
    · rename_i h
      exact Digs.step (by omega) (ih (u / 10) (by omega) (by omega))
theorem digs_dd (u : Nat) : Digs u 1 (Lib.decDigits u) := by
  by_cases h : u < 10
  · rw [Lib.decDigits, dif_pos h]
    have e : u % 10 = u := by omega
    have := Digs.step (u := u) (l := 1) (t := []) (by omega) (by rw [show u / 10 = 0 by omega]; exact Digs.nil)
    rw [e] at this
    exact this
  · rw [Lib.decDigits, dif_neg h]
    exact Digs.step (by omega) (digs_dd0 (u / 10) (by omega))
def digsF : Nat → Nat → Nat → Txt
  | 0, _, _ => []
  | f + 1, u, l => digsF f (u / 10) (l - 1) ++ [UInt8.ofNat (48 + u % 10)]
theorem digs_F : ∀ (f u l : Nat), l = f → u < 10 ^ f → Digs u l (digsF f u l)
  | 0, u, l, h, hu => by
    obtain rfl := h
    obtain rfl : u = 0 := by omega
    exact Digs.nil
  | f + 1, u, l, h, hu => Digs.step (by omega) (digs_F f (u / 10) (l - 1) (by omega) (by rw [Nat.pow_succ] at hu; omega))
def pd (p : Nat) : Txt := digsF 8 (p * 390625) 8
theorem digs_pd (p : Nat) (h : p < 256) : Digs (p * 390625) 8 (pd p) := digs_F 8 _ 8 rfl (by omega)
def strip (q : Txt) : Txt := (q.reverse.dropWhile (· == 48)).reverse
theorem strip_zero (q : Txt) : strip (q ++ [48]) = strip q := by simp [strip]
theorem strip_end (q : Txt) (c : UInt8) (h : c ≠ 48) : strip (q ++ [c]) = q ++ [c] := by simp [strip, h]
theorem strip_nil : strip [] = [] := rfl
theorem pd_facts (p : Nat) (h : p < 256) (h0 : p ≠ 0) : strip (pd p) = decs p ∧ decs p ≠ [] ∧ (pd p).length = 8 :=
  (show ∀ p : Fin 256, p.val ≠ 0 → strip (pd p.val) = decs p.val ∧ decs p.val ≠ [] ∧ (pd p.val).length = 8 by decide +kernel) ⟨p, h⟩ h0

/-! the document's own way of scanning -/
structure St where
  whole : Nat
  part : Nat
  places : Nat
  point : Bool
def stepS (first : Bool) (st : St) (c : UInt8) : Option St :=
  if c = 45 ∧ first = true then some st
  else if c = 46 ∧ st.point = false then some { st with point := true }
  else if c.toNat < 48 ∨ 57 < c.toNat then none
  else if st.point = true then if st.places = 8 then none else some { st with part := 10 * st.part + (c.toNat - 48), places := st.places + 1 }
  else if 36028797018963968 < st.whole then none else some { st with whole := 10 * st.whole + (c.toNat - 48) }
def foldS : Bool → St → Txt → Option St
  | _, st, [] => some st
  | f, st, c :: r => match stepS f st c with
    | none => none
    | some st' => foldS false st' r
def fill (st : St) : Nat := st.part * 10 ^ (8 - st.places)
def finish (minus : Bool) (st : St) : Option Int :=
  if 36028797018963968 < st.whole ∨ fill st % 390625 ≠ 0 then none
  else if minus = true ∧ st.whole = 36028797018963968 ∧ fill st = 0 then some (-9223372036854775808)
  else if st.whole = 36028797018963968 then none
  else some (if minus = true then -((st.whole * 256 + fill st / 390625 : Nat) : Int) else ((st.whole * 256 + fill st / 390625 : Nat) : Int))
def candL (s : Txt) : Option Int := (foldS true ⟨0, 0, 0, false⟩ s).bind (finish (minusB s))

def GoodSt (st : St) : Prop := st.whole ≤ 360287970189639689 ∧ st.part < 10 ^ st.places ∧ st.places ≤ 8
theorem stepS_good {f : Bool} {st st' : St} {c : UInt8} (h : GoodSt st) (hs : stepS f st c = some st') : GoodSt st' := by
  obtain ⟨h1, h2, h3⟩ := h
  have hc := c.toNat_lt
  unfold stepS at hs
  repeat' split at hs
  all_goals first
    | (cases hs; done)
    | (obtain rfl := Option.some.inj hs; exact ⟨h1, h2, h3⟩)
    | (obtain rfl := Option.some.inj hs
       refine ⟨h1, ?_, ?_⟩
       · show 10 * st.part + (c.toNat - 48) < 10 ^ (st.places + 1)
         rw [Nat.pow_succ]; omega
       · show st.places + 1 ≤ 8
         omega)
    | (obtain rfl := Option.some.inj hs
       refine ⟨?_, h2, h3⟩
       show 10 * st.whole + (c.toNat - 48) ≤ 360287970189639689
       omega)
theorem fill_lt {st : St} (h : GoodSt st) : fill st < 100000000 := by
  obtain ⟨_, h2, h3⟩ := h
  unfold fill
  have e : 10 ^ st.places * 10 ^ (8 - st.places) = 100000000 := by
    rw [← Nat.pow_add, show st.places + (8 - st.places) = 8 by omega]
  have hp : 0 < 10 ^ (8 - st.places) := Nat.pos_of_ne_zero (by simp)
  calc st.part * 10 ^ (8 - st.places) < 10 ^ st.places * 10 ^ (8 - st.places) := Nat.mul_lt_mul_of_pos_right h2 hp
    _ = 100000000 := e
theorem finish_bd {m : Bool} {st : St} {n : Int} (h : GoodSt st) (hf : finish m st = some n) : -9223372036854775808 ≤ n ∧ n ≤ 9223372036854775807 := by
  have hl := fill_lt h
  unfold finish at hf
  repeat' split at hf
  all_goals first
    | (cases hf; done)
    | (obtain rfl := Option.some.inj hf; omega)

theorem step_dig (f : Bool) (st : St) (k : Nat) (hk : k < 10) (hp : st.point = false) (hw : st.whole ≤ 36028797018963968) :
    stepS f st (UInt8.ofNat (48 + k)) = some { st with whole := 10 * st.whole + k } := by
  have e : (UInt8.ofNat (48 + k)).toNat = 48 + k := by
    rw [UInt8.toNat_ofNat']; omega
  have h1 : ¬ (UInt8.ofNat (48 + k) = 45) := fun h => by have := congrArg UInt8.toNat h; rw [e] at this; have e2 : (45 : UInt8).toNat = 45 := rfl; omega
  have h2 : ¬ (UInt8.ofNat (48 + k) = 46) := fun h => by have := congrArg UInt8.toNat h; rw [e] at this; have e2 : (46 : UInt8).toNat = 46 := rfl; omega
  unfold stepS
  rw [if_neg (fun h => h1 h.1), if_neg (fun h => h2 h.1), if_neg (by omega), if_neg (by simp [hp]), if_neg (by omega), e]
  simp
theorem foldS_app : ∀ (f : Bool) (st : St) (l r : Txt), l ≠ [] → foldS f st (l ++ r) = (foldS f st l).bind fun st' => foldS false st' r
  | _, _, [], _, h => absurd rfl h
  | f, st, c :: l, r, _ => by
    show (match stepS f st c with | none => none | some st' => foldS false st' (l ++ r)) = _
    rw [foldS]
    cases hs : stepS f st c with
    | none => rfl
    | some st' =>
      show foldS false st' (l ++ r) = (foldS false st' l).bind _
      cases l with
      | nil => rfl
      | cons d l => exact foldS_app false st' (d :: l) r (by simp)
theorem fold_dd (W : Nat) (hW : W ≤ 36028797018963968) (f : Bool) : foldS f ⟨0, 0, 0, false⟩ (Lib.decDigits W) = some ⟨W, 0, 0, false⟩ := by
  induction W using Nat.strongRecOn generalizing f with
  | _ W ih =>
    rw [Lib.decDigits]
    split
    · rename_i h
      rw [foldS, step_dig f ⟨0, 0, 0, false⟩ W h rfl (by decide)]
      show foldS false ⟨10 * 0 + W, 0, 0, false⟩ [] = _
      rw [foldS]; simp
    · rename_i h
      rw [foldS_app _ _ _ _ (dd_ne _), ih (W / 10) (by omega) (by omega) f]
      show foldS false ⟨W / 10, 0, 0, false⟩ [UInt8.ofNat (48 + W % 10)] = _
      rw [foldS, step_dig false ⟨W / 10, 0, 0, false⟩ (W % 10) (by omega) rfl (by show W / 10 ≤ _; omega)]
      show foldS false ⟨10 * (W / 10) + W % 10, 0, 0, false⟩ [] = _
      rw [foldS, show 10 * (W / 10) + W % 10 = W by omega]
def partS : Nat → Nat → Txt → Option (Nat × Nat)
  | a, b, [] => some (a, b)
  | a, b, c :: r => if c.toNat < 48 ∨ 57 < c.toNat then none else if b = 8 then none else partS (10 * a + (c.toNat - 48)) (b + 1) r
theorem fold_part : ∀ (l : Txt) (W a b : Nat), foldS false ⟨W, a, b, true⟩ l = (partS a b l).map fun x => ⟨W, x.1, x.2, true⟩
  | [], W, a, b => rfl
  | c :: r, W, a, b => by
    rw [foldS, partS]
    have e : stepS false ⟨W, a, b, true⟩ c = if c.toNat < 48 ∨ 57 < c.toNat then none else if b = 8 then none else some ⟨W, 10 * a + (c.toNat - 48), b + 1, true⟩ := by
      simp [stepS]
    rw [e]
    by_cases h : c.toNat < 48 ∨ 57 < c.toNat
    · simp [h]
    · by_cases h8 : b = 8
      · simp [h, h8]
      · simp only [h, h8, if_false]
        exact fold_part r W _ _
theorem part_decs (p : Nat) (h : p < 256) (h0 : p ≠ 0) : ∃ x, partS 0 0 (decs p) = some x ∧ x.1 * 10 ^ (8 - x.2) = p * 390625 := by
  have hb : ∀ p : Fin 256, p.val ≠ 0 → (partS 0 0 (decs p.val)).any (fun x => x.1 * 10 ^ (8 - x.2) == p.val * 390625) = true := by decide +kernel
  have := hb ⟨p, h⟩ h0
  cases hx : partS 0 0 (decs p) with
  | none => simp only [hx] at this; cases this
  | some x =>
    simp only [hx, Option.any_some, beq_iff_eq] at this
    exact ⟨x, rfl, this⟩
theorem fold_printU (u : Nat) (hu : u ≤ 9223372036854775808) (f : Bool) : ∃ st, foldS f ⟨0, 0, 0, false⟩ (printU u) = some st ∧ st.whole = u / 256 ∧ fill st = u % 256 * 390625 := by
  unfold printU tailD
  split
  · rename_i h
    rw [List.append_nil, fold_dd _ (by omega)]
    exact ⟨_, rfl, rfl, by rw [h]; simp [fill]⟩
  · rename_i h
    rw [foldS_app _ _ _ _ (dd_ne _), fold_dd _ (by omega)]
    obtain ⟨x, hx, hv⟩ := part_decs (u % 256) (by omega) h
    refine ⟨⟨u / 256, x.1, x.2, true⟩, ?_, rfl, hv⟩
    show foldS false ⟨u / 256, 0, 0, false⟩ (46 :: decs (u % 256)) = _
    rw [foldS]
    show foldS false ⟨u / 256, 0, 0, true⟩ (decs (u % 256)) = _
    rw [fold_part, hx]
    rfl
theorem cand_print (n : Int) (h1 : -9223372036854775808 ≤ n) (h2 : n ≤ 9223372036854775807) : candL (printL n) = some n := by
  unfold candL
  rw [(minus_printL n).1]
  unfold printL
  by_cases h : n < 0
  · obtain ⟨st, hs, hw, hf⟩ := fold_printU n.natAbs (by omega) false
    have e : foldS true ⟨0, 0, 0, false⟩ (45 :: printU n.natAbs) = foldS false ⟨0, 0, 0, false⟩ (printU n.natAbs) := by rw [foldS]; rfl
    rw [if_pos h, e, hs]
    show finish _ st = _
    unfold finish
    rw [hw, hf]
    simp only [h, decide_true, true_and, if_true]
    rw [if_neg (by omega)]
    split
    · simp only [Option.some.injEq]; omega
    · rw [if_neg (by omega)]
      simp only [Option.some.injEq]
      omega
  · obtain ⟨st, hs, hw, hf⟩ := fold_printU n.natAbs (by omega) true
    rw [if_neg h, hs]
    show finish _ st = _
    unfold finish
    rw [hw, hf]
    simp only [h, decide_false, Bool.false_eq_true, false_and, if_false]
    rw [if_neg (by omega), if_neg (by omega)]
    simp only [Option.some.injEq]
    omega
theorem foldS_good : ∀ (f : Bool) (st : St) (l : Txt) (st' : St), GoodSt st → foldS f st l = some st' → GoodSt st'
  | _, st, [], st', h, e => by rw [foldS] at e; obtain rfl := Option.some.inj e; exact h
  | f, st, c :: r, st', h, e => by
    rw [foldS] at e
    cases hs : stepS f st c with
    | none => rw [hs] at e; cases e
    | some s1 => rw [hs] at e; exact foldS_good false s1 r st' (stepS_good h hs) e
theorem cand_bd {s : Txt} {n : Int} (h : candL s = some n) : -9223372036854775808 ≤ n ∧ n ≤ 9223372036854775807 := by
  unfold candL at h
  cases hf : foldS true ⟨0, 0, 0, false⟩ s with
  | none => rw [hf] at h; cases h
  | some st =>
    rw [hf] at h
    exact finish_bd (foldS_good _ _ _ _ ⟨by decide, by decide, by decide⟩ hf) h
/-- the document's answer is the code's -/
theorem cand_none {s : Txt} (h : candL s = none) : scanN s = 0 ∧ scanB s = false := by
  cases hb : scanB s with
  | false => exact ⟨(scan_no hb).1, rfl⟩
  | true =>
    have := scan_yes hb
    have hd := scanN_bd s
    rw [← this.1, cand_print _ hd.1 hd.2] at h
    cases h
theorem cand_hit {s : Txt} {n : Int} (h : candL s = some n) (e : printL n = s) : scanN s = n ∧ scanB s = true := by
  have hd := cand_bd h
  rw [← e]
  exact scan_print n hd.1 hd.2
theorem cand_miss {s : Txt} {n : Int} (h : candL s = some n) (e : printL n ≠ s) : scanN s = 0 ∧ scanB s = false := by
  cases hb : scanB s with
  | false => exact ⟨(scan_no hb).1, rfl⟩
  | true =>
    have h1 := scan_yes hb
    have hd := scanN_bd s
    have h2 : candL s = some (scanN s) := by
      have := cand_print _ hd.1 hd.2
      rwa [h1.1] at this
    obtain rfl := Option.some.inj (h.symm.trans h2)
    exact absurd h1.1 e

/-! texts that are no number's -/
theorem print_head (n : Int) : (printL n).head? ≠ some 43 := by
  obtain ⟨c, r, h, hc⟩ := printU_head n.natAbs
  unfold printL
  split
  · simp
  · rw [h]; simp [(dig_ne hc).2.2]
theorem all_last (l : Txt) (h : l.all isDig = true) : l.getLast? ≠ some 46 := by
  intro e
  have hm := List.mem_of_getLast? e
  have := List.all_eq_true.1 h 46 hm
  exact absurd this (by decide)
theorem printU_last (u : Nat) : (printU u).getLast? ≠ some 46 := by
  unfold printU tailD
  split
  · rw [List.append_nil]
    exact all_last _ (dd_dig _)
  · rename_i h
    have hd := decs_facts (u % 256) (by omega)
    have hne : decs (u % 256) ≠ [] := fun e => h (hd.2.2.1.1 (by rw [e]; rfl))
    rw [List.getLast?_append]
    rcases hl : (decs (u % 256)).getLast? with _ | c
    · exact absurd (List.getLast?_eq_none_iff.1 hl) hne
    have hl' := all_last _ hd.1
    rw [hl] at hl'
    rw [List.getLast?_cons, hl]
    simpa using hl'
theorem print_last (n : Int) : (printL n).getLast? ≠ some 46 := by
  unfold printL
  split
  · obtain ⟨c, r, h, _⟩ := printU_head n.natAbs
    have := printU_last n.natAbs
    rw [h] at this ⊢
    rw [List.getLast?_cons_cons]
    exact this
  · exact printU_last _
theorem print_ne (n : Int) : printL n ≠ [] := by
  obtain ⟨c, r, h, _⟩ := printU_head n.natAbs
  unfold printL
  split
  · simp
  · rw [h]; simp
theorem scan_point (l : Txt) : scanB (l ++ [46]) = false := by
  cases hb : scanB (l ++ [46]) with
  | false => rfl
  | true =>
    have := (scan_yes hb).1
    have h2 := print_last (scanN (l ++ [46]))
    rw [this] at h2
    simp at h2
theorem scan_plus (l : Txt) : scanB (43 :: l) = false := by
  cases hb : scanB (43 :: l) with
  | false => rfl
  | true =>
    have := (scan_yes hb).1
    have h2 := print_head (scanN (43 :: l))
    rw [this] at h2
    simp at h2
theorem scan_empty : scanB [] = false := by
  cases hb : scanB [] with
  | false => rfl
  | true => exact absurd (scan_yes hb).1 (print_ne _)

end Go.Proofs.YtjpffempmlfoeaaDoor.M
