/- Plain mathematics of chapter 12: a span parted at numbers; the cells of a box by their number. No program is spoken of here.
   Chapter 12's cuts and cells of a model and a query, in plain words: what holds is broken nowhere; a part of a box has no more cells. No program's code is spoken of here. -/
import Derived.Test.YtkkbeobocbgmeaaGreatMathB
import Derived.Test.YtkkbeobocbgmeaaGreatMathT
import Derived.Test.YtkkbeobocbgmeaaGreatCellsM
import Derived.Test.YtkkbeobocbgmeaaGreatQueryE
namespace Go.Proofs.YtkkbeobocbgmeaaGreat.M

/-- those numbers of a list that part a span -/
def cutS (s : Sp) (L : List Int) : List Int := L.filter fun t => decide (s.lo ≤ t) && decide (t < s.hi)
/-- those among the first j -/
def cutN (s : Sp) (L : List Int) (j : Nat) : List Int := cutS s (L.take j)
theorem cutN_zero (s : Sp) (L : List Int) : cutN s L 0 = [] := rfl
theorem cutN_all (s : Sp) (L : List Int) : cutN s L L.length = cutS s L := by simp [cutN]
theorem cutN_step (s : Sp) (L : List Int) {j : Nat} (h : j < L.length) : cutN s L (j + 1) = cutN s L j ++ if s.lo ≤ wd L j ∧ wd L j < s.hi then [wd L j] else [] := by
  have e : L.take (j + 1) = L.take j ++ [wd L j] := by rw [List.take_add_one, wd_of h]; rfl
  unfold cutN cutS
  rw [e, List.filter_append]
  congr 1
  by_cases h1 : s.lo ≤ wd L j <;> by_cases h2 : wd L j < s.hi <;> simp [h1, h2]
theorem cutS_len (s : Sp) (L : List Int) : (cutS s L).length ≤ L.length := List.length_filter_le _ _
theorem cutN_len (s : Sp) (L : List Int) (j : Nat) : (cutN s L j).length ≤ j := Nat.le_trans (cutS_len s _) (by simp; omega)
theorem cutS_mem {s : Sp} {L : List Int} {x : Int} : x ∈ cutS s L ↔ x ∈ L ∧ s.lo ≤ x ∧ x < s.hi := by simp [cutS]
theorem cutS_up {s : Sp} {L : List Int} (h : L.Pairwise (fun a b => a < b)) : (cutS s L).Pairwise (fun a b => a < b) := h.filter _

/-- a rising list of numbers that part a span -/
def UpIn (s : Sp) (L : List Int) : Prop := L.Pairwise (fun a b => a < b) ∧ ∀ x, x ∈ L → s.lo ≤ x ∧ x < s.hi
theorem upIn_cut {s : Sp} {L : List Int} (h : L.Pairwise (fun a b => a < b)) : UpIn s (cutS s L) := ⟨cutS_up h, fun _ hx => (cutS_mem.1 hx).2⟩
theorem wd_mem {L : List Int} {i : Nat} (h : i < L.length) : wd L i ∈ L := by
  have := wd_of h
  exact List.mem_of_getElem? this
theorem mem_wd {L : List Int} {x : Int} (h : x ∈ L) : ∃ i, i < L.length ∧ wd L i = x := by
  obtain ⟨i, hi, rfl⟩ := List.mem_iff_getElem.1 h
  exact ⟨i, hi, by simp [wd, hi]⟩
theorem UpIn.lt {s : Sp} {L : List Int} (h : UpIn s L) {i j : Nat} (hij : i < j) (hj : j < L.length) : wd L i < wd L j := by
  have := List.pairwise_iff_getElem.1 h.1 i j (by omega) hj hij
  have e1 : wd L i = L[i] := by simp [wd, show i < L.length by omega]
  have e2 : wd L j = L[j] := by simp [wd, hj]
  rw [e1, e2]
  exact this
theorem UpIn.le {s : Sp} {L : List Int} (h : UpIn s L) {i j : Nat} (hij : i ≤ j) (hj : j < L.length) : wd L i ≤ wd L j := by
  rcases Nat.lt_or_eq_of_le hij with h1 | rfl
  · have := h.lt h1 hj; omega
  · exact Int.le_refl _
theorem UpIn.in {s : Sp} {L : List Int} (h : UpIn s L) {i : Nat} (hi : i < L.length) : s.lo ≤ wd L i ∧ wd L i < s.hi := h.2 _ (wd_mem hi)

/-- part number i of a span -/
def prt (s : Sp) (L : List Int) (i : Nat) : Sp := ⟨if i = 0 then s.lo else wd L (i - 1) + 1, if i < L.length then wd L i else s.hi⟩
theorem prt_ne {s : Sp} {L : List Int} (h : UpIn s L) (hs : s.lo ≤ s.hi) {i : Nat} (hi : i ≤ L.length) : (prt s L i).lo ≤ (prt s L i).hi := by
  simp only [prt]
  split
  · split
    · rename_i e hl; subst e; have := (h.in hl).1; omega
    · exact hs
  · split
    · have := h.lt (i := i - 1) (j := i) (by omega) (by omega); omega
    · have := (h.in (i := i - 1) (by omega)).2; omega
theorem prt_in {s : Sp} {L : List Int} (h : UpIn s L) {i : Nat} (hi : i ≤ L.length) : s.lo ≤ (prt s L i).lo ∧ (prt s L i).hi ≤ s.hi := by
  simp only [prt]
  constructor
  · split
    · exact Int.le_refl _
    · have := (h.in (i := i - 1) (by omega)).1; omega
  · split
    · have := (h.in (i := i) (by omega)).2; omega
    · exact Int.le_refl _
theorem prt_whole {s : Sp} {L : List Int} (h : UpIn s L) {i : Nat} (hi : i ≤ L.length) {t : Int} (ht : t ∈ L) : ¬ ((prt s L i).lo ≤ t ∧ t < (prt s L i).hi) := by
  obtain ⟨j, hj, rfl⟩ := mem_wd ht
  simp only [prt]
  rintro ⟨h1, h2⟩
  by_cases hij : i ≤ j
  · rw [if_pos (by omega)] at h2
    have := h.le hij hj
    omega
  · rw [if_neg (by omega)] at h1
    have := h.le (i := j) (j := i - 1) (by omega) (by omega)
    omega
theorem least_at (L : List Int) (x : Int) : ∀ n, n ≤ L.length → (∃ i, i < n ∧ x ≤ wd L i ∧ ∀ j, j < i → wd L j < x) ∨ ∀ j, j < n → wd L j < x
  | 0, _ => .inr fun j hj => absurd hj (Nat.not_lt_zero _)
  | n + 1, hn => by
    rcases least_at L x n (by omega) with ⟨i, h1, h2, h3⟩ | h
    · exact .inl ⟨i, by omega, h2, h3⟩
    · by_cases hx : x ≤ wd L n
      · exact .inl ⟨n, by omega, hx, h⟩
      · refine .inr fun j hj => ?_
        by_cases e : j = n
        · subst e; omega
        · exact h j (by omega)
theorem prt_one {s : Sp} {L : List Int} (h : UpIn s L) {x : Int} (h1 : s.lo ≤ x) (h2 : x ≤ s.hi) : ∃ i, i ≤ L.length ∧ ∀ j, j ≤ L.length → (((prt s L j).lo ≤ x ∧ x ≤ (prt s L j).hi) ↔ j = i) := by
  have hc : ∃ i, i ≤ L.length ∧ (i < L.length → x ≤ wd L i) ∧ ∀ j, j < i → wd L j < x := by
    rcases least_at L x L.length (Nat.le_refl _) with ⟨i, a, b, c⟩ | a
    · exact ⟨i, by omega, fun _ => b, c⟩
    · exact ⟨L.length, Nat.le_refl _, fun hh => absurd hh (Nat.lt_irrefl _), a⟩
  obtain ⟨i, hi, ha, hb⟩ := hc
  refine ⟨i, hi, fun j hj => ⟨fun hh => ?_, ?_⟩⟩
  · simp only [prt] at hh
    obtain ⟨p1, p2⟩ := hh
    rcases Nat.lt_trichotomy j i with hl | rfl | hl
    · rw [if_pos (by omega)] at p2
      have := hb j hl
      omega
    · rfl
    · rw [if_neg (by omega)] at p1
      have := ha (by omega)
      have := h.le (i := i) (j := j - 1) (by omega) (by omega)
      omega
  · rintro rfl
    simp only [prt]
    constructor
    · split
      · exact h1
      · have := hb (j - 1) (by omega); omega
    · split
      · exact ha (by assumption)
      · exact h2

/-! numbers by digits -/
theorem mix_mod {a l i : Nat} (h : i < l) : (a * l + i) % l = i := by rw [Nat.mul_comm, Nat.mul_add_mod, Nat.mod_eq_of_lt h]
theorem mix_div {a l i : Nat} (h : i < l) : (a * l + i) / l = a := by
  rw [Nat.mul_comm, Nat.mul_add_div (by omega), Nat.div_eq_of_lt h, Nat.add_zero]
theorem mix_lt {a A l i : Nat} (ha : a < A) (h : i < l) : a * l + i < A * l := by
  have : (a + 1) * l ≤ A * l := Nat.mul_le_mul_right l ha
  rw [Nat.add_mul, Nat.one_mul] at this
  omega
theorem mix_eq {n m l : Nat} (h1 : n % l = m % l) (h2 : n / l = m / l) : n = m := by
  have a := Nat.div_add_mod n l
  have b := Nat.div_add_mod m l
  rw [h1, h2] at a
  omega

/-- cell number n of a box -/
def cellX (b : Bx) (K : Int → List Int) (n : Nat) : Bx :=
  ⟨prt b.a (K 0) (n / ((K 4).length + 1) / ((K 3).length + 1) / ((K 2).length + 1) / ((K 1).length + 1) % ((K 0).length + 1)),
   prt b.b (K 1) (n / ((K 4).length + 1) / ((K 3).length + 1) / ((K 2).length + 1) % ((K 1).length + 1)),
   prt b.c (K 2) (n / ((K 4).length + 1) / ((K 3).length + 1) % ((K 2).length + 1)),
   prt b.d (K 3) (n / ((K 4).length + 1) % ((K 3).length + 1)),
   prt b.e (K 4) (n % ((K 4).length + 1))⟩
def cntX (K : Int → List Int) : Nat := ((K 0).length + 1) * ((K 1).length + 1) * ((K 2).length + 1) * ((K 3).length + 1) * ((K 4).length + 1)
theorem cntX_pos (K : Int → List Int) : 0 < cntX K := by
  unfold cntX
  exact Nat.mul_pos (Nat.mul_pos (Nat.mul_pos (Nat.mul_pos (by omega) (by omega)) (by omega)) (by omega)) (by omega)
/-- the digits of a number below the product make it; any digits are of one -/
theorem dig_ex {l0 l1 l2 l3 l4 i0 i1 i2 i3 i4 : Nat} (h0 : i0 < l0) (h1 : i1 < l1) (h2 : i2 < l2) (h3 : i3 < l3) (h4 : i4 < l4) :
    ∃ N, N < l0 * l1 * l2 * l3 * l4 ∧ ∀ n, n < l0 * l1 * l2 * l3 * l4 → ((n / l4 / l3 / l2 / l1 % l0 = i0 ∧ n / l4 / l3 / l2 % l1 = i1 ∧ n / l4 / l3 % l2 = i2 ∧ n / l4 % l3 = i3 ∧ n % l4 = i4) ↔ n = N) := by
  have e4 := mix_mod (a := ((i0 * l1 + i1) * l2 + i2) * l3 + i3) h4
  have d4 := mix_div (a := ((i0 * l1 + i1) * l2 + i2) * l3 + i3) h4
  have e3 := mix_mod (a := (i0 * l1 + i1) * l2 + i2) h3
  have d3 := mix_div (a := (i0 * l1 + i1) * l2 + i2) h3
  have e2 := mix_mod (a := i0 * l1 + i1) h2
  have d2 := mix_div (a := i0 * l1 + i1) h2
  have e1 := mix_mod (a := i0) h1
  have d1 := mix_div (a := i0) h1
  have hN : (((i0 * l1 + i1) * l2 + i2) * l3 + i3) * l4 + i4 < l0 * l1 * l2 * l3 * l4 := mix_lt (mix_lt (mix_lt (mix_lt h0 h1) h2) h3) h4
  refine ⟨_, hN, fun n hn => ⟨?_, ?_⟩⟩
  · rintro ⟨a0, a1, a2, a3, a4⟩
    have p1 : 0 < l1 := Nat.lt_of_le_of_lt (Nat.zero_le _) h1
    have p2 : 0 < l2 := Nat.lt_of_le_of_lt (Nat.zero_le _) h2
    have p3 : 0 < l3 := Nat.lt_of_le_of_lt (Nat.zero_le _) h3
    have p4 : 0 < l4 := Nat.lt_of_le_of_lt (Nat.zero_le _) h4
    have b1 : n / l4 / l3 / l2 / l1 < l0 :=
      (Nat.div_lt_iff_lt_mul p1).2 ((Nat.div_lt_iff_lt_mul p2).2 ((Nat.div_lt_iff_lt_mul p3).2 ((Nat.div_lt_iff_lt_mul p4).2 hn)))
    rw [Nat.mod_eq_of_lt b1] at a0
    refine mix_eq (l := l4) (by rw [a4, e4]) ?_
    rw [d4]
    refine mix_eq (l := l3) (by rw [a3, e3]) ?_
    rw [d3]
    refine mix_eq (l := l2) (by rw [a2, e2]) ?_
    rw [d2]
    refine mix_eq (l := l1) (by rw [a1, e1]) ?_
    rw [d1, a0]
  · rintro rfl
    rw [d4, d3, d2, d1, e4, e3, e2, e1]
    exact ⟨Nat.mod_eq_of_lt h0, rfl, rfl, rfl, rfl⟩

/-- the cuts of each place part its span -/
def Parts (b : Bx) (K : Int → List Int) : Prop := UpIn b.a (K 0) ∧ UpIn b.b (K 1) ∧ UpIn b.c (K 2) ∧ UpIn b.d (K 3) ∧ UpIn b.e (K 4)
/-- the box is not empty -/
def Full (b : Bx) : Prop := b.a.lo ≤ b.a.hi ∧ b.b.lo ≤ b.b.hi ∧ b.c.lo ≤ b.c.hi ∧ b.d.lo ≤ b.d.hi ∧ b.e.lo ≤ b.e.hi
theorem mod_le (n l : Nat) : n % (l + 1) ≤ l := Nat.le_of_lt_succ (Nat.mod_lt n (Nat.succ_pos l))
/-- what each cell is: five parts -/
theorem cellX_prt (b : Bx) (K : Int → List Int) (n : Nat) : ∃ i0 i1 i2 i3 i4, i0 ≤ (K 0).length ∧ i1 ≤ (K 1).length ∧ i2 ≤ (K 2).length ∧ i3 ≤ (K 3).length ∧ i4 ≤ (K 4).length ∧
    cellX b K n = ⟨prt b.a (K 0) i0, prt b.b (K 1) i1, prt b.c (K 2) i2, prt b.d (K 3) i3, prt b.e (K 4) i4⟩ :=
  ⟨_, _, _, _, _, mod_le _ _, mod_le _ _, mod_le _ _, mod_le _ _, mod_le _ _, rfl⟩
theorem cellX_full {b : Bx} {K : Int → List Int} (hp : Parts b K) (hf : Full b) (n : Nat) : Full (cellX b K n) := by
  obtain ⟨i0, i1, i2, i3, i4, h0, h1, h2, h3, h4, e⟩ := cellX_prt b K n
  rw [e]
  exact ⟨prt_ne hp.1 hf.1 h0, prt_ne hp.2.1 hf.2.1 h1, prt_ne hp.2.2.1 hf.2.2.1 h2, prt_ne hp.2.2.2.1 hf.2.2.2.1 h3, prt_ne hp.2.2.2.2 hf.2.2.2.2 h4⟩
/-- a box lies in another, place by place -/
def InB (x y : Bx) : Prop := (y.a.lo ≤ x.a.lo ∧ x.a.hi ≤ y.a.hi) ∧ (y.b.lo ≤ x.b.lo ∧ x.b.hi ≤ y.b.hi) ∧ (y.c.lo ≤ x.c.lo ∧ x.c.hi ≤ y.c.hi) ∧ (y.d.lo ≤ x.d.lo ∧ x.d.hi ≤ y.d.hi) ∧ (y.e.lo ≤ x.e.lo ∧ x.e.hi ≤ y.e.hi)
theorem cellX_in {b : Bx} {K : Int → List Int} (hp : Parts b K) (n : Nat) : InB (cellX b K n) b := by
  obtain ⟨i0, i1, i2, i3, i4, h0, h1, h2, h3, h4, e⟩ := cellX_prt b K n
  rw [e]
  exact ⟨prt_in hp.1 h0, prt_in hp.2.1 h1, prt_in hp.2.2.1 h2, prt_in hp.2.2.2.1 h3, prt_in hp.2.2.2.2 h4⟩
theorem cellX_whole {b : Bx} {K : Int → List Int} (hp : Parts b K) (n : Nat) {k t : Int} (hk : 0 ≤ k) (hk4 : k ≤ 4) (ht : t ∈ K k) : ¬ (((cellX b K n).at k).lo ≤ t ∧ t < ((cellX b K n).at k).hi) := by
  obtain ⟨i0, i1, i2, i3, i4, h0, h1, h2, h3, h4, e⟩ := cellX_prt b K n
  rw [e]
  have hc : k = 0 ∨ k = 1 ∨ k = 2 ∨ k = 3 ∨ k = 4 := by omega
  rcases hc with rfl | rfl | rfl | rfl | rfl
  · exact prt_whole hp.1 h0 ht
  · exact prt_whole hp.2.1 h1 ht
  · exact prt_whole hp.2.2.1 h2 ht
  · exact prt_whole hp.2.2.2.1 h3 ht
  · exact prt_whole hp.2.2.2.2 h4 ht
/-- a point and the second's number lie in a box -/
def HasX (b : Bx) (p : Int → Int) (t : Int) : Prop := (b.a.lo ≤ p 0 ∧ p 0 ≤ b.a.hi) ∧ (b.b.lo ≤ p 1 ∧ p 1 ≤ b.b.hi) ∧ (b.c.lo ≤ p 2 ∧ p 2 ≤ b.c.hi) ∧ (b.d.lo ≤ p 3 ∧ p 3 ≤ b.d.hi) ∧ (b.e.lo ≤ t ∧ t ≤ b.e.hi)
theorem cellX_one {b : Bx} {K : Int → List Int} (hp : Parts b K) {p : Int → Int} {t : Int} (h : HasX b p t) : ∃ N, N < cntX K ∧ ∀ n, n < cntX K → (HasX (cellX b K n) p t ↔ n = N) := by
  obtain ⟨i0, a0, b0⟩ := prt_one hp.1 h.1.1 h.1.2
  obtain ⟨i1, a1, b1⟩ := prt_one hp.2.1 h.2.1.1 h.2.1.2
  obtain ⟨i2, a2, b2⟩ := prt_one hp.2.2.1 h.2.2.1.1 h.2.2.1.2
  obtain ⟨i3, a3, b3⟩ := prt_one hp.2.2.2.1 h.2.2.2.1.1 h.2.2.2.1.2
  obtain ⟨i4, a4, b4⟩ := prt_one hp.2.2.2.2 h.2.2.2.2.1 h.2.2.2.2.2
  obtain ⟨N, hN, hd⟩ := dig_ex (l0 := (K 0).length + 1) (l1 := (K 1).length + 1) (l2 := (K 2).length + 1) (l3 := (K 3).length + 1) (l4 := (K 4).length + 1) (Nat.lt_succ_of_le a0) (Nat.lt_succ_of_le a1) (Nat.lt_succ_of_le a2) (Nat.lt_succ_of_le a3) (Nat.lt_succ_of_le a4)
  refine ⟨N, hN, fun n hn => ?_⟩
  rw [← hd n hn]
  simp only [HasX, cellX]
  rw [b0 _ (mod_le _ _), b1 _ (mod_le _ _), b2 _ (mod_le _ _), b3 _ (mod_le _ _), b4 _ (mod_le _ _)]

end Go.Proofs.YtkkbeobocbgmeaaGreat.M

namespace Go.Proofs.YtkkbeobocbgmeaaGreat
open Go.RowKit M

/-- the feature whose thresholds part a place -/
def featB (q : Qy) (k : Int) : Bool := if k = 4 then decide (q.kd = 3) else decide (0 ≤ k) && decide (k < 4)
def featF (q : Qy) (k : Int) : Int := if k = 4 then q.f else k
def thrM (m : Md) (f : Int) : List Int := thr (atsT m.ts f m.ts.length)
def cutsI (m : Md) (q : Qy) (b : Bx) (k : Int) : List Int := if featB q k = true then cutS (b.at k) (thrM m (featF q k)) else []
theorem thrM_up (m : Md) (f : Int) : (thrM m f).Pairwise (fun a b => a < b) := thr_up _
theorem thrM_len {m : Md} (hr : RightM m) (f : Int) : (thrM m f).length ≤ 248 := by
  have h1 := thr_len (atsT m.ts f m.ts.length)
  have h2 := atsT_len (ts := m.ts) (f := f) m.ts.length (fun i hi => ((hr.trees).2 i hi).tree.few)
  have h3 := hr.trees.1
  unfold thrM
  omega
theorem cutsI_up (m : Md) (q : Qy) (b : Bx) (k : Int) : UpIn (b.at k) (cutsI m q b k) := by
  unfold cutsI
  split
  · exact upIn_cut (thrM_up m _)
  · exact ⟨List.Pairwise.nil, fun x hx => by cases hx⟩
theorem cutsI_len {m : Md} (hr : RightM m) (q : Qy) (b : Bx) (k : Int) : (cutsI m q b k).length ≤ 248 := by
  unfold cutsI
  split
  · exact Nat.le_trans (cutS_len _ _) (thrM_len hr _)
  · simp
theorem cutsI_parts (m : Md) (q : Qy) (b : Bx) : Parts b (cutsI m q b) := ⟨cutsI_up m q b 0, cutsI_up m q b 1, cutsI_up m q b 2, cutsI_up m q b 3, cutsI_up m q b 4⟩
theorem cutsI_mem {m : Md} {q : Qy} {b : Bx} {k t : Int} : t ∈ cutsI m q b k ↔ featB q k = true ∧ t ∈ thrM m (featF q k) ∧ (b.at k).lo ≤ t ∧ t < (b.at k).hi := by
  unfold cutsI
  split
  · rename_i h; rw [cutS_mem]; simp [h]
  · rename_i h; simp [h]
theorem cntI_small {m : Md} (hr : RightM m) (q : Qy) (b : Bx) : cntX (cutsI m q b) ≤ 249 * 249 * 249 * 249 * 249 := by
  have := fun k => cutsI_len hr q b k
  unfold cntX
  exact Nat.mul_le_mul (Nat.mul_le_mul (Nat.mul_le_mul (Nat.mul_le_mul (by have := this 0; omega) (by have := this 1; omega)) (by have := this 2; omega)) (by have := this 3; omega)) (by have := this 4; omega)

/-- box x lies in y at that place -/
theorem InB.at {x y : Bx} (h : InB x y) (k : Int) : (y.at k).lo ≤ (x.at k).lo ∧ (x.at k).hi ≤ (y.at k).hi := by
  obtain ⟨h0, h1, h2, h3, h4⟩ := h
  unfold Bx.at
  split
  · exact h0
  · split
    · exact h1
    · split
      · exact h2
      · split
        · exact h3
        · exact h4
/-- nothing is cut any more within a cell -/
theorem cuts_cell (m : Md) (q : Qy) (b : Bx) (n : Nat) {k : Int} (h0 : 0 ≤ k) (h4 : k ≤ 4) : cutsI m q (cellX b (cutsI m q b) n) k = [] := by
  refine List.eq_nil_iff_forall_not_mem.2 fun t ht => ?_
  obtain ⟨h1, h2, h3, h5⟩ := cutsI_mem.1 ht
  have hi := InB.at (cellX_in (cutsI_parts m q b) n) k
  exact cellX_whole (cutsI_parts m q b) n h0 h4 (cutsI_mem.2 ⟨h1, h2, by omega, by omega⟩) ⟨h3, h5⟩

/-- the least point of a box -/
def lowF (x : Bx) : Int → Int := fun i => (x.at i).lo
theorem HasX.at {b : Bx} {p : Int → Int} {t : Int} (h : HasX b p t) {k : Int} (h0 : 0 ≤ k) (h3 : k ≤ 3) : (b.at k).lo ≤ p k ∧ p k ≤ (b.at k).hi := by
  obtain ⟨a0, a1, a2, a3, a4⟩ := h
  have hc : k = 0 ∨ k = 1 ∨ k = 2 ∨ k = 3 := by omega
  rcases hc with rfl | rfl | rfl | rfl
  · exact a0
  · exact a1
  · exact a2
  · exact a3
/-- a point of a cell is above the same thresholds as the cell's least -/
theorem cellX_same {m : Md} {q : Qy} {b : Bx} {n : Nat} {p : Int → Int} {t : Int} (h : HasX (cellX b (cutsI m q b) n) p t) {f : Int} (h0 : 0 ≤ f) (h3 : f ≤ 3) {u : Int} (hu : u ∈ thrM m f) :
    p f ≤ u ↔ lowF (cellX b (cutsI m q b) n) f ≤ u := by
  have hb := HasX.at h h0 h3
  have hno : u ∉ cutsI m q (cellX b (cutsI m q b) n) f := by rw [cuts_cell m q b n h0 (by omega)]; simp
  unfold lowF
  refine ⟨fun hh => by omega, fun hh => ?_⟩
  refine Classical.byContradiction fun hc => hno (cutsI_mem.2 ⟨?_, ?_, hh, by omega⟩)
  · unfold featB; rw [if_neg (by omega)]; simp; omega
  · unfold featF; rw [if_neg (by omega)]; exact hu
/-- the second's number of a cell is above the same thresholds as the greatest -/
theorem cellX_twin {m : Md} {q : Qy} {b : Bx} {n : Nat} {p : Int → Int} {t : Int} (h : HasX (cellX b (cutsI m q b) n) p t) (hk : q.kd = 3) {u : Int} (hu : u ∈ thrM m q.f) :
    t ≤ u ↔ (cellX b (cutsI m q b) n).e.hi ≤ u := by
  obtain ⟨_, _, _, _, e1, e2⟩ := h
  have hno : u ∉ cutsI m q (cellX b (cutsI m q b) n) 4 := by rw [cuts_cell m q b n (by omega) (by omega)]; simp
  refine ⟨fun hh => ?_, fun hh => by omega⟩
  refine Classical.byContradiction fun hc => hno (cutsI_mem.2 ⟨by unfold featB; simp [hk], by unfold featF; simpa using hu, ?_, ?_⟩)
  · show (cellX b (cutsI m q b) n).e.lo ≤ u; omega
  · show u < (cellX b (cutsI m q b) n).e.hi; omega
theorem sum_cell {m : Md} (hr : RightM m) {q : Qy} {b : Bx} {n : Nat} {p : Int → Int} {t : Int} (h : HasX (cellX b (cutsI m q b) n) p t) (c : Int) : m.sum p c = m.sum (lowF (cellX b (cutsI m q b) n)) c :=
  sum_same hr (fun f hf u hu => cellX_same h (by omega) (by have := hr.d4; omega) hu) c
theorem sum_second {m : Md} (hr : RightM m) {q : Qy} (hk : q.kd = 3) (hf : 0 ≤ q.f ∧ q.f < m.d) {b : Bx} {n : Nat} {p : Int → Int} {t : Int} (h : HasX (cellX b (cutsI m q b) n) p t) (c : Int) :
    m.sum (secondI q p t) c = m.sum (secondI q (lowF (cellX b (cutsI m q b) n)) (cellX b (cutsI m q b) n).e.hi) c := by
  have hd := hr.d4
  have hp : pairP q := ⟨hk, hf.1, by omega⟩
  refine sum_same hr (fun f hff u hu => ?_) c
  unfold secondI
  rw [if_pos hp, if_pos hp]
  unfold putP
  by_cases e : (f : Int) = q.f
  · rw [if_pos e, if_pos e]
    exact cellX_twin h hk (e ▸ hu)
  · rw [if_neg e, if_neg e]
    exact cellX_same h (by omega) (by omega) hu
/-- what is broken within a cell is broken at its least point -/
theorem breaks_cell {m : Md} {q : Qy} {b : Bx} {n : Nat} {p : Int → Int} {t : Int} (h : HasX (cellX b (cutsI m q b) n) p t) (hb : BreaksP m q p t) :
    BreaksP m q (lowF (cellX b (cutsI m q b) n)) (cellX b (cutsI m q b) n).e.hi := by
  obtain ⟨hq, hc⟩ := hb
  refine ⟨hq, ?_⟩
  have hr := hq.mr
  have hs := fun c => sum_cell hr h c
  rcases hc with ⟨h1, h2⟩ | ⟨h1, c, c1, c2, c3, c4⟩ | ⟨h1, h2, h3⟩
  · exact .inl ⟨h1, by rwa [← hs]⟩
  · exact .inr (.inl ⟨h1, c, c1, c2, c3, by rwa [← hs, ← hs]⟩)
  · refine .inr (.inr ⟨h1, ?_, ?_⟩)
    · have hf := hq.f h1
      have h4 := hr.d4
      have := HasX.at h (k := q.f) hf.1 (by omega)
      obtain ⟨_, _, _, _, _, e2⟩ := h
      unfold lowF
      omega
    · have hs2 := fun c => sum_second hr h1 (hq.f h1) h c
      unfold turnP at h3 ⊢
      rwa [← hs, ← hs2]
theorem full_has {x : Bx} (h : Full x) : HasX x (lowF x) x.e.hi := by
  obtain ⟨h0, h1, h2, h3, h4⟩ := h
  exact ⟨⟨Int.le_refl _, h0⟩, ⟨Int.le_refl _, h1⟩, ⟨Int.le_refl _, h2⟩, ⟨Int.le_refl _, h3⟩, h4, Int.le_refl _⟩
theorem HasX.up {x y : Bx} {p : Int → Int} {t : Int} (h : HasX x p t) (hi : InB x y) : HasX y p t := by
  obtain ⟨⟨a0, a1⟩, ⟨b0, b1⟩, ⟨c0, c1⟩, ⟨d0, d1⟩, e0, e1⟩ := h
  obtain ⟨⟨a2, a3⟩, ⟨b2, b3⟩, ⟨c2, c3⟩, ⟨d2, d3⟩, e2, e3⟩ := hi
  refine ⟨⟨?_, ?_⟩, ⟨?_, ?_⟩, ⟨?_, ?_⟩, ⟨?_, ?_⟩, ?_, ?_⟩ <;> omega
/-- no cell is broken at its least point -/
def CellsHold (m : Md) (q : Qy) : Prop := ∀ n, n < cntX (cutsI m q (startI q)) → ¬ BreaksP m q (lowF (cellX (startI q) (cutsI m q (startI q)) n)) (cellX (startI q) (cutsI m q (startI q)) n).e.hi
theorem holds_iff {m : Md} {q : Qy} (hf : Full (startI q)) : CellsHold m q ↔ ∀ p t, HasX (startI q) p t → ¬ BreaksP m q p t := by
  constructor
  · intro h p t hp hb
    obtain ⟨N, hN, hd⟩ := cellX_one (cutsI_parts m q (startI q)) hp
    exact h N hN (breaks_cell ((hd N hN).2 rfl) hb)
  · intro h n _ hb
    exact h _ _ (HasX.up (full_has (cellX_full (cutsI_parts m q (startI q)) hf n)) (cellX_in (cutsI_parts m q (startI q)) n)) hb
theorem placeR_full {d i : Int} {s : Sp} (h : placeR d i s) : s.lo ≤ s.hi := by
  by_cases hi : i < d
  · exact (h.1 hi).1
  · have := h.2 (by omega); omega
theorem start_full {m : Md} {q : Qy} (h : RightQ m q) : Full (startI q) := by
  obtain ⟨h0, h1, h2, h3, h4⟩ := h.sp
  refine ⟨placeR_full h0, placeR_full h1, placeR_full h2, placeR_full h3, ?_⟩
  unfold startI
  simp only
  split
  · unfold Bx.at
    split
    · exact placeR_full h0
    · split
      · exact placeR_full h1
      · split
        · exact placeR_full h2
        · split
          · exact placeR_full h3
          · exact placeR_full h4
  · exact Int.le_refl _

/-! fewer cells -/
theorem cutS_le {s s' : Sp} (L : List Int) (h1 : s.lo ≤ s'.lo) (h2 : s'.hi ≤ s.hi) : (cutS s' L).length ≤ (cutS s L).length := by
  unfold cutS
  rw [← List.countP_eq_length_filter, ← List.countP_eq_length_filter]
  refine List.countP_mono_left fun x _ hx => ?_
  simp only [Bool.and_eq_true, decide_eq_true_eq] at hx ⊢
  omega
theorem cutsI_le (m : Md) {q q' : Qy} {b b' : Bx} {k : Int} (hk : featB q' k = featB q k) (hf : featF q' k = featF q k) (h1 : (b.at k).lo ≤ (b'.at k).lo) (h2 : (b'.at k).hi ≤ (b.at k).hi) : (cutsI m q' b' k).length ≤ (cutsI m q b k).length := by
  unfold cutsI
  rw [hk, hf]
  split
  · exact cutS_le _ h1 h2
  · exact Nat.le_refl _
theorem cntX_le {K K' : Int → List Int} (h : ∀ k, 0 ≤ k → k ≤ 4 → (K' k).length ≤ (K k).length) : cntX K' ≤ cntX K := by
  unfold cntX
  have h0 := h 0 (by omega) (by omega)
  have h1 := h 1 (by omega) (by omega)
  have h2 := h 2 (by omega) (by omega)
  have h3 := h 3 (by omega) (by omega)
  have h4 := h 4 (by omega) (by omega)
  exact Nat.mul_le_mul (Nat.mul_le_mul (Nat.mul_le_mul (Nat.mul_le_mul (by omega) (by omega)) (by omega)) (by omega)) (by omega)
theorem count_in (L : List Int) (hL : L.Pairwise (fun a b => a < b)) (t : Int) : (L.filter fun x => decide (x = t)).length ≤ 1 := by
  induction L with
  | nil => simp
  | cons a L ih =>
    rw [List.pairwise_cons] at hL
    by_cases h : a = t
    · have : (L.filter fun x => decide (x = t)) = [] := by
        refine List.filter_eq_nil_iff.2 fun x hx => ?_
        have := hL.1 x hx
        simp; omega
      simp [h, this]
    · have := ih hL.2
      simp [h, this]
/-- a span cut at a number: its cuts are those of both parts, and the number itself -/
theorem cutS_two {s : Sp} {L : List Int} (hL : L.Pairwise (fun a b => a < b)) (t : Int) : (cutS s L).length ≤ (cutS ⟨s.lo, t⟩ L).length + (cutS ⟨t + 1, s.hi⟩ L).length + 1 := by
  have h : ∀ L : List Int, (cutS s L).length ≤ (cutS ⟨s.lo, t⟩ L).length + (cutS ⟨t + 1, s.hi⟩ L).length + (L.filter fun x => decide (x = t)).length := by
    intro L
    induction L with
    | nil => simp [cutS]
    | cons a L ih =>
      unfold cutS at ih ⊢
      dsimp only at ih
      simp only [List.filter_cons]
      by_cases h1 : s.lo ≤ a ∧ a < s.hi
      · rcases Int.lt_trichotomy a t with h2 | h2 | h2
        · have e1 : (decide (s.lo ≤ a) && decide (a < t)) = true := by simp; omega
          simp only [e1, if_true, List.length_cons]
          split <;> split <;> split <;> (try simp only [List.length_cons]) <;> omega
        · have e1 : decide (a = t) = true := by simp; omega
          simp only [e1, if_true, List.length_cons]
          split <;> split <;> split <;> (try simp only [List.length_cons]) <;> omega
        · have e1 : (decide (t + 1 ≤ a) && decide (a < s.hi)) = true := by simp; omega
          simp only [e1, if_true, List.length_cons]
          split <;> split <;> split <;> (try simp only [List.length_cons]) <;> omega
      · have e0 : (decide (s.lo ≤ a) && decide (a < s.hi)) = false := by
          cases h : (decide (s.lo ≤ a) && decide (a < s.hi))
          · rfl
          · simp at h; exact absurd h h1
        simp only [e0, Bool.false_eq_true, if_false]
        split <;> split <;> split <;> (try simp only [List.length_cons]) <;> omega
  have := h L
  have := count_in L hL t
  omega

end Go.Proofs.YtkkbeobocbgmeaaGreat
