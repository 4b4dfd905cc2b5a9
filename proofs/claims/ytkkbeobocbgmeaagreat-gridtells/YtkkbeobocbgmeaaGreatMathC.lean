/- Plain mathematics of an insertion into a rising row of numbers. No program's code is spoken of here.
   Plain mathematics of cells, listed place by place. No program's code is spoken of here. -/
import Derived.Test.YtkkbeobocbgmeaaGreatGridM
namespace Go.Proofs.YtkkbeobocbgmeaaGreat
open Go.RowKit M

/-- two rising rows with the same numbers are one -/
theorem up_ext : ∀ {L M : List Int}, L.Pairwise (fun a b => a < b) → M.Pairwise (fun a b => a < b) → (∀ z, z ∈ L ↔ z ∈ M) → L = M
  | [], [], _, _, _ => rfl
  | [], y :: M, _, _, h => by have := (h y).2 (by simp); simp at this
  | x :: L, [], _, _, h => by have := (h x).1 (by simp); simp at this
  | x :: L, y :: M, h1, h2, h => by
    rw [List.pairwise_cons] at h1 h2
    have e : x = y := by
      have hx := (h x).1 (by simp)
      have hy := (h y).2 (by simp)
      rw [List.mem_cons] at hx hy
      rcases hx with hx | hx
      · exact hx
      · rcases hy with hy | hy
        · exact hy.symm
        · have := h2.1 x hx
          have := h1.1 y hy
          omega
    subst e
    congr 1
    refine up_ext h1.2 h2.2 fun z => ?_
    have hz := h z
    rw [List.mem_cons, List.mem_cons] at hz
    constructor
    · intro hm
      rcases hz.1 (.inr hm) with e | e
      · subst e; have := h1.1 z hm; omega
      · exact e
    · intro hm
      rcases hz.2 (.inr hm) with e | e
      · subst e; have := h2.1 z hm; omega
      · exact e
/-- a row with a place for one more at j -/
def gapL (L : List Int) (j : Nat) (y : Int) : List Int := L.take j ++ y :: L.drop j
theorem gap_end (L : List Int) (y : Int) : gapL L L.length y = L ++ [y] := by simp [gapL]
theorem gap_len (L : List Int) {j : Nat} (h : j ≤ L.length) (y : Int) : (gapL L j y).length = L.length + 1 := by
  simp [gapL]
  omega
theorem gap_low (L : List Int) {i j : Nat} (hi : i < j) (h : j ≤ L.length) (y : Int) : wd (gapL L j y) i = wd L i := by
  simp only [wd, gapL, List.getD_eq_getElem?_getD]
  rw [List.getElem?_append_left (by simp; omega), List.getElem?_take, if_pos hi]
theorem gap_set (L : List Int) {j : Nat} (h : j ≤ L.length) (y z : Int) : (gapL L j y).set j z = gapL L j z := by
  unfold gapL
  rw [List.set_append]
  have : (L.take j).length = j := by simp; omega
  simp [this]
theorem gap_step (L : List Int) {j : Nat} (h : j + 1 ≤ L.length) : gapL L (j + 1) (wd L j) = gapL L j (wd L j) := by
  unfold gapL
  have e1 : L.take (j + 1) = L.take j ++ [wd L j] := by
    rw [List.take_add_one]
    simp [wd, List.getElem?_eq_getElem (show j < L.length by omega)]
  have e2 : L.drop j = wd L j :: L.drop (j + 1) := by
    rw [List.drop_eq_getElem_cons (by omega)]
    simp [wd, show j < L.length by omega]
  rw [e1, e2]
  simp
theorem gap_map (L : List Int) (j : Nat) (y : Int) : (gapL L j y).map (Value.int .i64) = (L.map (Value.int .i64)).take j ++ .int .i64 y :: (L.map (Value.int .i64)).drop j := by simp [gapL, List.map_take, List.map_drop]
theorem gap_mem (L : List Int) (j : Nat) (y z : Int) : z ∈ gapL L j y ↔ z ∈ L ∨ z = y := by
  unfold gapL
  have := List.take_append_drop j L
  rw [List.mem_append, List.mem_cons]
  have hm : z ∈ L ↔ z ∈ L.take j ∨ z ∈ L.drop j := by
    conv => lhs; rw [← this]
    rw [List.mem_append]
  rw [hm]
  constructor
  · rintro (h | h | h)
    · exact .inl (.inl h)
    · exact .inr h
    · exact .inl (.inr h)
  · rintro ((h | h) | h)
    · exact .inl h
    · exact .inr (.inr h)
    · exact .inr (.inl h)
/-- behind j all are above x, the one at j - 1 isn't: then x may stand at j -/
theorem gap_up {L : List Int} (h : L.Pairwise (fun a b => a < b)) {j : Nat} (hj : j ≤ L.length) {x : Int} (hx : x ∉ L) (hd : ∀ i, j ≤ i → i < L.length → x < wd L i) (hl : j = 0 ∨ wd L (j - 1) ≤ x) : (gapL L j x).Pairwise (fun a b => a < b) := by
  unfold gapL
  have hp := h
  rw [← List.take_append_drop j L, List.pairwise_append] at hp
  obtain ⟨p1, p2, p3⟩ := hp
  have hdr : ∀ z, z ∈ L.drop j → x < z := fun z hz => by
    obtain ⟨i, hi, rfl⟩ := List.mem_iff_getElem.1 hz
    have h1 : i < L.length - j := by simpa using hi
    have := hd (j + i) (by omega) (by omega)
    simpa [wd, show j + i < L.length by omega] using this
  have htk : ∀ z, z ∈ L.take j → z < x := fun z hz => by
    have hzl : z ∈ L := List.mem_of_mem_take hz
    have hne : z ≠ x := fun e => hx (e ▸ hzl)
    obtain ⟨i, hi, rfl⟩ := List.mem_iff_getElem.1 hz
    have h1 : i < j ∧ i < L.length := by simp at hi; omega
    rcases hl with rfl | hl
    · omega
    · have h2 : wd L (j - 1) = L[j - 1] := by simp [wd, show j - 1 < L.length by omega]
      rw [h2] at hl
      have e : (L.take j)[i] = L[i] := by simp
      rw [e] at hne ⊢
      by_cases h3 : i = j - 1
      · subst h3; omega
      · have := List.pairwise_iff_getElem.1 h i (j - 1) h1.2 (by omega) (by omega)
        omega
  rw [List.pairwise_append]
  refine ⟨p1, List.pairwise_cons.2 ⟨hdr, p2⟩, fun a ha b hb => ?_⟩
  rw [List.mem_cons] at hb
  rcases hb with rfl | hb
  · exact htk a ha
  · exact p3 a ha b hb

end Go.Proofs.YtkkbeobocbgmeaaGreat

namespace Go.Proofs.YtkkbeobocbgmeaaGreat
open Go.RowKit M

def xA (L : List Bx) (i : Nat) : Bx := L.getD i Bx.nil
theorem flat_at {f : Bx → List Bx} {l : Nat} (hl : 0 < l) (hf : ∀ x, (f x).length = l) : ∀ (L : List Bx) (n : Nat), n < L.length * l → xA (L.flatMap f) n = xA (f (xA L (n / l))) (n % l)
  | [], n, h => by simp at h
  | x :: L, n, h => by
    rw [List.flatMap_cons]
    by_cases hn : n < l
    · have e1 : n / l = 0 := Nat.div_eq_of_lt hn
      have e2 : n % l = n := Nat.mod_eq_of_lt hn
      rw [e1, e2]
      simp only [xA, List.getD_eq_getElem?_getD]
      rw [List.getElem?_append_left (by rw [hf]; exact hn)]
      rfl
    · have hlt : n - l < L.length * l := by
        simp only [List.length_cons, Nat.add_mul, Nat.one_mul] at h
        omega
      have e1 : n / l = (n - l) / l + 1 := by
        rw [Nat.div_eq_sub_div hl (by omega)]
      have e2 : n % l = (n - l) % l := Nat.mod_eq_sub_mod (by omega)
      have ih := flat_at hl hf L (n - l) hlt
      rw [e1, e2]
      simp only [xA, List.getD_eq_getElem?_getD] at ih ⊢
      rw [List.getElem?_append_right (by rw [hf]; omega), hf, ih]
      rfl
theorem flat_len {f : Bx → List Bx} {l : Nat} (hf : ∀ x, (f x).length = l) : ∀ L : List Bx, (L.flatMap f).length = L.length * l
  | [] => by simp
  | x :: L => by rw [List.flatMap_cons, List.length_append, hf, flat_len hf L, List.length_cons, Nat.add_mul, Nat.one_mul, Nat.add_comm]
/-- a box's parts at a place, the first t of them -/
def putL (k : Int) (s : Sp) (K : List Int) (x : Bx) (t : Nat) : List Bx := (List.range t).map fun j => x.put k (prt s K j)
theorem putL_len (k : Int) (s : Sp) (K : List Int) (x : Bx) (t : Nat) : (putL k s K x t).length = t := by simp [putL]
theorem putL_zero (k : Int) (s : Sp) (K : List Int) (x : Bx) : putL k s K x 0 = [] := rfl
theorem putL_succ (k : Int) (s : Sp) (K : List Int) (x : Bx) (t : Nat) : putL k s K x (t + 1) = putL k s K x t ++ [x.put k (prt s K t)] := by simp [putL, List.range_succ]
theorem putL_at (k : Int) (s : Sp) (K : List Int) (x : Bx) {t j : Nat} (h : j < t) : xA (putL k s K x t) j = x.put k (prt s K j) := by simp [xA, putL, h]
def fullL (k : Int) (s : Sp) (K : List Int) (x : Bx) : List Bx := putL k s K x (K.length + 1)
def stepL (k : Int) (s : Sp) (K : List Int) (L : List Bx) : List Bx := L.flatMap (fullL k s K)
theorem stepL_len (k : Int) (s : Sp) (K : List Int) (L : List Bx) : (stepL k s K L).length = L.length * (K.length + 1) := flat_len (fun x => putL_len k s K x _) L
theorem stepL_at (k : Int) (s : Sp) (K : List Int) (L : List Bx) {n : Nat} (h : n < L.length * (K.length + 1)) : xA (stepL k s K L) n = (xA L (n / (K.length + 1))).put k (prt s K (n % (K.length + 1))) := by
  unfold stepL
  rw [flat_at (f := fullL k s K) (l := K.length + 1) (Nat.succ_pos _) (fun x => putL_len k s K x _) L n h]
  exact putL_at _ _ _ _ (Nat.mod_lt _ (Nat.succ_pos _))
theorem stepL_next (k : Int) (s : Sp) (K : List Int) (L : List Bx) {j : Nat} (h : j < L.length) : stepL k s K (L.take (j + 1)) = stepL k s K (L.take j) ++ fullL k s K (xA L j) := by
  unfold stepL
  rw [List.take_add_one, List.flatMap_append]
  simp [xA, h]
/-- the cells, place by place -/
def cellsL (b : Bx) (K : Int → List Int) : Nat → List Bx
  | 0 => [b]
  | i + 1 => stepL (i : Int) (b.at (i : Int)) (K (i : Int)) (cellsL b K i)
def prodL (K : Int → List Int) : Nat → Nat
  | 0 => 1
  | i + 1 => prodL K i * ((K (i : Int)).length + 1)
theorem cellsL_len (b : Bx) (K : Int → List Int) : ∀ i, (cellsL b K i).length = prodL K i
  | 0 => rfl
  | i + 1 => by rw [cellsL, stepL_len, cellsL_len b K i]; rfl
theorem prodL_all (K : Int → List Int) : prodL K 5 = cntX K := by
  simp only [prodL, Nat.one_mul, cntX]
  rfl
theorem prodL_pos (K : Int → List Int) : ∀ i, 0 < prodL K i
  | 0 => Nat.one_pos
  | i + 1 => Nat.mul_pos (prodL_pos K i) (Nat.succ_pos _)
theorem prodL_up (K : Int → List Int) (i : Nat) : prodL K i ≤ prodL K (i + 1) := Nat.le_mul_of_pos_right _ (Nat.succ_pos _)
theorem prodL_le (K : Int → List Int) {i : Nat} (h : i ≤ 5) : prodL K i ≤ cntX K := by
  rw [← prodL_all]
  have h0 : prodL K 0 ≤ prodL K 1 := prodL_up K 0
  have h1 : prodL K 1 ≤ prodL K 2 := prodL_up K 1
  have h2 : prodL K 2 ≤ prodL K 3 := prodL_up K 2
  have h3 : prodL K 3 ≤ prodL K 4 := prodL_up K 3
  have h4 : prodL K 4 ≤ prodL K 5 := prodL_up K 4
  have hc : i = 0 ∨ i = 1 ∨ i = 2 ∨ i = 3 ∨ i = 4 ∨ i = 5 := by omega
  rcases hc with rfl | rfl | rfl | rfl | rfl | rfl <;> omega
theorem cellsL_at (b : Bx) (K : Int → List Int) {n : Nat} (h : n < cntX K) : xA (cellsL b K 5) n = cellX b K n := by
  rw [← prodL_all] at h
  have s5 : ∀ n, n < prodL K 5 → xA (cellsL b K 5) n = (xA (cellsL b K 4) (n / ((K 4).length + 1))).put 4 (prt (b.at 4) (K 4) (n % ((K 4).length + 1))) := fun n hn => stepL_at 4 _ _ _ (by rw [cellsL_len]; exact hn)
  have s4 : ∀ n, n < prodL K 4 → xA (cellsL b K 4) n = (xA (cellsL b K 3) (n / ((K 3).length + 1))).put 3 (prt (b.at 3) (K 3) (n % ((K 3).length + 1))) := fun n hn => stepL_at 3 _ _ _ (by rw [cellsL_len]; exact hn)
  have s3 : ∀ n, n < prodL K 3 → xA (cellsL b K 3) n = (xA (cellsL b K 2) (n / ((K 2).length + 1))).put 2 (prt (b.at 2) (K 2) (n % ((K 2).length + 1))) := fun n hn => stepL_at 2 _ _ _ (by rw [cellsL_len]; exact hn)
  have s2 : ∀ n, n < prodL K 2 → xA (cellsL b K 2) n = (xA (cellsL b K 1) (n / ((K 1).length + 1))).put 1 (prt (b.at 1) (K 1) (n % ((K 1).length + 1))) := fun n hn => stepL_at 1 _ _ _ (by rw [cellsL_len]; exact hn)
  have s1 : ∀ n, n < prodL K 1 → xA (cellsL b K 1) n = (xA (cellsL b K 0) (n / ((K 0).length + 1))).put 0 (prt (b.at 0) (K 0) (n % ((K 0).length + 1))) := fun n hn => stepL_at 0 _ _ _ (by rw [cellsL_len]; exact hn)
  have d : ∀ (i : Nat) n, n < prodL K (i + 1) → n / ((K (i : Int)).length + 1) < prodL K i := fun i n hn => (Nat.div_lt_iff_lt_mul (Nat.succ_pos _)).2 hn
  have h4 : n / ((K 4).length + 1) < prodL K 4 := d 4 n h
  have h3 : n / ((K 4).length + 1) / ((K 3).length + 1) < prodL K 3 := d 3 _ h4
  have h2 : n / ((K 4).length + 1) / ((K 3).length + 1) / ((K 2).length + 1) < prodL K 2 := d 2 _ h3
  have h1 : n / ((K 4).length + 1) / ((K 3).length + 1) / ((K 2).length + 1) / ((K 1).length + 1) < prodL K 1 := d 1 _ h2
  have h0 : n / ((K 4).length + 1) / ((K 3).length + 1) / ((K 2).length + 1) / ((K 1).length + 1) / ((K 0).length + 1) < 1 := d 0 _ h1
  rw [s5 _ h, s4 _ h4, s3 _ h3, s2 _ h2, s1 _ h1]
  have e0 : n / ((K 4).length + 1) / ((K 3).length + 1) / ((K 2).length + 1) / ((K 1).length + 1) / ((K 0).length + 1) = 0 := Nat.lt_one_iff.1 h0
  rw [e0]
  rfl

end Go.Proofs.YtkkbeobocbgmeaaGreat
