/- Plain mathematics of chapter 8's thresholds: sorted, each once. No program is spoken of here. -/
import Derived.Test.YtkkbeobocbgmeaaGreatMathT
import Derived.Lib.SlicesCompact
namespace Go.Proofs.YtkkbeobocbgmeaaGreat.M
open Go

/-- the node parts that feature -/
def partB (x f : Int) : Bool := decide (x / 9223372036854775808 % 2 = 0) && decide (x / 4294967296 % 16 = f)
theorem part_iff {x f : Int} (h : unB x = true) : partB x f = true ↔ (unI x).leaf = false ∧ (unI x).f = f := by
  unfold partB unI
  rw [if_pos h]
  unfold readI
  by_cases e : x / 9223372036854775808 % 2 = 1
  · rw [if_pos e]; simp; omega
  · rw [if_neg e]; simp; omega
theorem part_at {x f : Int} (h : unB x = true) (hp : partB x f = true) : sgI x = (unI x).a := by
  unfold partB at hp
  unfold unI
  rw [if_pos h]
  unfold readI
  rw [if_neg (by simp at hp; omega)]
/-- the thresholds among the first j words -/
def atsW (ws : List Int) (f : Int) : Nat → List Int
  | 0 => []
  | j + 1 => atsW ws f j ++ (if partB (wd ws j) f = true then [sgI (wd ws j)] else [])
theorem atsW_mem {ws : List Int} {f x : Int} {j : Nat} : x ∈ atsW ws f j ↔ ∃ i, i < j ∧ partB (wd ws i) f = true ∧ sgI (wd ws i) = x := by
  induction j with
  | zero => simp [atsW]
  | succ j ih =>
    simp only [atsW, List.mem_append, ih]
    constructor
    · rintro (⟨i, h1, h2, h3⟩ | h)
      · exact ⟨i, by omega, h2, h3⟩
      · split at h
        · rename_i hp
          simp at h
          exact ⟨j, by omega, hp, h.symm⟩
        · simp at h
    · rintro ⟨i, h1, h2, h3⟩
      by_cases e : i = j
      · subst e
        right
        rw [if_pos h2]
        simp [h3]
      · exact .inl ⟨i, by omega, h2, h3⟩
theorem atsW_len (ws : List Int) (f : Int) (j : Nat) : (atsW ws f j).length ≤ j := by
  induction j with
  | zero => simp [atsW]
  | succ j ih =>
    simp only [atsW, List.length_append]
    split <;> simp <;> omega
theorem atsW_bd {ws : List Int} {f x : Int} {j : Nat} (h : x ∈ atsW ws f j) : -2147483648 ≤ x ∧ x ≤ 2147483647 := by
  obtain ⟨i, _, _, rfl⟩ := atsW_mem.1 h
  exact sg_bd _

def sortI (L : List Int) : List Int := L.mergeSort fun x y => decide (x ≤ y)
def thr (L : List Int) : List Int := Lib.compact (sortI L)
theorem sortI_len (L : List Int) : (sortI L).length = L.length := by simp [sortI]
theorem sortI_mem {L : List Int} {x : Int} : x ∈ sortI L ↔ x ∈ L := by simp [sortI]
theorem sortI_up (L : List Int) : (sortI L).Pairwise (fun a b => a ≤ b) := by
  have := List.pairwise_mergeSort (le := fun x y : Int => decide (x ≤ y)) (fun a b c h1 h2 => by simp at *; omega) (fun a b => by simp; omega) L
  exact this.imp (by intro a b h; simpa using h)
theorem up_at {d : Array Int} (h : d.toList.Pairwise (fun a b => a ≤ b)) {i j : Nat} (hij : i ≤ j) (hj : j < d.size) : d[i]! ≤ d[j]! := by
  rw [getElem!_pos d i (by omega), getElem!_pos d j hj]
  by_cases e : i = j
  · subst e; exact Int.le_refl _
  · have := List.pairwise_iff_getElem.1 h i j (by simp; omega) (by simp; omega) (by omega)
    simpa using this
theorem compact_up {d : Array Int} (h : d.toList.Pairwise (fun a b => a ≤ b)) : ∀ m, m ≤ d.size → (Lib.compactUpTo d m).Pairwise (fun a b => a < b) ∧ ∀ x, x ∈ Lib.compactUpTo d m ↔ ∃ k, k < m ∧ d[k]! = x
  | 0, _ => by simp [Lib.compactUpTo]
  | m + 1, hm => by
    obtain ⟨h1, h2⟩ := compact_up h m (by omega)
    rw [Lib.compactUpTo_succ]
    by_cases hk : Lib.keeps d m = true
    · rw [if_pos hk]
      constructor
      · rw [List.pairwise_append]
        refine ⟨h1, by simp, fun x hx y hy => ?_⟩
        simp at hy
        subst hy
        obtain ⟨k, hk1, rfl⟩ := (h2 x).1 hx
        have hne : d[m]! ≠ d[m - 1]! := fun e => by
          rw [Lib.keeps_neg (by omega) e] at hk
          cases hk
        have a1 := up_at h (i := k) (j := m - 1) (by omega) (by omega)
        have a2 := up_at h (i := m - 1) (j := m) (by omega) (by omega)
        omega
      · intro x
        rw [List.mem_append, h2]
        constructor
        · rintro (⟨k, h3, h4⟩ | h3)
          · exact ⟨k, by omega, h4⟩
          · simp at h3; exact ⟨m, by omega, h3.symm⟩
        · rintro ⟨k, h3, h4⟩
          by_cases e : k = m
          · subst e; right; simp [h4]
          · exact .inl ⟨k, by omega, h4⟩
    · rw [if_neg hk]
      simp only [List.append_nil]
      refine ⟨h1, fun x => ?_⟩
      rw [h2]
      have h0 : 0 < m := Nat.pos_of_ne_zero fun e => by
        subst e
        exact hk (Lib.keeps_lt_one d 0 (by omega))
      have he : d[m]! = d[m - 1]! := Classical.byContradiction fun e => hk (Lib.keeps_pos e)
      constructor
      · rintro ⟨k, h3, h4⟩; exact ⟨k, by omega, h4⟩
      · rintro ⟨k, h3, h4⟩
        by_cases e : k = m
        · subst e; exact ⟨k - 1, by omega, by rw [← he]; exact h4⟩
        · exact ⟨k, by omega, h4⟩
theorem thr_up (L : List Int) : (thr L).Pairwise (fun a b => a < b) := (compact_up (d := (sortI L).toArray) (by simpa using sortI_up L) _ (by simp)).1
theorem thr_mem {L : List Int} {x : Int} : x ∈ thr L ↔ x ∈ L := by
  have h := (compact_up (d := (sortI L).toArray) (by simpa using sortI_up L) (sortI L).length (by simp)).2 x
  rw [thr, Lib.compact, h, ← sortI_mem (L := L), List.mem_iff_getElem]
  constructor
  · rintro ⟨k, h1, h2⟩
    refine ⟨k, h1, ?_⟩
    rw [getElem!_pos _ k (by simpa using h1)] at h2
    simpa using h2
  · rintro ⟨k, h1, h2⟩
    refine ⟨k, h1, ?_⟩
    rw [getElem!_pos _ k (by simpa using h1)]
    simpa using h2
theorem thr_len (L : List Int) : (thr L).length ≤ L.length := by
  have : (Lib.compactUpTo (sortI L).toArray (sortI L).length).length ≤ (sortI L).length := by
    unfold Lib.compactUpTo
    rw [List.length_map]
    exact Nat.le_trans (List.length_filter_le _ _) (by simp)
  exact Nat.le_trans this (Nat.le_of_eq (sortI_len L))
theorem up_nodup {L : List Int} (h : L.Pairwise (fun a b => a < b)) : L.Nodup := h.imp (by intro a b h; omega)
theorem nodup_le : ∀ {K L : List Int}, K.Nodup → (∀ x, x ∈ K → x ∈ L) → K.length ≤ L.length
  | [], _, _, _ => by simp
  | x :: K, L, h, hs => by
    simp only [List.nodup_cons] at h
    have hx := hs x (by simp)
    have h1 : K.length ≤ (L.erase x).length := nodup_le h.2 fun y hy => by
      have hne : y ≠ x := fun e => h.1 (e ▸ hy)
      exact (List.mem_erase_of_ne hne).2 (hs y (by simp [hy]))
    rw [List.length_erase_of_mem hx] at h1
    have : 0 < L.length := List.length_pos_of_mem hx
    simp
    omega
theorem nodup_eq {K L : List Int} (h : K.Nodup) (h' : L.Nodup) (hs : ∀ x, x ∈ K ↔ x ∈ L) : K.length = L.length := Nat.le_antisymm (nodup_le h fun x hx => (hs x).1 hx) (nodup_le h' fun x hx => (hs x).2 hx)

end Go.Proofs.YtkkbeobocbgmeaaGreat.M
