/- Plain mathematics of chapter 7: rows of words as trees; ways through them. No program is spoken of here.
   Plain mathematics of chapter 8: biases, sums. No program is spoken of here.
   Plain mathematics of the numbers of which a tree is made (copsekeep.Tree): a leaf is parted, and parted. -/
import Derived.Test.YtndnijdpafcmoaaMathN
namespace Go.Proofs.Ytndnijdpafcmoaa.M

def wd (ws : List Int) (i : Nat) : Int := ws.getD i 0
def ndA (ws : List Int) (i : Nat) : Nd := unI (wd ws i)
theorem wd_of {ws : List Int} {i : Nat} (h : i < ws.length) : ws[i]? = some (wd ws i) := by simp [wd, h]
theorem wd_append_left (a b : List Int) (i : Nat) (h : i < a.length) : wd (a ++ b) i = wd a i := by simp [wd, List.getElem?_append_left h]
theorem wd_append_right (a b : List Int) (i : Nat) (h : a.length ≤ i) : wd (a ++ b) i = wd b (i - a.length) := by simp [wd, List.getElem?_append_right h]
theorem wd_take (a : List Int) (k i : Nat) (h : i < k) : wd (a.take k) i = wd a i := by simp [wd, h]
theorem wd_drop (a : List Int) (k i : Nat) : wd (a.drop k) i = wd a (k + i) := by simp [wd]
theorem wd_set_self (a : List Int) (k : Nat) (x : Int) (h : k < a.length) : wd (a.set k x) k = x := by simp [wd, h]
theorem wd_set_ne (a : List Int) (k i : Nat) (x : Int) (h : k ≠ i) : wd (a.set k x) i = wd a i := by simp [wd, List.getElem?_set_ne h]

/-- how often x names j -/
def hit (x : Nd) (j : Int) : Int := if x.leaf = true then 0 else (if x.l = j then 1 else 0) + (if x.r = j then 1 else 0)
def cnt (xs : Nat → Nd) : Nat → Int → Int
  | 0, _ => 0
  | k + 1, j => cnt xs k j + hit (xs k) j
def Fine (dim n i : Int) (x : Nd) : Prop := x.leaf = true ∨ (x.f < dim ∧ i < x.l ∧ i < x.r ∧ x.l < n ∧ x.r < n ∧ x.l ≠ x.r)
structure Shape (xs : Nat → Nd) (n : Nat) (dim : Int) : Prop where
  fine : ∀ i, i < n → Fine dim n i (xs i)
  one : ∀ j : Nat, 1 ≤ j → j < n → cnt xs n j = 1
structure TreeP (ws : List Int) (dim : Int) : Prop where
  full : 1 ≤ ws.length
  few : ws.length ≤ 31
  can : ∀ i, i < ws.length → unB (wd ws i) = true
  shape : Shape (ndA ws) ws.length dim

theorem hit_leaf {x : Nd} (h : x.leaf = true) (j : Int) : hit x j = 0 := by simp [hit, h]
theorem hit_other {x : Nd} (h : x.leaf = false) (j : Int) : hit x j = (if x.l = j then 1 else 0) + (if x.r = j then 1 else 0) := by simp [hit, h]
theorem hit_bd (x : Nd) (j : Int) : 0 ≤ hit x j ∧ hit x j ≤ 2 := by
  unfold hit
  split
  · omega
  · split <;> split <;> omega
theorem cnt_bd (xs : Nat → Nd) (k : Nat) (j : Int) : 0 ≤ cnt xs k j ∧ cnt xs k j ≤ 2 * k := by
  induction k with
  | zero => simp [cnt]
  | succ k ih =>
    have := hit_bd (xs k) j
    simp only [cnt]
    omega
theorem cnt_mono (xs : Nat → Nd) (j : Int) {a b : Nat} (h : a ≤ b) : cnt xs a j ≤ cnt xs b j := by
  induction b with
  | zero =>
    have : a = 0 := by omega
    subst this; exact Int.le_refl _
  | succ b ih =>
    by_cases e : a = b + 1
    · subst e; exact Int.le_refl _
    · have := hit_bd (xs b) j
      have := ih (by omega)
      simp only [cnt]
      omega
theorem cnt_none (xs : Nat → Nd) (j : Int) (n : Nat) (h : ∀ i, i < n → (xs i).leaf = false → (xs i).l ≠ j ∧ (xs i).r ≠ j) : cnt xs n j = 0 := by
  induction n with
  | zero => rfl
  | succ n ih =>
    simp only [cnt]
    rw [ih (fun i hi => h i (by omega))]
    cases e : (xs n).leaf
    · obtain ⟨h1, h2⟩ := h n (by omega) e
      simp [hit_other e, h1, h2]
    · simp [hit_leaf e]
theorem cnt_some (xs : Nat → Nd) (j : Int) (n : Nat) (h : cnt xs n j ≠ 0) : ∃ i, i < n ∧ (xs i).leaf = false ∧ ((xs i).l = j ∨ (xs i).r = j) := by
  induction n with
  | zero => exact absurd rfl h
  | succ n ih =>
    by_cases e : cnt xs n j = 0
    · have hh : hit (xs n) j ≠ 0 := by simp only [cnt] at h; omega
      cases e2 : (xs n).leaf
      · refine ⟨n, by omega, e2, ?_⟩
        rw [hit_other e2] at hh
        by_cases a : (xs n).l = j
        · exact .inl a
        · by_cases b : (xs n).r = j
          · exact .inr b
          · simp [a, b] at hh
      · exact absurd (hit_leaf e2 j) hh
    · obtain ⟨i, hi, h1, h2⟩ := ih e
      exact ⟨i, by omega, h1, h2⟩
theorem cnt_congr {xs ys : Nat → Nd} (j : Int) (n : Nat) (h : ∀ i, i < n → xs i = ys i) : cnt xs n j = cnt ys n j := by
  induction n with
  | zero => rfl
  | succ n ih => simp only [cnt]; rw [ih (fun i hi => h i (by omega)), h n (by omega)]
/-- no two name the same -/
theorem Shape.alone {xs : Nat → Nd} {n : Nat} {dim : Int} (h : Shape xs n dim) {i k : Nat} (hi : i < k) (hk : k < n) (j : Nat) (li : (xs i).leaf = false) (lk : (xs k).leaf = false) (a : (xs i).l = j ∨ (xs i).r = j) : (xs k).l ≠ j ∧ (xs k).r ≠ j := by
  have f := h.fine i (by omega)
  rcases f with f | ⟨_, f1, f2, f3, f4, f5⟩
  · rw [li] at f; cases f
  have h1 : 1 ≤ hit (xs i) j := by
    rw [hit_other li]
    rcases a with a | a
    · rw [if_pos a]; split <;> omega
    · rw [if_pos a]; split <;> omega
  have j1 : 1 ≤ j ∧ j < n := by rcases a with a | a <;> omega
  have h2 := h.one j j1.1 j1.2
  have h3 := cnt_mono xs j (show i + 1 ≤ k by omega)
  have h4 := cnt_mono xs j (show k + 1 ≤ n by omega)
  have h5 := (cnt_bd xs i j).1
  simp only [cnt] at h3 h4
  have h6 : hit (xs k) j = 0 := by have := hit_bd (xs k) j; omega
  rw [hit_other lk] at h6
  constructor
  · intro e; rw [if_pos e] at h6; split at h6 <;> omega
  · intro e; rw [if_pos e] at h6; split at h6 <;> omega

/-! ways -/
def sideI (x : Nd) (p : Int → Int) : Int := if p x.f ≤ x.a then x.l else x.r
def wayW (ws : List Int) (p : Int → Int) : Nat → Nat → Option Nat
  | 0, _ => none
  | k + 1, i => if i < ws.length ∧ unB (wd ws i) = true then (if (ndA ws i).leaf = true then some i else wayW ws p k (sideI (ndA ws i) p).toNat) else none
def plI : Option Nat → Int
  | none => -1
  | some k => k
def vlI (ws : List Int) : Option Nat → Int
  | none => 0
  | some k => (ndA ws k).v
theorem wayW_out {ws : List Int} {p : Int → Int} {k i : Nat} (h : ¬ i < ws.length) : wayW ws p (k + 1) i = none := by simp [wayW, h]
theorem wayW_bad {ws : List Int} {p : Int → Int} {k i : Nat} (h : unB (wd ws i) = false) : wayW ws p (k + 1) i = none := by simp [wayW, h]
theorem wayW_leaf {ws : List Int} {p : Int → Int} {k i : Nat} (h : i < ws.length) (h1 : unB (wd ws i) = true) (h2 : (ndA ws i).leaf = true) : wayW ws p (k + 1) i = some i := by simp [wayW, h, h1, h2]
theorem wayW_on {ws : List Int} {p : Int → Int} {k i : Nat} (h : i < ws.length) (h1 : unB (wd ws i) = true) (h2 : (ndA ws i).leaf = false) : wayW ws p (k + 1) i = wayW ws p k (sideI (ndA ws i) p).toNat := by simp [wayW, h, h1, h2]
theorem side_cases (x : Nd) (p : Int → Int) : sideI x p = x.l ∨ sideI x p = x.r := by unfold sideI; split <;> simp

theorem TreeP.side {ws : List Int} {dim : Int} (h : TreeP ws dim) {i : Nat} (hi : i < ws.length) (hl : (ndA ws i).leaf = false) (p : Int → Int) : (i : Int) < sideI (ndA ws i) p ∧ sideI (ndA ws i) p < ws.length := by
  rcases h.shape.fine i hi with f | ⟨_, f1, f2, f3, f4, _⟩
  · rw [hl] at f; cases f
  · rcases side_cases (ndA ws i) p with e | e <;> rw [e] <;> omega
theorem TreeP.ends {ws : List Int} {dim : Int} (h : TreeP ws dim) (p : Int → Int) : ∀ (k i : Nat), i < ws.length → ws.length ≤ k + i → ∃ a, wayW ws p k i = some a ∧ i ≤ a ∧ a < ws.length ∧ (ndA ws a).leaf = true := by
  intro k
  induction k with
  | zero => intro i h1 h2; omega
  | succ k ih =>
    intro i h1 h2
    cases e : (ndA ws i).leaf
    · rw [wayW_on h1 (h.can i h1) e]
      obtain ⟨s1, s2⟩ := h.side h1 e p
      obtain ⟨a, h3, h4, h5, h6⟩ := ih (sideI (ndA ws i) p).toNat (by omega) (by omega)
      exact ⟨a, h3, by omega, h5, h6⟩
    · exact ⟨i, wayW_leaf h1 (h.can i h1) e, Nat.le_refl _, h1, e⟩
theorem TreeP.leaf {ws : List Int} {dim : Int} (h : TreeP ws dim) (p : Int → Int) : ∃ a, wayW ws p 31 0 = some a ∧ a < ws.length ∧ (ndA ws a).leaf = true := by
  obtain ⟨a, h1, _, h2, h3⟩ := h.ends p 31 0 (by have := h.full; omega) (by have := h.few; omega)
  exact ⟨a, h1, h2, h3⟩
theorem wayW_same {ws : List Int} {p q : Int → Int} (h : ∀ i, i < ws.length → unB (wd ws i) = true → (ndA ws i).leaf = false → (p (ndA ws i).f ≤ (ndA ws i).a ↔ q (ndA ws i).f ≤ (ndA ws i).a)) : ∀ k i, wayW ws p k i = wayW ws q k i := by
  intro k
  induction k with
  | zero => intro i; rfl
  | succ k ih =>
    intro i
    by_cases h1 : i < ws.length
    · cases h2 : unB (wd ws i)
      · rw [wayW_bad h2, wayW_bad h2]
      · cases h3 : (ndA ws i).leaf
        · rw [wayW_on h1 h2 h3, wayW_on h1 h2 h3]
          have e : sideI (ndA ws i) p = sideI (ndA ws i) q := by
            unfold sideI
            have := h i h1 h2 h3
            by_cases a : p (ndA ws i).f ≤ (ndA ws i).a
            · rw [if_pos a, if_pos (this.1 a)]
            · rw [if_neg a, if_neg (fun b => a (this.2 b))]
          rw [e]
          exact ih _
        · rw [wayW_leaf h1 h2 h3, wayW_leaf h1 h2 h3]
    · rw [wayW_out h1, wayW_out h1]

/-! how deep -/
def wy (xs : Nat → Nd) : Nat → Int → Int
  | 0, j => if j = 0 then 1 else 0
  | m + 1, j => if (xs m).leaf = true then wy xs m j else if (xs m).r = j then wy xs m m + 1 else if (xs m).l = j then wy xs m m + 1 else wy xs m j
def lg (xs : Nat → Nd) : Nat → Int
  | 0 => 1
  | m + 1 => max (lg xs m) (wy xs m m)
theorem wy_stays {xs : Nat → Nd} {n : Nat} {dim : Int} (h : Shape xs n dim) (j : Nat) : ∀ m, j ≤ m → m ≤ n → wy xs m j = wy xs j j := by
  intro m
  induction m with
  | zero => intro h1 _; have : j = 0 := by omega
            subst this; rfl
  | succ m ih =>
    intro h1 h2
    by_cases e : j = m + 1
    · subst e; rfl
    · rw [← ih (by omega) (by omega)]
      simp only [wy]
      split
      · rfl
      · rcases h.fine m (by omega) with f | ⟨_, f1, f2, _⟩
        · contradiction
        · rw [if_neg (by omega), if_neg (by omega)]
theorem wy_child {xs : Nat → Nd} {n : Nat} {dim : Int} (h : Shape xs n dim) {i : Nat} (hi : i < n) (li : (xs i).leaf = false) (j : Nat) (a : (xs i).l = j ∨ (xs i).r = j) : ∀ m, i + 1 ≤ m → m ≤ n → wy xs m j = wy xs i i + 1 := by
  intro m
  induction m with
  | zero => intro h1; omega
  | succ m ih =>
    intro h1 h2
    by_cases e : m = i
    · subst e
      simp only [wy]
      rw [if_neg (by simp [li])]
      by_cases b : (xs m).r = j
      · rw [if_pos b]
      · rw [if_neg b, if_pos (by rcases a with a | a; exact a; exact absurd a b)]
    · rw [← ih (by omega) (by omega)]
      simp only [wy]
      split
      · rfl
      · rename_i lm
        have lm : (xs m).leaf = false := by simpa using lm
        obtain ⟨b1, b2⟩ := h.alone (show i < m by omega) (by omega) j li lm a
        rw [if_neg b2, if_neg b1]
theorem Shape.wy_next {xs : Nat → Nd} {n : Nat} {dim : Int} (h : Shape xs n dim) {i : Nat} (hi : i < n) (li : (xs i).leaf = false) (j : Nat) (a : (xs i).l = j ∨ (xs i).r = j) : wy xs j j = wy xs i i + 1 ∧ i < j ∧ j < n := by
  rcases h.fine i hi with f | ⟨_, f1, f2, f3, f4, _⟩
  · rw [li] at f; cases f
  · have hj : i < j ∧ j < n := by rcases a with a | a <;> omega
    exact ⟨wy_child h hi li j a j (by omega) (by omega), hj.1, hj.2⟩
theorem lg_mono (xs : Nat → Nd) {a b : Nat} (h : a ≤ b) : lg xs a ≤ lg xs b := by
  induction b with
  | zero => have : a = 0 := by omega
            subst this; exact Int.le_refl _
  | succ b ih =>
    by_cases e : a = b + 1
    · subst e; exact Int.le_refl _
    · have := ih (by omega)
      simp only [lg]
      omega
theorem lg_at (xs : Nat → Nd) {j n : Nat} (h : j < n) : wy xs j j ≤ lg xs n := by
  have := lg_mono xs (show j + 1 ≤ n by omega)
  simp only [lg] at this
  omega
theorem wy_low {xs : Nat → Nd} {n : Nat} {dim : Int} (h : Shape xs n dim) : ∀ m, m ≤ n → ∀ j : Int, 0 ≤ j → 0 ≤ wy xs m j ∧ wy xs m j ≤ j + 1 := by
  intro m
  induction m with
  | zero => intro _ j hj; simp only [wy]; split <;> omega
  | succ m ih =>
    intro h2 j hj
    have h3 := ih (by omega) j hj
    have h4 := ih (by omega) m (by omega)
    simp only [wy]
    split
    · exact h3
    · rcases h.fine m (by omega) with f | ⟨_, f1, f2, _⟩
      · contradiction
      · split
        · omega
        · split <;> omega
theorem lg_bd {xs : Nat → Nd} {n : Nat} {dim : Int} (h : Shape xs n dim) : ∀ m, m ≤ n → 1 ≤ lg xs m ∧ lg xs m ≤ max m 1 := by
  intro m
  induction m with
  | zero => intro _; simp [lg]
  | succ m ih =>
    intro h2
    have h3 := ih (by omega)
    have h4 := wy_low h m (by omega) m (by omega)
    simp only [lg]
    omega

/-! the leaves -/
def lvs (xs : Nat → Nd) : Nat → List Int
  | 0 => []
  | m + 1 => if (xs m).leaf = true then lvs xs m ++ [(m : Int)] else lvs xs m
theorem lvs_length_le (xs : Nat → Nd) (n : Nat) : (lvs xs n).length ≤ n := by
  induction n with
  | zero => simp [lvs]
  | succ n ih =>
    simp only [lvs]
    split
    · simp; omega
    · omega
theorem lvs_mem (xs : Nat → Nd) (n : Nat) (x : Int) : x ∈ lvs xs n ↔ ∃ i : Nat, i < n ∧ (xs i).leaf = true ∧ x = i := by
  induction n with
  | zero => simp [lvs]
  | succ n ih =>
    simp only [lvs]
    split
    · rename_i hl
      simp only [List.mem_append, ih, List.mem_singleton]
      constructor
      · rintro (⟨i, h1, h2, h3⟩ | rfl)
        · exact ⟨i, by omega, h2, h3⟩
        · exact ⟨n, by omega, hl, rfl⟩
      · rintro ⟨i, h1, h2, h3⟩
        by_cases e : i = n
        · subst e; exact .inr h3
        · exact .inl ⟨i, by omega, h2, h3⟩
    · rename_i hl
      rw [ih]
      constructor
      · rintro ⟨i, h1, h2, h3⟩; exact ⟨i, by omega, h2, h3⟩
      · rintro ⟨i, h1, h2, h3⟩
        by_cases e : i = n
        · subst e; exact absurd h2 hl
        · exact ⟨i, by omega, h2, h3⟩
theorem lvs_at (xs : Nat → Nd) (n i : Nat) (h : i < (lvs xs n).length) : ∃ k : Nat, k < n ∧ (xs k).leaf = true ∧ wd (lvs xs n) i = k := by
  have : wd (lvs xs n) i ∈ lvs xs n := by
    simp only [wd, List.getD_eq_getElem?_getD, List.getElem?_eq_getElem h, Option.getD_some]
    exact List.getElem_mem h
  exact (lvs_mem xs n _).1 this
theorem lvs_rise (xs : Nat → Nd) (n : Nat) : ∀ i, i + 1 < (lvs xs n).length → wd (lvs xs n) i < wd (lvs xs n) (i + 1) := by
  induction n with
  | zero => simp [lvs]
  | succ n ih =>
    simp only [lvs]
    split
    · intro i hi
      simp at hi
      rw [wd_append_left _ _ _ (by omega)]
      by_cases e : i + 1 < (lvs xs n).length
      · rw [wd_append_left _ _ _ e]; exact ih i e
      · rw [wd_append_right _ _ _ (by omega), show i + 1 - (lvs xs n).length = 0 by omega]
        obtain ⟨k, h1, _, h2⟩ := lvs_at xs n i (by omega)
        rw [h2]
        simp [wd]
        omega
    · exact ih
def sumN (f : Nat → Int) : Nat → Int
  | 0 => 0
  | n + 1 => sumN f n + f n
theorem sumN_add (f g : Nat → Int) (n : Nat) : sumN (fun j => f j + g j) n = sumN f n + sumN g n := by
  induction n with
  | zero => rfl
  | succ n ih => simp only [sumN]; omega
theorem sumN_congr {f g : Nat → Int} (n : Nat) (h : ∀ j, j < n → f j = g j) : sumN f n = sumN g n := by
  induction n with
  | zero => rfl
  | succ n ih => simp only [sumN]; rw [ih (fun j hj => h j (by omega)), h n (by omega)]
theorem sumN_zero (n : Nat) : sumN (fun _ => 0) n = 0 := by
  induction n with
  | zero => rfl
  | succ n ih => simp only [sumN]; omega
theorem sumN_at (a : Int) (n : Nat) (h0 : 0 ≤ a) : sumN (fun j => if a = (j : Int) then 1 else 0) n = if a < n then 1 else 0 := by
  induction n with
  | zero => simp only [sumN]; rw [if_neg (by omega)]
  | succ n ih =>
    simp only [sumN]
    rw [ih]
    by_cases e : a = n
    · rw [if_neg (by omega), if_pos e, if_pos (by omega)]; omega
    · rw [if_neg e]
      by_cases e2 : a < n
      · rw [if_pos e2, if_pos (by omega)]; omega
      · rw [if_neg e2, if_neg (by omega)]; omega
theorem sum_cnt {xs : Nat → Nd} {n : Nat} {dim : Int} (h : Shape xs n dim) : ∀ k, k ≤ n → sumN (fun j => cnt xs k j) n = 2 * ((k : Int) - (lvs xs k).length) := by
  intro k
  induction k with
  | zero => intro _; simp [cnt, lvs, sumN_zero]
  | succ k ih =>
    intro hk
    have e : sumN (fun j => cnt xs (k + 1) j) n = sumN (fun j => cnt xs k j) n + sumN (fun j => hit (xs k) j) n := by
      simp only [cnt]
      exact sumN_add (fun j => cnt xs k j) (fun j => hit (xs k) j) n
    rw [e, ih (by omega)]
    rcases h.fine k (by omega) with f | ⟨_, f1, f2, f3, f4, _⟩
    · have : sumN (fun j => hit (xs k) j) n = 0 := by
        rw [sumN_congr (g := fun _ => 0) n (fun j _ => hit_leaf f j), sumN_zero]
      rw [this]
      simp only [lvs, f, if_true, List.length_append, List.length_singleton]
      omega
    · cases hl : (xs k).leaf
      · have : sumN (fun j => hit (xs k) j) n = 2 := by
          rw [sumN_congr (g := fun j => (if (xs k).l = (j : Int) then 1 else 0) + (if (xs k).r = (j : Int) then 1 else 0)) n (fun j _ => hit_other hl j)]
          rw [sumN_add (fun j => if (xs k).l = (j : Int) then 1 else 0) (fun j => if (xs k).r = (j : Int) then 1 else 0) n, sumN_at _ _ (by omega), sumN_at _ _ (by omega), if_pos f3, if_pos f4]
          rfl
        rw [this]
        simp only [lvs, hl]
        simp
        omega
      · have : sumN (fun j => hit (xs k) j) n = 0 := by
          rw [sumN_congr (g := fun _ => 0) n (fun j _ => hit_leaf hl j), sumN_zero]
        rw [this]
        simp only [lvs, hl, if_true, List.length_append, List.length_singleton]
        omega
theorem sum_ones (f : Nat → Int) (h0 : f 0 = 0) : ∀ n, 1 ≤ n → (∀ j, 1 ≤ j → j < n → f j = 1) → sumN f n = (n : Int) - 1 := by
  intro n
  induction n with
  | zero => intro h; omega
  | succ n ih =>
    intro _ h
    simp only [sumN]
    by_cases e : n = 0
    · subst e; simp [sumN, h0]
    · rw [ih (by omega) (fun j a b => h j a (by omega)), h n (by omega) (by omega)]
      omega
theorem Shape.leaves {xs : Nat → Nd} {n : Nat} {dim : Int} (h : Shape xs n dim) (hn : 1 ≤ n) : 2 * ((lvs xs n).length : Int) = n + 1 := by
  have h1 := sum_cnt h n (Nat.le_refl _)
  have h0 : cnt xs n 0 = 0 := by
    refine cnt_none xs 0 n (fun i hi li => ?_)
    rcases h.fine i hi with f | ⟨_, f1, f2, _⟩
    · rw [li] at f; cases f
    · omega
  have h2 := sum_ones (fun j => cnt xs n j) h0 n hn (fun j a b => h.one j a b)
  rw [h2] at h1
  omega

/-! what is turned -/
theorem no_tree_at {ws : List Int} {dim : Int} {k : Nat} {y : Nd} (hk : k < ws.length) (hw : wd ws k = y.pack) (hy : ¬ Fine dim ws.length k y) : ¬ TreeP ws dim := by
  intro h
  cases hr : y.rightB
  · have := h.can k hk
    rw [hw, Nd.pack_no hr, un_zero.1] at this
    cases this
  · have := h.shape.fine k hk
    rw [ndA, hw, (un_pack y).2.1 hr] at this
    exact hy this
theorem no_tree_word {ws : List Int} {dim : Int} {k : Nat} (hk : k < ws.length) (hw : wd ws k = 0) : ¬ TreeP ws dim := by
  intro h
  have := h.can k hk
  rw [hw, un_zero.1] at this
  cases this
theorem TreeP.pack {ws : List Int} {dim : Int} (h : TreeP ws dim) {k : Nat} (hk : k < ws.length) : (ndA ws k).pack = wd ws k := (un_of (h.can k hk)).2
theorem TreeP.right {ws : List Int} {dim : Int} (h : TreeP ws dim) {k : Nat} (hk : k < ws.length) : (ndA ws k).rightB = true := (un_of (h.can k hk)).1
theorem TreeP.lone {ws : List Int} {dim dim' : Int} (h : TreeP ws dim) (x : Int) : ¬ TreeP (ws ++ [x]) dim' := by
  intro h'
  have h1 := h'.shape.one ws.length h.full (by simp)
  simp only [List.length_append, List.length_singleton, cnt] at h1
  have h2 : ∀ i, i < ws.length → ndA (ws ++ [x]) i = ndA ws i := fun i hi => by rw [ndA, wd_append_left _ _ _ hi, ndA]
  rw [cnt_congr (ys := ndA ws) _ _ h2] at h1
  have h3 : cnt (ndA ws) ws.length ws.length = 0 := by
    refine cnt_none _ _ _ (fun i hi li => ?_)
    rcases h.shape.fine i hi with f | ⟨_, f1, f2, f3, f4, _⟩
    · rw [li] at f; cases f
    · omega
  rw [h3] at h1
  have h4 := h'.shape.fine ws.length (by simp)
  rcases h4 with f | ⟨_, f1, f2, f3, f4, _⟩
  · rw [hit_leaf f] at h1; omega
  · simp at f3; omega
theorem TreeP.shorn {ws : List Int} {dim dim' : Int} (h : TreeP ws dim) (h1 : 1 < ws.length) : ¬ TreeP (ws.take (ws.length - 1)) dim' := by
  intro h'
  have h2 := h.shape.one (ws.length - 1) (by omega) (by omega)
  obtain ⟨i, hi, li, hj⟩ := cnt_some (ndA ws) _ _ (by rw [h2]; decide)
  have hi2 : i < ws.length - 1 := by
    rcases h.shape.fine i hi with f | ⟨_, f1, f2, f3, f4, _⟩
    · rw [li] at f; cases f
    · omega
  have h3 := h'.shape.fine i (by simp; omega)
  rw [ndA, wd_take _ _ _ hi2] at h3
  have e : unI (wd ws i) = ndA ws i := rfl
  rw [e] at h3
  rcases h3 with f | ⟨_, f1, f2, f3, f4, _⟩
  · rw [li] at f; cases f
  · simp at f3 f4; omega

/-! a leaf is parted -/
def nA (L : List Nd) (i : Nat) : Nd := L.getD i Nd.nil
theorem nA_append_left (a b : List Nd) (i : Nat) (h : i < a.length) : nA (a ++ b) i = nA a i := by simp [nA, List.getElem?_append_left h]
theorem nA_set_self (a : List Nd) (k : Nat) (x : Nd) (h : k < a.length) : nA (a.set k x) k = x := by simp [nA, h]
theorem nA_set_ne (a : List Nd) (k i : Nat) (x : Nd) (h : k ≠ i) : nA (a.set k x) i = nA a i := by simp [nA, List.getElem?_set_ne h]
theorem nA_map (L : List Nd) (i : Nat) (h : i < L.length) : wd (L.map Nd.pack) i = (nA L i).pack := by simp [wd, nA, h]
theorem cnt_parted (L : List Nd) (k : Nat) (y : Nd) (hl : (nA L k).leaf = true) (hk : k < L.length) (j : Int) : ∀ m, m ≤ L.length → cnt (nA (L.set k y)) m j = cnt (nA L) m j + (if k < m then hit y j else 0) := by
  intro m
  induction m with
  | zero => intro _; simp [cnt]
  | succ m ih =>
    intro hm
    simp only [cnt]
    rw [ih (by omega)]
    by_cases e : k = m
    · subst e
      rw [nA_set_self _ _ _ hk, hit_leaf hl, if_neg (by omega), if_pos (by omega), Int.add_zero]
    · rw [nA_set_ne _ _ _ _ e]
      by_cases e2 : k < m
      · rw [if_pos e2, if_pos (by omega)]; omega
      · rw [if_neg e2, if_neg (by omega)]; omega
theorem Shape.part {L : List Nd} {dim : Int} (h : Shape (nA L) L.length dim) {k : Nat} (hk : k < L.length) (hl : (nA L k).leaf = true) {y u v : Nd} (hy : y.leaf = false) (hf : y.f < dim) (h1 : y.l = L.length) (h2 : y.r = (L.length : Int) + 1) (hu : u.leaf = true) (hv : v.leaf = true) :
    Shape (nA (L.set k y ++ [u, v])) (L.set k y ++ [u, v]).length dim := by
  have hlen : (L.set k y ++ [u, v]).length = L.length + 2 := by simp
  have e0 : ∀ i, i < L.length → nA (L.set k y ++ [u, v]) i = nA (L.set k y) i := fun i hi => nA_append_left _ _ _ (by simp; omega)
  have e1 : nA (L.set k y ++ [u, v]) L.length = u := by simp [nA]
  have e2 : nA (L.set k y ++ [u, v]) (L.length + 1) = v := by simp [nA]
  rw [hlen]
  constructor
  · intro i hi
    by_cases a : i < L.length
    · rw [e0 i a]
      by_cases b : k = i
      · subst b
        rw [nA_set_self _ _ _ hk]
        exact .inr ⟨hf, by omega, by omega, by omega, by omega, by omega⟩
      · rw [nA_set_ne _ _ _ _ b]
        rcases h.fine i a with f | ⟨f0, f1, f2, f3, f4, f5⟩
        · exact .inl f
        · exact .inr ⟨f0, f1, f2, by omega, by omega, f5⟩
    · by_cases b : i = L.length
      · subst b; rw [e1]; exact .inl hu
      · have : i = L.length + 1 := by omega
        subst this; rw [e2]; exact .inl hv
  · intro j j1 j2
    simp only [cnt]
    rw [e1, e2, hit_leaf hu, hit_leaf hv, cnt_congr _ _ e0, cnt_parted L k y hl hk _ _ (Nat.le_refl _), if_pos hk, hit_other hy, h1, h2]
    by_cases a : j < L.length
    · rw [h.one j j1 a, if_neg (by omega), if_neg (by omega)]; rfl
    · have c0 : cnt (nA L) L.length j = 0 := by
        refine cnt_none _ _ _ (fun i hi li => ?_)
        rcases h.fine i hi with f | ⟨_, f1, f2, f3, f4, _⟩
        · rw [li] at f; cases f
        · omega
      rw [c0]
      by_cases b : j = L.length
      · rw [if_pos (by omega), if_neg (by omega)]; rfl
      · rw [if_neg (by omega), if_pos (by omega)]; rfl
theorem tree_of {L : List Nd} {dim : Int} (h1 : 1 ≤ L.length) (h2 : L.length ≤ 31) (hr : ∀ i, i < L.length → (nA L i).rightB = true) (h : Shape (nA L) L.length dim) : TreeP (L.map Nd.pack) dim := by
  have hn : ∀ i, i < L.length → ndA (L.map Nd.pack) i = nA L i := fun i hi => by
    rw [ndA, nA_map L i hi, (un_pack _).2.1 (hr i hi)]
  refine ⟨by simpa using h1, by simpa using h2, fun i hi => ?_, ?_⟩
  · simp at hi
    rw [nA_map L i hi, (un_pack _).1]
    exact hr i hi
  · simp only [List.length_map]
    exact ⟨fun i hi => by rw [hn i hi]; exact h.fine i hi, fun j a b => by rw [cnt_congr _ _ hn]; exact h.one j a b⟩

end Go.Proofs.Ytndnijdpafcmoaa.M

namespace Go.Proofs.Ytndnijdpafcmoaa.M

/-- the biases of a right model of k classes -/
def BiasP (k b0 b1 b2 : Int) : Prop := (fit32 b0 = true ∧ fit32 b1 = true ∧ fit32 b2 = true) ∧ (k ≤ 0 → b0 = 0) ∧ (k ≤ 1 → b1 = 0) ∧ (k ≤ 2 → b2 = 0)
/-- what a tree's words come to at a point -/
def valW (ws : List Int) (p : Int → Int) : Int := vlI ws (wayW ws p 31 0)
theorem nd_v_bd (x : Int) : -2147483648 ≤ (unI x).v ∧ (unI x).v ≤ 2147483647 := by
  unfold unI
  split
  · unfold readI
    split
    · exact sg_bd x
    · simp
  · simp
theorem valW_bd (ws : List Int) (p : Int → Int) : -2147483648 ≤ valW ws p ∧ valW ws p ≤ 2147483647 := by
  unfold valW
  cases h : wayW ws p 31 0 with
  | none => simp [vlI]
  | some k => exact nd_v_bd _

end Go.Proofs.Ytndnijdpafcmoaa.M

namespace Go.Proofs.Ytndnijdpafcmoaa.M

/-- nodes that are a tree, and the places of leaves of it, no two alike -/
structure Bush (L : List Nd) (lv : List Int) (dim : Int) : Prop where
  shape : Shape (nA L) L.length dim
  right : ∀ i, i < L.length → (nA L i).rightB = true
  leaf : ∀ q, q < lv.length → ∃ k : Nat, wd lv q = k ∧ k < L.length ∧ (nA L k).leaf = true
  apart : ∀ q r, q < r → r < lv.length → wd lv q ≠ wd lv r

abbrev ndLeaf (v : Int) : Nd := ⟨true, v, 0, 0, 0, 0⟩
theorem leaf_right {v : Int} (h1 : -3000 ≤ v) (h2 : v ≤ 3000) : (ndLeaf v).rightB = true := by
  rw [Nd.right_iff]
  exact .inl ⟨rfl, by show -2147483648 ≤ v; omega, by show v ≤ 2147483647; omega, rfl, rfl, rfl, rfl⟩
theorem bush_one {v : Int} (h1 : -3000 ≤ v) (h2 : v ≤ 3000) (dim : Int) : Bush [ndLeaf v] [0] dim := by
  refine ⟨⟨fun i hi => ?_, fun j j1 j2 => ?_⟩, fun i hi => ?_, fun q hq => ?_, fun q r hqr hr => ?_⟩
  · have : i = 0 := by simp at hi; omega
    subst this; exact .inl rfl
  · simp at j2; omega
  · have : i = 0 := by simp at hi; omega
    subst this; exact leaf_right h1 h2
  · have : q = 0 := by simp at hq; omega
    subst this; exact ⟨0, rfl, by simp, rfl⟩
  · simp at hr; omega
/-- what is left of the places when the one at k is taken, and two new ones behind them -/
def lvNext (lv : List Int) (k : Nat) (n : Int) : List Int := lv.take k ++ lv.drop (k + 1) ++ [n, n + 1]
theorem lvNext_length (lv : List Int) (k : Nat) (n : Int) (h : k < lv.length) : (lvNext lv k n).length = lv.length + 1 := by simp [lvNext]; omega
theorem lvNext_at (lv : List Int) (k : Nat) (n : Int) (h : k < lv.length) (q : Nat) (hq : q < lv.length + 1) :
    (q < k ∧ wd (lvNext lv k n) q = wd lv q) ∨ (k ≤ q ∧ q + 1 < lv.length ∧ wd (lvNext lv k n) q = wd lv (q + 1)) ∨ (q + 1 = lv.length ∧ wd (lvNext lv k n) q = n) ∨ (q = lv.length ∧ wd (lvNext lv k n) q = n + 1) := by
  have h1 : (lv.take k).length = k := by simp; omega
  have h2 : (lv.take k ++ lv.drop (k + 1)).length = lv.length - 1 := by simp; omega
  by_cases a : q < k
  · left
    refine ⟨a, ?_⟩
    rw [lvNext, wd_append_left _ _ _ (by omega), wd_append_left _ _ _ (by omega), wd_take _ _ _ a]
  · right
    by_cases b : q + 1 < lv.length
    · left
      refine ⟨by omega, b, ?_⟩
      rw [lvNext, wd_append_left _ _ _ (by omega), wd_append_right _ _ _ (by omega), wd_drop, h1]
      congr 1; omega
    · right
      by_cases c : q + 1 = lv.length
      · left
        refine ⟨c, ?_⟩
        rw [lvNext, wd_append_right _ _ _ (by omega), h2, show q - (lv.length - 1) = 0 by omega]; rfl
      · right
        refine ⟨by omega, ?_⟩
        rw [lvNext, wd_append_right _ _ _ (by omega), h2, show q - (lv.length - 1) = 1 by omega]; rfl

theorem Bush.part {L : List Nd} {lv : List Int} {dim : Int} (h : Bush L lv dim) (hn : L.length ≤ 29) {k A : Nat} (hk : k < lv.length) (hA : wd lv k = A) {f a u v : Int} (hf0 : 0 ≤ f) (hf : f < dim) (hd : dim ≤ 4) (ha0 : 0 ≤ a) (ha : a ≤ 9) (hu1 : -3000 ≤ u) (hu2 : u ≤ 3000) (hv1 : -3000 ≤ v) (hv2 : v ≤ 3000) (hL : 1 ≤ L.length) :
    Bush (L.set A ⟨false, 0, f, a, L.length, (L.length : Int) + 1⟩ ++ [ndLeaf u, ndLeaf v]) (lvNext lv k L.length) dim := by
  obtain ⟨A', e1, hAL, hAl⟩ := h.leaf k hk
  have : A' = A := by omega
  subst this
  have hlen : (L.set A' ⟨false, 0, f, a, L.length, (L.length : Int) + 1⟩ ++ [ndLeaf u, ndLeaf v]).length = L.length + 2 := by simp
  have e0 : ∀ i, i < L.length → nA (L.set A' ⟨false, 0, f, a, L.length, (L.length : Int) + 1⟩ ++ [ndLeaf u, ndLeaf v]) i = nA (L.set A' ⟨false, 0, f, a, L.length, (L.length : Int) + 1⟩) i := fun i hi => nA_append_left _ _ _ (by simp; omega)
  have e1 : nA (L.set A' ⟨false, 0, f, a, L.length, (L.length : Int) + 1⟩ ++ [ndLeaf u, ndLeaf v]) L.length = ndLeaf u := by simp [nA]
  have e2 : nA (L.set A' ⟨false, 0, f, a, L.length, (L.length : Int) + 1⟩ ++ [ndLeaf u, ndLeaf v]) (L.length + 1) = ndLeaf v := by simp [nA]
  have hold : ∀ q, q < lv.length → q ≠ k → ∃ B : Nat, wd lv q = B ∧ B < L.length ∧ B ≠ A' ∧ nA (L.set A' ⟨false, 0, f, a, L.length, (L.length : Int) + 1⟩ ++ [ndLeaf u, ndLeaf v]) B = nA L B ∧ (nA L B).leaf = true := by
    intro q hq hqk
    obtain ⟨B, b1, b2, b3⟩ := h.leaf q hq
    have hBA : B ≠ A' := by
      intro e
      subst e
      rcases Nat.lt_or_ge q k with c | c
      · exact h.apart q k c hk (by omega)
      · exact h.apart k q (by omega) hq (by omega)
    exact ⟨B, b1, b2, hBA, by rw [e0 B b2, nA_set_ne _ _ _ _ (Ne.symm hBA)], b3⟩
  refine ⟨Shape.part h.shape hAL hAl rfl hf rfl rfl rfl rfl, fun i hi => ?_, fun q hq => ?_, fun q r hqr hr => ?_⟩
  · rw [hlen] at hi
    by_cases c : i < L.length
    · rw [e0 i c]
      by_cases d : A' = i
      · subst d
        rw [nA_set_self _ _ _ hAL, Nd.right_iff]
        exact .inr ⟨rfl, rfl, hf0, by show f ≤ 3; omega, by show -2147483648 ≤ a; omega, by show a ≤ 2147483647; omega, by show (1 : Int) ≤ L.length; omega, by show (L.length : Int) ≤ 30; omega, by show (1 : Int) ≤ L.length + 1; omega, by show (L.length : Int) + 1 ≤ 30; omega⟩
      · rw [nA_set_ne _ _ _ _ d]; exact h.right i c
    · by_cases d : i = L.length
      · subst d; rw [e1]; exact leaf_right hu1 hu2
      · have : i = L.length + 1 := by omega
        subst this; rw [e2]; exact leaf_right hv1 hv2
  · rw [lvNext_length _ _ _ hk] at hq
    rcases lvNext_at lv k L.length hk q hq with ⟨c1, c2⟩ | ⟨c1, c2, c3⟩ | ⟨c1, c2⟩ | ⟨c1, c2⟩
    · obtain ⟨B, b1, b2, _, b4, b5⟩ := hold q (by omega) (by omega)
      exact ⟨B, by omega, by omega, by rw [b4]; exact b5⟩
    · obtain ⟨B, b1, b2, _, b4, b5⟩ := hold (q + 1) (by omega) (by omega)
      exact ⟨B, by omega, by omega, by rw [b4]; exact b5⟩
    · exact ⟨L.length, c2, by omega, by rw [e1]⟩
    · exact ⟨L.length + 1, by rw [c2]; rfl, by omega, by rw [e2]⟩
  · rw [lvNext_length _ _ _ hk] at hr
    have old : ∀ q, q < lv.length → wd lv q < L.length := fun q hq => by
      obtain ⟨B, b1, b2, _⟩ := h.leaf q hq
      omega
    rcases lvNext_at lv k L.length hk q (by omega) with ⟨c1, c2⟩ | ⟨c1, c2, c3⟩ | ⟨c1, c2⟩ | ⟨c1, c2⟩
    · have := old q (by omega)
      rcases lvNext_at lv k L.length hk r hr with ⟨d1, d2⟩ | ⟨d1, d2, d3⟩ | ⟨d1, d2⟩ | ⟨d1, d2⟩
      · rw [c2, d2]; exact h.apart q r hqr (by omega)
      · rw [c2, d3]; exact h.apart q (r + 1) (by omega) (by omega)
      · omega
      · omega
    · have := old (q + 1) (by omega)
      rcases lvNext_at lv k L.length hk r hr with ⟨d1, d2⟩ | ⟨d1, d2, d3⟩ | ⟨d1, d2⟩ | ⟨d1, d2⟩
      · omega
      · rw [c3, d3]; exact h.apart (q + 1) (r + 1) (by omega) (by omega)
      · omega
      · omega
    · rcases lvNext_at lv k L.length hk r hr with ⟨d1, d2⟩ | ⟨d1, d2, d3⟩ | ⟨d1, d2⟩ | ⟨d1, d2⟩ <;> omega
    · omega
theorem Bush.tree {L : List Nd} {lv : List Int} {dim : Int} (h : Bush L lv dim) (h1 : 1 ≤ L.length) (h2 : L.length ≤ 31) : TreeP (L.map Nd.pack) dim := tree_of h1 h2 h.right h.shape

end Go.Proofs.Ytndnijdpafcmoaa.M
