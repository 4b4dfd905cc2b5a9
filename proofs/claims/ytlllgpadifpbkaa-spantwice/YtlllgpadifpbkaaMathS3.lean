/- Plain mathematics of chapter 4: how many numbers a span has; a span that is cut twice. No conditions. -/
import Derived.Test.YtlllgpadifpbkaaMathS
namespace Go.Proofs.Ytlllgpadifpbkaa.M

theorem l_told (a b t : Int) : (min b t < a ∧ lLo a b t = 1 ∧ lHi a b t = 0) ∨ (¬ min b t < a ∧ lLo a b t = a ∧ lHi a b t = min b t) := by
  unfold lLo lHi
  by_cases h : min b t < a
  · left; simp [h]
  · right; simp [h]
theorem u_told (a b t : Int) : (b < max a (t + 1) ∧ uLo a b t = 1 ∧ uHi a b t = 0) ∨ (¬ b < max a (t + 1) ∧ uLo a b t = max a (t + 1) ∧ uHi a b t = b) := by
  unfold uLo uHi
  by_cases h : b < max a (t + 1)
  · left; simp [h]
  · right; simp [h]
theorem sz_told (a b : Int) : (b < a ∧ szI a b = 0) ∨ (¬ b < a ∧ szI a b = b - a + 1) := by
  unfold szI
  by_cases h : b < a
  · left; simp [h]
  · right; simp [h]

/-- both parts have as many numbers as the whole -/
theorem sz_cut (a b t : Int) : szI (lLo a b t) (lHi a b t) + szI (uLo a b t) (uHi a b t) = szI a b := by
  have h1 := l_told a b t
  have h2 := u_told a b t
  generalize lLo a b t = p at *
  generalize lHi a b t = q at *
  generalize uLo a b t = r at *
  generalize uHi a b t = s at *
  have h3 := sz_told p q
  have h4 := sz_told r s
  have h5 := sz_told a b
  generalize szI p q = x at *
  generalize szI r s = y at *
  generalize szI a b = z at *
  omega
theorem sz_pos (a b : Int) : 0 ≤ szI a b := by
  have := sz_told a b
  omega

/-- cut at two places, in whatever order -/
theorem cut_twice (a b m n : Int) (h : m ≤ n) :
    lLo (lLo a b n) (lHi a b n) m = lLo a b m ∧ lHi (lLo a b n) (lHi a b n) m = lHi a b m ∧
    uLo (lLo a b n) (lHi a b n) m = lLo (uLo a b m) (uHi a b m) n ∧ uHi (lLo a b n) (lHi a b n) m = lHi (uLo a b m) (uHi a b m) n ∧
    uLo (uLo a b m) (uHi a b m) n = uLo a b n ∧ uHi (uLo a b m) (uHi a b m) n = uHi a b n := by
  have h1 := l_told a b n
  have h2 := u_told a b m
  have h3 := l_told a b m
  have h4 := u_told a b n
  generalize lLo a b n = p at *
  generalize lHi a b n = q at *
  generalize uLo a b m = r at *
  generalize uHi a b m = s at *
  generalize lLo a b m = p' at *
  generalize lHi a b m = q' at *
  generalize uLo a b n = r' at *
  generalize uHi a b n = s' at *
  have h5 := l_told p q m
  have h6 := u_told p q m
  have h7 := l_told r s n
  have h8 := u_told r s n
  generalize lLo p q m = e1 at *
  generalize lHi p q m = e2 at *
  generalize uLo p q m = e3 at *
  generalize uHi p q m = e4 at *
  generalize lLo r s n = e5 at *
  generalize lHi r s n = e6 at *
  generalize uLo r s n = e7 at *
  generalize uHi r s n = e8 at *
  rcases h1 with ⟨h1, rfl, rfl⟩ | ⟨h1, rfl, rfl⟩ <;> rcases h2 with ⟨h2, rfl, rfl⟩ | ⟨h2, rfl, rfl⟩ <;> rcases h3 with ⟨h3, rfl, rfl⟩ | ⟨h3, rfl, rfl⟩ <;> rcases h4 with ⟨h4, rfl, rfl⟩ | ⟨h4, rfl, rfl⟩ <;> first
    | (exfalso; omega)
    | (rcases h5 with ⟨h5, rfl, rfl⟩ | ⟨h5, rfl, rfl⟩ <;> rcases h6 with ⟨h6, rfl, rfl⟩ | ⟨h6, rfl, rfl⟩ <;> rcases h7 with ⟨h7, rfl, rfl⟩ | ⟨h7, rfl, rfl⟩ <;> rcases h8 with ⟨h8, rfl, rfl⟩ | ⟨h8, rfl, rfl⟩ <;> first | (exfalso; omega) | omega)
theorem cut_again (a b m : Int) : (emB (lLo a b m) (lHi a b m) = true ∨ (lLo (lLo a b m) (lHi a b m) m = lLo a b m ∧ lHi (lLo a b m) (lHi a b m) m = lHi a b m)) ∧ emB (uLo (lLo a b m) (lHi a b m) m) (uHi (lLo a b m) (lHi a b m) m) = true := by
  have h1 := l_told a b m
  generalize lLo a b m = p at *
  generalize lHi a b m = q at *
  have h2 := l_told p q m
  have h3 := u_told p q m
  generalize lLo p q m = e1 at *
  generalize lHi p q m = e2 at *
  generalize uLo p q m = e3 at *
  generalize uHi p q m = e4 at *
  unfold emB
  simp only [decide_eq_true_eq]
  omega
theorem cut_in (a b m n : Int) : inB (lLo (uLo a b m) (uHi a b m) n) (lHi (uLo a b m) (uHi a b m) n) a b = true := by
  have h1 := u_told a b m
  generalize uLo a b m = p at *
  generalize uHi a b m = q at *
  have h2 := l_told p q n
  generalize lLo p q n = e1 at *
  generalize lHi p q n = e2 at *
  unfold inB
  simp only [decide_eq_true_eq]
  omega
theorem sz_far : okB (szI (-9223372036854775808) 9223372036854775807) = false ∧ okB (szI (-1) 9223372036854775807) = false ∧ valI (szI 9223372036854775807 (-9223372036854775808)) = 0 ∧ okB (szI 9223372036854775807 (-9223372036854775808)) = true := by decide +kernel
end Go.Proofs.Ytlllgpadifpbkaa.M
