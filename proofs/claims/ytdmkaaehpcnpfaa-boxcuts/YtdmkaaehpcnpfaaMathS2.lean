/- Plain mathematics of chapter 4: three spans meet in whatever order. No conditions. -/
import Derived.Test.YtdmkaaehpcnpfaaMathS
namespace Go.Proofs.Ytdmkaaehpcnpfaa.M

theorem m_thrice (a b c d e f : Int) : mLo (mLo a b c d) (mHi a b c d) e f = mLo a b (mLo c d e f) (mHi c d e f) ∧ mHi (mLo a b c d) (mHi a b c d) e f = mHi a b (mLo c d e f) (mHi c d e f) := by
  have h1 := m_told a b c d
  have h2 := m_told c d e f
  generalize mLo a b c d = p at *
  generalize mHi a b c d = q at *
  generalize mLo c d e f = r at *
  generalize mHi c d e f = s at *
  have h3 := m_told p q e f
  have h4 := m_told a b r s
  generalize mLo p q e f = u at *
  generalize mHi p q e f = v at *
  generalize mLo a b r s = u' at *
  generalize mHi a b r s = v' at *
  rcases h1 with ⟨h1, rfl, rfl⟩ | ⟨h1, rfl, rfl⟩ <;> rcases h2 with ⟨h2, rfl, rfl⟩ | ⟨h2, rfl, rfl⟩ <;> rcases h3 with ⟨h3, rfl, rfl⟩ | ⟨h3, rfl, rfl⟩ <;> rcases h4 with ⟨h4, rfl, rfl⟩ | ⟨h4, rfl, rfl⟩ <;> first | exact ⟨rfl, rfl⟩ | (exfalso; omega) | omega
end Go.Proofs.Ytdmkaaehpcnpfaa.M
