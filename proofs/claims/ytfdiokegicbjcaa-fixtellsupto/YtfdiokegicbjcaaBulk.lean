/- What the bound of an '..Upto' statement gives: a slice among the arguments has at most 1048576 places. No conditions. -/
import Derived.Test.YtfdiokegicbjcaaBase
namespace Go.Proofs.Ytfdiokegicbjcaa
open Go.ChangeShapes

theorem bulk_pos {H : Type} (d : DataW H) : 0 < Rows.uptoBulk d := by
  cases d
  case lit l => cases l <;> simp only [Rows.uptoBulk] <;> omega
  all_goals simp only [Rows.uptoBulk]; omega
theorem bulk_count {H : Type} : ∀ l : List (DataW H), l.length ≤ Rows.uptoBulkAll l
  | [] => Nat.zero_le _
  | d :: r => by
    have h1 := bulk_pos d
    have h2 := bulk_count r
    simp only [Rows.uptoBulkAll, List.length_cons]
    omega
theorem bulk_mem {H : Type} {d : DataW H} : ∀ {l : List (DataW H)}, d ∈ l → Rows.uptoBulk d ≤ Rows.uptoBulkAll l
  | [], h => by cases h
  | x :: r, h => by
    simp only [Rows.uptoBulkAll]
    rcases List.mem_cons.1 h with e | e
    · rw [e]; omega
    · have := bulk_mem e; omega
theorem bulk_row {H : Type} {l : List (DataW H)} {es ss : List (DataW H)} (hk : Rows.uptoSmall H l = true) (h : DataW.slice es ss ∈ l) : es.length + ss.length ≤ 1048576 := by
  have h0 : Rows.uptoBulkAll l ≤ 1048576 := of_decide_eq_true hk
  have h1 := bulk_mem h
  have h2 := bulk_count es
  have h3 := bulk_count ss
  simp only [Rows.uptoBulk] at h1
  omega

end Go.Proofs.Ytfdiokegicbjcaa
