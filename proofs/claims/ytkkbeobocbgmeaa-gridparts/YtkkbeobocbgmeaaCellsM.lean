/- What the statement ModelCells rests on: thresholds are nodes' own; points above the same thresholds come to the same sums. -/
import Derived.Test.YtkkbeobocbgmeaaModelF
import Derived.Test.YtkkbeobocbgmeaaRowsF
namespace Go.Proofs.Ytkkbeobocbgmeaa
open Go.RowKit M

/-- the node of that word parts feature f at t -/
def HitN (x f t : Int) : Prop := (unI x).leaf = false ∧ (unI x).f = f ∧ (unI x).a = t
theorem thr_hit {m : Md} (hr : RightM m) {f t : Int} (h : t ∈ thr (atsT m.ts f m.ts.length)) : ∃ I X, I < m.ts.length ∧ X < (tA m.ts I).ws.length ∧ HitN (wd (tA m.ts I).ws X) f t := by
  obtain ⟨I, hI, h1⟩ := atsT_mem.1 (thr_mem.1 h)
  obtain ⟨X, hX, h2, h3⟩ := atsW_mem.1 h1
  have hu := (hr.trees.2 I hI).tree.can X hX
  exact ⟨I, X, hI, hX, ((part_iff hu).1 h2).1, ((part_iff hu).1 h2).2, by rw [← part_at hu h2]; exact h3⟩
theorem sum_same {m : Md} (hr : RightM m) {p q : Int → Int} (h : ∀ f : Nat, (f : Int) < m.d → ∀ t, t ∈ thr (atsT m.ts f m.ts.length) → (p f ≤ t ↔ q f ≤ t)) (c : Int) : m.sum p c = m.sum q c := by
  have hv : ∀ i, i < m.ts.length → valW (tA m.ts i).ws p = valW (tA m.ts i).ws q := fun i hi => by
    have ht := (hr.trees.2 i hi).tree
    unfold valW
    rw [wayW_same (p := p) (q := q) (fun j hj hu hl => ?_) 31 0]
    have hR := Nd.right_iff.1 (un_of hu).1
    have hf0 : 0 ≤ (ndA (tA m.ts i).ws j).f := by
      unfold ndA at hl ⊢
      generalize unI (wd (tA m.ts i).ws j) = z at hl hR ⊢
      obtain ⟨leaf, v, f, a', l, r⟩ := z
      simp only at hl
      subst hl
      simp [Nd.Right] at hR
      simp only
      omega
    have hfd : (ndA (tA m.ts i).ws j).f < m.d := by
      rcases ht.shape.fine j hj with e | e
      · rw [hl] at e; cases e
      · exact e.1
    obtain ⟨F, hF⟩ := Int.eq_ofNat_of_zero_le hf0
    have hmem : (ndA (tA m.ts i).ws j).a ∈ thr (atsT m.ts (F : Int) m.ts.length) := by
      rw [thr_mem, atsT_mem]
      refine ⟨i, hi, atsW_mem.2 ⟨j, hj, ?_, ?_⟩⟩
      · rw [part_iff hu]; exact ⟨hl, hF⟩
      · exact part_at hu ((part_iff (f := (F : Int)) hu).2 ⟨hl, hF⟩)
    have := h F (by omega) _ hmem
    rwa [← hF] at this
  have hs : ∀ j, j ≤ m.ts.length → sumTo m.ts p c j = sumTo m.ts q c j := by
    intro j
    induction j with
    | zero => intro _; rfl
    | succ j ih => intro hj; simp only [sumTo, ih (by omega), hv j (by omega)]
  unfold Md.sum
  rw [hs _ (Nat.le_refl _)]
theorem thr_none {m : Md} (hr : RightM m) {f : Int} (hf : f < 0 ∨ m.d ≤ f) : thr (atsT m.ts f m.ts.length) = [] := by
  refine List.eq_nil_iff_forall_not_mem.2 fun t ht => ?_
  obtain ⟨I, X, hI, hX, h1, h2, _⟩ := thr_hit hr ht
  have hT := (hr.trees.2 I hI).tree
  have hR := Nd.right_iff.1 (un_of (hT.can X hX)).1
  have hfd : (unI (wd (tA m.ts I).ws X)).f < m.d := by
    rcases hT.shape.fine X hX with e | e
    · unfold ndA at e; rw [h1] at e; cases e
    · exact e.1
  generalize unI (wd (tA m.ts I).ws X) = z at h1 h2 hR hfd
  obtain ⟨leaf, v, g, a', l, r⟩ := z
  simp only at h1 h2 hfd
  subst h1 h2
  simp [Nd.Right] at hR
  omega

end Go.Proofs.Ytkkbeobocbgmeaa
