/- The law 'region_good' of Held with an invariant of one's own over which operations came, their values, the world. Two boxes that a region makes, the first of which it writes. No conditions. -/
import Derived.Test.YtkkbeobocbgmeaaHeld
import Derived.Test.YtkkbeobocbgmeaaBoxQ
namespace Go.Proofs.Ytkkbeobocbgmeaa
open Go M

theorem region_goodE {id : Nat} {Q : Exit → Act → World → Prop} {w : World} {ol : List Oper} (m : Nat) (E : (Nat → Bool) → (Nat → Value) → World → Prop) (x0 : Nat → Value) (F : (Nat → Value) → Act) (hm : Try.prog.follows .mixedOrders = true)
    (hB : (decide (m ≤ ol.length) && linB .any ol.toArray m && tFrom .any ol.toArray (ol.length - m) m (listOf (List.replicate m true) (ol.length - m))) = true)
    (h0 : E (fun _ => false) x0 w.drew)
    (hstep : ∀ (i : Nat) (o : Oper), i < m → ol[i]? = some o → ∀ (L : Nat → Bool) (x : Nat → Value) (w : World), E L x w → (∀ d, depB .any ol.toArray i d = true → L d = true) → L i = false →
      ∀ K : Act → World → Prop, (∀ v w', E (fun k => if k = i then true else L k) (upd x i v) w' → K (F (upd x i v)) w') → o.wp Try.prog (F x) w K Q)
    (hend : ∀ x w, E (fun k => decide (k < m)) x w → wpList Try.prog ol.toArray Q (ol.drop m) (F x) w) : (Code.region id ol.toArray true).wp Try.prog Q (F x0) w := by
  simp only [Bool.and_eq_true, decide_eq_true_eq] at hB
  obtain ⟨⟨hml, hB1⟩, hB2⟩ := hB
  refine wp_region_any hm ?_
  have hlen : (ol.drop m).length = ol.length - m := by simp
  have e1 : m + (ol.length - m) = ol.toArray.size := by simp; omega
  have hz : (fun k => (List.replicate m false).getD k false) = (fun _ : Nat => false) := by
    funext k
    by_cases hk : k < m <;> simp [hk]
  have h := wpAny_good (P := Try.prog) (md := .any) (ops := ol.toArray) (Q := Q) m (ol.length - m) (fun L a w => ∃ x, a = F x ∧ E L x w) e1.symm hB1 hB2
    (fun i o hi ho L a w hI hd hLi K hK => by
      obtain ⟨x, rfl, hE⟩ := hI
      exact hstep i o hi (by simpa using ho) L x w hE hd hLi K fun v w' h1 => hK _ _ ⟨_, rfl, h1⟩)
    (fun a w hI => by
      obtain ⟨x, rfl, hE⟩ := hI
      have := wpAny_of_list (P := Try.prog) (ops := ol.toArray) (md := .any) (Q := Q) (ol.drop m) m _ (F x) w (fun j hj => by simp) (by rw [hlen]; exact hB2) (hend x w hE)
      rwa [hlen] at this) m (List.replicate m false) (by simp) (by rw [List.countP_replicate]; simp) (by
      intro j o _ hj
      rw [listOf_false] at hj
      by_cases hk : j < m <;> simp [hk] at hj) (F x0) w.drew ⟨x0, rfl, by rw [hz]; exact h0⟩
  rw [e1] at h
  have e2 : listOf (List.replicate m false) (ol.length - m) = Array.replicate ol.toArray.size false := by
    unfold listOf
    rw [List.replicate_append_replicate, e1, List.toArray_replicate]
  rw [e2] at h
  exact h

/-- two pointers to different blocks -/
def ApartV (v u : Value) : Prop := ∀ h g, v = .pointer (some ⟨h, 0, none⟩) → u = .pointer (some ⟨g, 0, none⟩) → h ≠ g
/-- sixteen known values; two boxes that are made (numbers 16 and 17); a store into the first (number 18) -/
structure TwoE (wb : World) (V : Nat → Value) (x1 : Bx) (L : Nat → Bool) (x : Nat → Value) (w : World) : Prop where
  j : Jk wb w
  val : ∀ k, k < 16 → L k = true → x k = V k
  a16 : L 16 = true → ∃ h, x 16 = .pointer (some ⟨h, 0, none⟩) ∧ wb.heap.size ≤ h ∧ BxB w h (if L 18 = true then x1 else Bx.nil)
  a17 : L 17 = true → ∃ h, x 17 = .pointer (some ⟨h, 0, none⟩) ∧ wb.heap.size ≤ h ∧ BxB w h Bx.nil
  ne : L 16 = true → L 17 = true → ApartV (x 16) (x 17)
  st : L 18 = true → L 16 = true
section
variable {wb w w' : World} {V : Nat → Value} {x1 : Bx} {L : Nat → Bool} {x : Nat → Value}
theorem TwoE.start {x : Nat → Value} (h : Jk wb w) : TwoE wb V x1 (fun _ => false) x w := ⟨h, fun _ _ h => by simp at h, fun h => by simp at h, fun h => by simp at h, fun h => by simp at h, fun h => by simp at h⟩
theorem TwoE.keep (H : TwoE wb V x1 L x w) {i : Nat} (hi : i < 16) (hj : Jk w w') : TwoE wb V x1 (fun k => if k = i then true else L k) (upd x i (V i)) w' := by
  have e16 : (16 = i) = False := by simp; omega
  have e17 : (17 = i) = False := by simp; omega
  have e18 : (18 = i) = False := by simp; omega
  have u16 : upd x i (V i) 16 = x 16 := upd_ne (by omega)
  have u17 : upd x i (V i) 17 = x 17 := upd_ne (by omega)
  refine ⟨H.j.trans hj, fun k hk hL => ?_, ?_, ?_, ?_, ?_⟩
  · by_cases e : k = i
    · subst e; exact upd_at _ _ _
    · rw [upd_ne e]
      simp only [e, if_false] at hL
      exact H.val k hk hL
  all_goals simp only [e16, e17, e18, if_false, u16, u17]
  · intro h
    obtain ⟨g, e, h1, h2⟩ := H.a16 h
    exact ⟨g, e, h1, h2.jk hj⟩
  · intro h
    obtain ⟨g, e, h1, h2⟩ := H.a17 h
    exact ⟨g, e, h1, h2.jk hj⟩
  · exact H.ne
  · exact H.st
theorem TwoE.new16 (H : TwoE wb V x1 L x w) (hL : L 16 = false) : TwoE wb V x1 (fun k => if k = 16 then true else L k) (upd x 16 (.pointer (some ⟨w.heap.size, 0, none⟩))) (w.alloc (.cells #[.int .i64 0, .int .i64 0, .int .i64 0, .int .i64 0, .int .i64 0, .int .i64 0, .int .i64 0, .int .i64 0, .int .i64 0, .int .i64 0] 30)) := by
  have hj : Jk w (w.alloc (.cells #[.int .i64 0, .int .i64 0, .int .i64 0, .int .i64 0, .int .i64 0, .int .i64 0, .int .i64 0, .int .i64 0, .int .i64 0, .int .i64 0] 30)) := (Jk.refl w).alloc _
  have h18 : L 18 = false := by
    cases h : L 18
    · rfl
    · have := H.st h; rw [hL] at this; cases this
  refine ⟨H.j.trans hj, fun k hk hk2 => ?_, fun _ => ?_, fun h => ?_, fun _ h => ?_, fun h => ?_⟩
  · have e : ¬ k = 16 := by omega
    rw [upd_ne e]
    simp only [e, if_false] at hk2
    exact H.val k hk hk2
  · refine ⟨_, upd_at _ _ _, H.j.below.size, ?_⟩
    simp only [show ¬ (18 : Nat) = 16 by decide, if_false, h18, Bool.false_eq_true]
    exact BxB.laid w Bx.nil
  · simp only [show ¬ (17 : Nat) = 16 by decide, if_false] at h
    obtain ⟨g, e, h1, h2⟩ := H.a17 h
    exact ⟨g, by rw [upd_ne (by decide)]; exact e, h1, h2.jk hj⟩
  · simp only [show ¬ (17 : Nat) = 16 by decide, if_false] at h
    obtain ⟨g, e, _, h2⟩ := H.a17 h
    rw [upd_at, upd_ne (by decide), e]
    intro a b e1 e2
    cases e1; cases e2
    exact Ne.symm (Nat.ne_of_lt h2.lt)
  · simp
theorem TwoE.new17 (H : TwoE wb V x1 L x w) : TwoE wb V x1 (fun k => if k = 17 then true else L k) (upd x 17 (.pointer (some ⟨w.heap.size, 0, none⟩))) (w.alloc (.cells #[.int .i64 0, .int .i64 0, .int .i64 0, .int .i64 0, .int .i64 0, .int .i64 0, .int .i64 0, .int .i64 0, .int .i64 0, .int .i64 0] 30)) := by
  have hj : Jk w (w.alloc (.cells #[.int .i64 0, .int .i64 0, .int .i64 0, .int .i64 0, .int .i64 0, .int .i64 0, .int .i64 0, .int .i64 0, .int .i64 0, .int .i64 0] 30)) := (Jk.refl w).alloc _
  refine ⟨H.j.trans hj, fun k hk hk2 => ?_, fun h => ?_, fun _ => ?_, fun h _ => ?_, fun h => ?_⟩
  · have e : ¬ k = 17 := by omega
    rw [upd_ne e]
    simp only [e, if_false] at hk2
    exact H.val k hk hk2
  · simp only [show ¬ (16 : Nat) = 17 by decide, if_false] at h
    simp only [show ¬ (18 : Nat) = 17 by decide, if_false]
    obtain ⟨g, e, h1, h2⟩ := H.a16 h
    exact ⟨g, by rw [upd_ne (by decide)]; exact e, h1, h2.jk hj⟩
  · exact ⟨_, upd_at _ _ _, H.j.below.size, BxB.laid w Bx.nil⟩
  · simp only [show ¬ (16 : Nat) = 17 by decide, if_false] at h
    obtain ⟨g, e, _, h2⟩ := H.a16 h
    rw [upd_at, upd_ne (by decide), e]
    intro a b e1 e2
    cases e1; cases e2
    exact Nat.ne_of_lt h2.lt
  · simp only [show ¬ (18 : Nat) = 17 by decide, show ¬ (16 : Nat) = 17 by decide, if_false] at h ⊢
    exact H.st h
theorem TwoE.st18 (H : TwoE wb V x1 L x w) (h16 : L 16 = true) {h : Nat} (e : x 16 = .pointer (some ⟨h, 0, none⟩)) (hg : w.grownBy w' (some h)) (hb : BxB w' h x1) (v : Value) : TwoE wb V x1 (fun k => if k = 18 then true else L k) (upd x 18 v) w' := by
  obtain ⟨g, e', hw, h2⟩ := H.a16 h16
  rw [e] at e'
  cases e'
  refine ⟨H.j.grown hg (fun k hk => by cases hk; exact hw), fun k hk hk2 => ?_, fun _ => ?_, fun h7 => ?_, fun h6 h7 => ?_, fun _ => ?_⟩
  · have e : ¬ k = 18 := by omega
    rw [upd_ne e]
    simp only [e, if_false] at hk2
    exact H.val k hk hk2
  · simp only [if_true]
    exact ⟨h, by rw [upd_ne (by decide)]; exact e, hw, hb⟩
  · simp only [show ¬ (17 : Nat) = 18 by decide, if_false] at h7
    obtain ⟨g, e7, h1, h2⟩ := H.a17 h7
    exact ⟨g, by rw [upd_ne (by decide)]; exact e7, h1, h2.by hg (Ne.symm (H.ne h16 h7 h g e e7))⟩
  · simp only [show ¬ (17 : Nat) = 18 by decide, if_false] at h7
    rw [upd_ne (by decide), upd_ne (by decide)]
    exact H.ne h16 h7
  · simp only [show ¬ (16 : Nat) = 18 by decide, if_false]
    exact h16
end

end Go.Proofs.Ytkkbeobocbgmeaa
