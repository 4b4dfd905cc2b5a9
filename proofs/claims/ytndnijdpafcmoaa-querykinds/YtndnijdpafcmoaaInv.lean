/- A region that draws its order: a property of one's own that each of its first m operations keeps, in whatever order they come; those from number m on come last, in their order. No conditions. -/
import Derived.Test.YtndnijdpafcmoaaHeld
namespace Go.Proofs.Ytndnijdpafcmoaa
open Go

def bools : Nat → List (List Bool)
  | 0 => [[]]
  | n + 1 => (bools n).flatMap fun l => [false :: l, true :: l]
theorem mem_bools : ∀ l : List Bool, l ∈ bools l.length
  | [] => by simp [bools]
  | b :: l => by
    simp only [List.length_cons, bools, List.mem_flatMap]
    exact ⟨l, mem_bools l, by cases b <;> simp⟩
def listOf (l : List Bool) (t : Nat) : Array Bool := (l ++ List.replicate t false).toArray
def readyB (md : Region.Mode) (ops : Array Oper) (m t : Nat) : Bool :=
  (bools m).all fun l => l.all id || !(tClosed md ops (listOf l t)) || (!(Region.ready md ops (listOf l t)).isEmpty && (Region.ready md ops (listOf l t)).all fun i => decide (i < m) && match ops[i]? with | some o => o.guard.isNone | none => false)
/-- operation i waits for operation d -/
def depB (md : Region.Mode) (ops : Array Oper) (i d : Nat) : Bool := match ops[i]? with | some o => o.after.any fun e => Region.binds md e && e.on == d | none => false

theorem listOf_getD {l : List Bool} {t k : Nat} (d : Bool) (h : k < l.length) : (listOf l t).getD k d = l.getD k d := by
  unfold listOf
  simp [h, List.getElem?_append_left]
theorem listOf_false {l : List Bool} {t k : Nat} : (listOf l t).getD k false = l.getD k false := by
  by_cases h : k < l.length
  · exact listOf_getD false h
  · unfold listOf
    have e : l.getD k false = false := by simp [List.getD, List.getElem?_eq_none (Nat.le_of_not_lt h)]
    rw [e]
    by_cases h2 : k - l.length < t
    · simp [List.getElem?_append_right (Nat.le_of_not_lt h), h2]
    · simp [List.getElem?_append_right (Nat.le_of_not_lt h), h2]
theorem listOf_set {l : List Bool} {t i : Nat} (h : i < l.length) : (listOf l t).setIfInBounds i true = listOf (l.set i true) t := by
  unfold listOf
  rw [List.setIfInBounds_toArray, List.set_append_left _ _ h]
theorem count_set : ∀ (l : List Bool) (i : Nat), l[i]? = some false → (l.set i true).countP (! ·) + 1 = l.countP (! ·)
  | [], i, h => by simp at h
  | b :: l, 0, h => by
    simp at h
    subst h
    simp
  | b :: l, i + 1, h => by
    have := count_set l i (by simpa using h)
    simp only [List.set_cons_succ, List.countP_cons]
    omega

theorem tclosed_of {md : Region.Mode} {ops : Array Oper} {listed : Array Bool} (h : RClosed md ops listed) : tClosed md ops listed = true := by
  simp only [tClosed, List.all_eq_true, List.mem_range]
  intro j hj
  cases hl : listed.getD j false
  · simp
  · rw [Array.getElem?_eq_getElem hj]
    simp only [Bool.not_true, Bool.false_or, Array.all_eq_true_iff_forall_mem]
    intro e he
    cases hb : Region.binds md e
    · simp
    · simpa using h j _ (Array.getElem?_eq_getElem hj) hl e he hb
theorem wpAny_inv {P : Program} {md : Region.Mode} {ops : Array Oper} {Q : Exit → Act → World → Prop} (m t : Nat) (I : (Nat → Bool) → Act → World → Prop) (hB : readyB md ops m t = true)
    (hstep : ∀ (i : Nat) (o : Oper), i < m → ops[i]? = some o → ∀ (L : Nat → Bool) (a : Act) (w : World), I L a w → (∀ d, depB md ops i d = true → L d = true) → L i = false →
      ∀ K : Act → World → Prop, (∀ a' w', I (fun k => if k = i then true else L k) a' w' → K a' w') → o.wp P a w K Q)
    (hend : ∀ a w, I (fun k => decide (k < m)) a w → wpAny P md ops Q t (listOf (List.replicate m true) t) a w) :
    ∀ (fuel : Nat) (l : List Bool), l.length = m → l.countP (! ·) = fuel → RClosed md ops (listOf l t) → ∀ a w, I (fun k => l.getD k false) a w → wpAny P md ops Q (fuel + t) (listOf l t) a w
  | 0, l, hl, hc, _, a, w, h => by
    have e : l = List.replicate m true := by
      rw [List.eq_replicate_iff]
      refine ⟨hl, fun b hb => ?_⟩
      have := List.countP_eq_zero.1 hc b hb
      simpa using this
    subst e
    rw [Nat.zero_add]
    refine hend a w ?_
    have e2 : (fun k => (List.replicate m true).getD k false) = fun k => decide (k < m) := by
      funext k
      by_cases hk : k < m <;> simp [hk]
    rwa [e2] at h
  | fuel + 1, l, hl, hc, hcl, a, w, h => by
    have hm := mem_bools l
    rw [hl] at hm
    have h1 := List.all_eq_true.1 hB l hm
    have hn : l.all id = false := by
      cases hh : l.all id
      · rfl
      · have : l.countP (! ·) = 0 := List.countP_eq_zero.2 fun b hb => by
          have := List.all_eq_true.1 hh b hb
          simpa using this
        omega
    rw [hn, tclosed_of hcl, Bool.false_or, Bool.not_true, Bool.false_or, Bool.and_eq_true] at h1
    obtain ⟨h2, h3⟩ := h1
    rw [show fuel + 1 + t = fuel + t + 1 by omega]
    refine ⟨fun h0 => (by rw [h0] at h2; simp at h2), fun i hi => ?_⟩
    have h4 := List.all_eq_true.1 h3 i hi
    simp only [Bool.and_eq_true, decide_eq_true_eq] at h4
    obtain ⟨him, hg⟩ := h4
    obtain ⟨hno, o, ho, hall⟩ := mem_ready.1 hi
    rw [ho] at hg
    have hli : i < l.length := by omega
    have hLi : l.getD i false = false := by
      have := getD_no hno
      rwa [listOf_false] at this
    have hw : Region.wanted o (yielded ops a.tmps) = true := by
      cases hgu : o.guard with
      | none => simp [Region.wanted, hgu]
      | some x => simp only [hgu] at hg; simp at hg
    unfold wpOp
    rw [ho]
    simp only [hw, if_true]
    refine .inl (hstep i o him ho (fun k => l.getD k false) a w h (fun d hd => ?_) hLi _ fun a' w' h' => ?_)
    · unfold depB at hd
      rw [ho] at hd
      obtain ⟨e, he, hb⟩ := Array.any_eq_true'.1 hd
      simp only [Bool.and_eq_true, beq_iff_eq] at hb
      have := hall e he hb.1
      rw [listOf_false, hb.2] at this
      exact this
    · rw [listOf_set hli]
      have hl2 : l[i]? = some false := by
        rw [List.getElem?_eq_getElem hli]
        simp [List.getD, List.getElem?_eq_getElem hli] at hLi
        rw [hLi]
      refine wpAny_inv m t I hB hstep hend fuel (l.set i true) (by simpa using hl) (by have := count_set l i hl2; omega) (by rw [← listOf_set hli]; exact hcl.list hi) a' w' ?_
      have e2 : (fun k => (l.set i true).getD k false) = fun k => if k = i then true else l.getD k false := by
        funext k
        by_cases hk : k = i
        · subst hk; simp [hli]
        · simp [hk, List.getD, List.getElem?_set_ne (Ne.symm hk)]
      rw [e2]
      exact h'
/-- the region: the first m operations in whatever order, each keeps I; the others last -/
theorem region_inv {id : Nat} {Q : Exit → Act → World → Prop} {a : Act} {w : World} {ol : List Oper} (m : Nat) (I : (Nat → Bool) → Act → World → Prop) (hm : Try.prog.follows .mixedOrders = true)
    (hB : (decide (m ≤ ol.length) && readyB .any ol.toArray m (ol.length - m) && tFrom .any ol.toArray (ol.length - m) m (listOf (List.replicate m true) (ol.length - m))) = true)
    (h0 : I (fun _ => false) a w.drew)
    (hstep : ∀ (i : Nat) (o : Oper), i < m → ol[i]? = some o → ∀ (L : Nat → Bool) (a : Act) (w : World), I L a w → (∀ d, depB .any ol.toArray i d = true → L d = true) → L i = false →
      ∀ K : Act → World → Prop, (∀ a' w', I (fun k => if k = i then true else L k) a' w' → K a' w') → o.wp Try.prog a w K Q)
    (hend : ∀ a w, I (fun k => decide (k < m)) a w → wpList Try.prog ol.toArray Q (ol.drop m) a w) : (Code.region id ol.toArray true).wp Try.prog Q a w := by
  simp only [Bool.and_eq_true, decide_eq_true_eq] at hB
  obtain ⟨⟨hml, hB1⟩, hB2⟩ := hB
  refine wp_region_any hm ?_
  have hlen : (ol.drop m).length = ol.length - m := by simp
  have h := wpAny_inv (P := Try.prog) (md := .any) (ops := ol.toArray) (Q := Q) m (ol.length - m) I hB1 (fun i o hi ho => hstep i o hi (by simpa using ho))
    (fun a w hI => by
      have := wpAny_of_list (P := Try.prog) (ops := ol.toArray) (md := .any) (Q := Q) (ol.drop m) m _ a w (fun j hj => by simp) (by rw [hlen]; exact hB2) (hend a w hI)
      rwa [hlen] at this) m (List.replicate m false) (by simp) (by rw [List.countP_replicate]; simp) (by
      intro j o _ hj
      rw [listOf_false] at hj
      by_cases hk : j < m <;> simp [hk] at hj) a w.drew (by
        have e : (fun k => (List.replicate m false).getD k false) = fun _ => false := by
          funext k
          by_cases hk : k < m <;> simp [hk]
        rw [e]
        exact h0)
  have e1 : m + (ol.length - m) = ol.toArray.size := by simp; omega
  rw [e1] at h
  have e2 : listOf (List.replicate m false) (ol.length - m) = Array.replicate ol.toArray.size false := by
    unfold listOf
    rw [List.replicate_append_replicate, e1, List.toArray_replicate]
  rw [e2] at h
  exact h

end Go.Proofs.Ytndnijdpafcmoaa
