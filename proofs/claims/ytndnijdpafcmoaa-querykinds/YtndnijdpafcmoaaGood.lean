/- A region that draws its order: its first m operations in whatever order, each of which yields a value that is good in the world behind it, whatever the others have yielded; what is good stays good; the others come last, in their order. Operations may lay blocks. No conditions. -/
import Derived.Test.YtndnijdpafcmoaaInv
namespace Go.Proofs.Ytndnijdpafcmoaa
open Go

/-- each of the first m operations waits for earlier ones alone, and is waited for by one up to number m -/
def linB (md : Region.Mode) (ops : Array Oper) (m : Nat) : Bool := (List.range m).all fun i => (match ops[i]? with | some o => o.guard.isNone && o.after.all (fun e => !Region.binds md e || decide (e.on < i)) | none => false) && tWanted md ops m i

theorem lin_op {md : Region.Mode} {ops : Array Oper} {m i : Nat} (h : linB md ops m = true) (hi : i < m) : ∃ o, ops[i]? = some o ∧ o.guard = none ∧ (∀ e ∈ o.after, Region.binds md e = true → e.on < i) ∧ tWanted md ops m i = true := by
  simp only [linB, List.all_eq_true, List.mem_range] at h
  have h1 := h i hi
  cases ho : ops[i]? with
  | none => simp [ho] at h1
  | some o =>
    simp only [ho, Bool.and_eq_true, Array.all_eq_true_iff_forall_mem] at h1
    obtain ⟨⟨h2, h3⟩, h4⟩ := h1
    refine ⟨o, rfl, by simpa using h2, fun e he hb => ?_, h4⟩
    have := h3 e he
    simpa [hb] using this
theorem least_false : ∀ l : List Bool, l.all id = false → ∃ k, k < l.length ∧ l.getD k false = false ∧ ∀ j, j < k → l.getD j false = true
  | [], h => by simp at h
  | false :: l, _ => ⟨0, by simp, by simp, fun j hj => by omega⟩
  | true :: l, h => by
    obtain ⟨k, h1, h2, h3⟩ := least_false l (by simpa using h)
    refine ⟨k + 1, by simp; omega, by simpa using h2, fun j hj => ?_⟩
    cases j with
    | zero => simp
    | succ j => simpa using h3 j (by omega)
theorem all_false {l : List Bool} (h : ∀ d, d < l.length → l.getD d false = true) : l.all id = true := by
  cases hh : l.all id
  · obtain ⟨k, h1, h2, _⟩ := least_false l hh
    rw [h k h1] at h2
    cases h2
  · rfl
theorem lin_ready {md : Region.Mode} {ops : Array Oper} {m t : Nat} (hsz : ops.size = m + t) (hl : linB md ops m = true) (ht : tFrom md ops t m (listOf (List.replicate m true) t) = true) (l : List Bool) (hlen : l.length = m) (hn : l.all id = false) (hcl : RClosed md ops (listOf l t)) :
    Region.ready md ops (listOf l t) ≠ [] ∧ ∀ i ∈ Region.ready md ops (listOf l t), i < m ∧ ∀ o, ops[i]? = some o → o.guard = none := by
  have hmem : ∀ i, i ∈ Region.ready md ops (listOf l t) → i < m := by
    intro i hi
    by_cases him : i < m
    · exact him
    exfalso
    obtain ⟨hno, o, ho, hall⟩ := mem_ready.1 hi
    have hlt : i < m + t := hsz ▸ (Array.getElem?_eq_some_iff.1 ho).1
    have e1 : i = m := by
      cases t with
      | zero => omega
      | succ t =>
        simp only [tFrom, Bool.and_eq_true, beq_iff_eq] at ht
        have : i ∈ Region.ready md ops (listOf (List.replicate m true) (t + 1)) := by
          refine mem_ready.2 ⟨?_, o, ho, fun e he hb => ?_⟩
          · have : (listOf (List.replicate m true) (t + 1))[i]? = some false := by
              unfold listOf
              rw [List.getElem?_toArray, List.getElem?_append_right (by rw [List.length_replicate]; omega), List.length_replicate, List.getElem?_replicate, if_pos (by omega)]
            simp [Array.getD_eq_getD_getElem?, this]
          · have h1 := hall e he hb
            rw [listOf_false] at h1 ⊢
            have h2 : e.on < l.length := by
              by_cases h3 : e.on < l.length
              · exact h3
              · simp [List.getD, List.getElem?_eq_none (Nat.le_of_not_lt h3)] at h1
            rw [List.getD_eq_getElem?_getD, List.getElem?_replicate, if_pos (by omega)]
            rfl
        rw [ht.1, List.mem_singleton] at this
        exact this
    subst e1
    have key : ∀ n d, d < i → i - d ≤ n → l.getD d false = true := by
      intro n
      induction n with
      | zero => intro d h1 h2; omega
      | succ n ih =>
        intro d h1 h2
        obtain ⟨_, _, _, _, hw⟩ := lin_op hl h1
        simp only [tWanted, List.any_eq_true, List.mem_range] at hw
        obtain ⟨j, hj, hj2⟩ := hw
        cases hoj : ops[j]? with
        | none => simp [hoj] at hj2
        | some oj =>
          simp only [hoj] at hj2
          obtain ⟨e, he, hb⟩ := Array.any_eq_true'.1 hj2
          simp only [Bool.and_eq_true, beq_iff_eq] at hb
          obtain ⟨hb1, hb2⟩ := hb
          by_cases hji : j = i
          · subst hji
            rw [ho] at hoj
            cases hoj
            have := hall e he hb1
            rwa [listOf_false, hb2] at this
          · obtain ⟨o', ho', _, hlow, _⟩ := lin_op hl (show j < i by omega)
            rw [hoj] at ho'
            cases ho'
            have hdj := hlow e he hb1
            have h4 := hcl j oj hoj (by rw [listOf_false]; exact ih j (by omega) (by omega)) e he hb1
            rwa [listOf_false, hb2] at h4
    rw [all_false (fun d hd => key i d (by omega) (by omega))] at hn
    cases hn
  refine ⟨?_, fun i hi => ⟨hmem i hi, fun o ho => ?_⟩⟩
  · obtain ⟨k, h1, h2, h3⟩ := least_false l hn
    obtain ⟨o, ho, _, hlow, _⟩ := lin_op hl (show k < m by omega)
    intro h0
    have : k ∈ Region.ready md ops (listOf l t) := by
      refine mem_ready.2 ⟨?_, o, ho, fun e he hb => ?_⟩
      · rw [listOf_getD true h1]
        rw [List.getD_eq_getElem?_getD, List.getElem?_eq_getElem h1] at h2 ⊢
        exact h2
      · rw [listOf_false]
        exact h3 _ (hlow e he hb)
    rw [h0] at this
    cases this
  · obtain ⟨o', ho', hg, _⟩ := lin_op hl (hmem i hi)
    rw [ho] at ho'
    cases ho'
    exact hg
theorem wpAny_good {P : Program} {md : Region.Mode} {ops : Array Oper} {Q : Exit → Act → World → Prop} (m t : Nat) (I : (Nat → Bool) → Act → World → Prop) (hsz : ops.size = m + t) (hB : linB md ops m = true) (hT : tFrom md ops t m (listOf (List.replicate m true) t) = true)
    (hstep : ∀ (i : Nat) (o : Oper), i < m → ops[i]? = some o → ∀ (L : Nat → Bool) (a : Act) (w : World), I L a w → (∀ d, depB md ops i d = true → L d = true) → L i = false →
      ∀ K : Act → World → Prop, (∀ a' w', I (fun k => if k = i then true else L k) a' w' → K a' w') → o.wp P a w K Q)
    (hend : ∀ a w, I (fun k => decide (k < m)) a w → wpAny P md ops Q t (listOf (List.replicate m true) t) a w) :
    ∀ (fuel : Nat) (l : List Bool), l.length = m → l.countP (! ·) = fuel → RClosed md ops (listOf l t) → ∀ a w, I (fun k => l.getD k false) a w → wpAny P md ops Q (fuel + t) (listOf l t) a w
  | 0, l, hl, hc, _, a, w, h => by
    have e : l = List.replicate m true := by
      rw [List.eq_replicate_iff]
      refine ⟨hl, fun b hb => ?_⟩
      have := List.countP_eq_zero.1 hc b hb
      simpa using this
    subst e
    rw [Nat.zero_add]
    refine hend a w ?_
    have e2 : (fun k => (List.replicate m true).getD k false) = fun k => decide (k < m) := by
      funext k
      by_cases hk : k < m <;> simp [hk]
    rwa [e2] at h
  | fuel + 1, l, hl, hc, hcl, a, w, h => by
    have hn : l.all id = false := by
      cases hh : l.all id
      · rfl
      · have : l.countP (! ·) = 0 := List.countP_eq_zero.2 fun b hb => by
          have := List.all_eq_true.1 hh b hb
          simpa using this
        omega
    obtain ⟨h2, h3⟩ := lin_ready hsz hB hT l hl hn hcl
    rw [show fuel + 1 + t = fuel + t + 1 by omega]
    refine ⟨fun h0 => absurd h0 h2, fun i hi => ?_⟩
    obtain ⟨him, hg⟩ := h3 i hi
    obtain ⟨hno, o, ho, hall⟩ := mem_ready.1 hi
    have hli : i < l.length := by omega
    have hLi : l.getD i false = false := by
      have := getD_no hno
      rwa [listOf_false] at this
    have hw : Region.wanted o (yielded ops a.tmps) = true := by simp [Region.wanted, hg o ho]
    unfold wpOp
    rw [ho]
    simp only [hw, if_true]
    refine .inl (hstep i o him ho (fun k => l.getD k false) a w h (fun d hd => ?_) hLi _ fun a' w' h' => ?_)
    · unfold depB at hd
      rw [ho] at hd
      obtain ⟨e, he, hb⟩ := Array.any_eq_true'.1 hd
      simp only [Bool.and_eq_true, beq_iff_eq] at hb
      have := hall e he hb.1
      rw [listOf_false, hb.2] at this
      exact this
    · rw [listOf_set hli]
      have hl2 : l[i]? = some false := by
        rw [List.getElem?_eq_getElem hli]
        simp [List.getD, List.getElem?_eq_getElem hli] at hLi
        rw [hLi]
      refine wpAny_good m t I hsz hB hT hstep hend fuel (l.set i true) (by simpa using hl) (by have := count_set l i hl2; omega) (by rw [← listOf_set hli]; exact hcl.list hi) a' w' ?_
      have e2 : (fun k => (l.set i true).getD k false) = fun k => if k = i then true else l.getD k false := by
        funext k
        by_cases hk : k = i
        · subst hk; simp [hli]
        · simp [hk, List.getD, List.getElem?_set_ne (Ne.symm hk)]
      rw [e2]
      exact h'
/-- the values of the region's operations, the one of operation i put anew -/
def upd (x : Nat → Value) (i : Nat) (v : Value) : Nat → Value := fun j => if j = i then v else x j
theorem upd_at (x : Nat → Value) (i : Nat) (v : Value) : upd x i v i = v := by simp [upd]
theorem upd_ne {x : Nat → Value} {i j : Nat} {v : Value} (h : j ≠ i) : upd x i v j = x j := by simp [upd, h]
theorem upd_know {x : Nat → Value} {i : Nat} {v : Value} (h : x i = v) : ∃ z, x = upd z i v := ⟨x, funext fun k => by
  by_cases hk : k = i
  · subst hk; rw [upd_at, h]
  · rw [upd_ne hk]⟩
theorem upd_know2 {x : Nat → Value} {i j : Nat} {v u : Value} (h : x i = v) (h' : x j = u) : ∃ z, x = upd (upd z i v) j u := ⟨x, by
  obtain ⟨z, e⟩ := upd_know h
  funext k
  by_cases hk : k = j
  · subst hk; rw [upd_at, h']
  · rw [upd_ne hk]
    by_cases hk2 : k = i
    · subst hk2; rw [upd_at, h]
    · rw [upd_ne hk2]⟩
theorem upd_know3 {x : Nat → Value} {i j k : Nat} {v u t : Value} (h : x i = v) (h' : x j = u) (h'' : x k = t) : ∃ z, x = upd (upd (upd z i v) j u) k t := ⟨x, by
  funext n
  by_cases hk : n = k
  · subst hk; rw [upd_at, h'']
  · rw [upd_ne hk]
    by_cases hk : n = j
    · subst hk; rw [upd_at, h']
    · rw [upd_ne hk]
      by_cases hk2 : n = i
      · subst hk2; rw [upd_at, h]
      · rw [upd_ne hk2]⟩
theorem upd_know4 {x : Nat → Value} {i j k l : Nat} {v u t s : Value} (h : x i = v) (h' : x j = u) (h'' : x k = t) (h3 : x l = s) : ∃ z, x = upd (upd (upd (upd z i v) j u) k t) l s := ⟨x, by
  funext n
  by_cases hk : n = l
  · subst hk; rw [upd_at, h3]
  · rw [upd_ne hk]
    by_cases hk : n = k
    · subst hk; rw [upd_at, h'']
    · rw [upd_ne hk]
      by_cases hk : n = j
      · subst hk; rw [upd_at, h']
      · rw [upd_ne hk]
        by_cases hk2 : n = i
        · subst hk2; rw [upd_at, h]
        · rw [upd_ne hk2]⟩
/-- the region: the first m operations in whatever order; F: the frame, by the operations' values; G: what a value must be like -/
theorem region_good {id : Nat} {Q : Exit → Act → World → Prop} {w : World} {ol : List Oper} (m : Nat) (x0 : Nat → Value) (F : (Nat → Value) → Act) (C : World → Prop) (R : World → World → Prop) (G : Nat → Value → World → Prop) (hm : Try.prog.follows .mixedOrders = true)
    (hB : (decide (m ≤ ol.length) && linB .any ol.toArray m && tFrom .any ol.toArray (ol.length - m) m (listOf (List.replicate m true) (ol.length - m))) = true)
    (h0 : C w.drew) (hmono : ∀ k v w w', R w w' → G k v w → G k v w')
    (hstep : ∀ (i : Nat) (o : Oper), i < m → ol[i]? = some o → ∀ (x : Nat → Value) (w : World), C w → (∀ d, depB .any ol.toArray i d = true → G d (x d) w) →
      ∀ K : Act → World → Prop, (∀ v w', C w' → R w w' → G i v w' → K (F (upd x i v)) w') → o.wp Try.prog (F x) w K Q)
    (hend : ∀ x w, C w → (∀ k, k < m → G k (x k) w) → wpList Try.prog ol.toArray Q (ol.drop m) (F x) w) : (Code.region id ol.toArray true).wp Try.prog Q (F x0) w := by
  simp only [Bool.and_eq_true, decide_eq_true_eq] at hB
  obtain ⟨⟨hml, hB1⟩, hB2⟩ := hB
  refine wp_region_any hm ?_
  have hlen : (ol.drop m).length = ol.length - m := by simp
  have e1 : m + (ol.length - m) = ol.toArray.size := by simp; omega
  have h := wpAny_good (P := Try.prog) (md := .any) (ops := ol.toArray) (Q := Q) m (ol.length - m) (fun L a w => ∃ x, a = F x ∧ C w ∧ ∀ k, L k = true → G k (x k) w) e1.symm hB1 hB2
    (fun i o hi ho L a w hI hd hLi K hK => by
      obtain ⟨x, rfl, hC, hG⟩ := hI
      refine hstep i o hi (by simpa using ho) x w hC (fun d hdd => hG d (hd d hdd)) K fun v w' h1 h2 h3 => hK _ _ ⟨_, rfl, h1, fun k hk => ?_⟩
      by_cases hki : k = i
      · subst hki
        rwa [upd_at]
      · rw [upd_ne hki]
        simp only [hki, if_false] at hk
        exact hmono _ _ _ _ h2 (hG k hk))
    (fun a w hI => by
      obtain ⟨x, rfl, hC, hG⟩ := hI
      have := wpAny_of_list (P := Try.prog) (ops := ol.toArray) (md := .any) (Q := Q) (ol.drop m) m _ (F x) w (fun j hj => by simp) (by rw [hlen]; exact hB2) (hend x w hC fun k hk => hG k (by simpa using hk))
      rwa [hlen] at this) m (List.replicate m false) (by simp) (by rw [List.countP_replicate]; simp) (by
      intro j o _ hj
      rw [listOf_false] at hj
      by_cases hk : j < m <;> simp [hk] at hj) (F x0) w.drew ⟨x0, rfl, h0, fun k hk => by
        by_cases hkm : k < m <;> simp [hkm] at hk⟩
  rw [e1] at h
  have e2 : listOf (List.replicate m false) (ol.length - m) = Array.replicate ol.toArray.size false := by
    unfold listOf
    rw [List.replicate_append_replicate, e1, List.toArray_replicate]
  rw [e2] at h
  exact h

end Go.Proofs.Ytndnijdpafcmoaa
