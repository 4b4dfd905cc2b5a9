/- A quiet region, operation by operation, as one word: what is guarded off is passed over without looking into the rest.
   A region that draws its order: its first m operations in whatever order, each of which yields a value that is good in the world behind it; those from number m on only read, may be guarded off, and come in whatever order they may: walked once, in the order of the text. No conditions. -/
import Derived.Test.YtkkbeobocbgmeaaGreatJunk
import Derived.Test.YtkkbeobocbgmeaaGreatHeld
namespace Go.Proofs.YtkkbeobocbgmeaaGreat
open Go.RowKit

/-- the rest of a quiet region, as one word (what it says is not looked into at each step) -/
structure WQ (ops : Array Oper) (C : World → Prop) (Q : Act → Prop) (l : List Oper) (a : Act) : Prop where
  out : wpQuiet Tryz.prog ops C Q l a
section
variable {ops : Array Oper} {rest : List Oper} {C : World → Prop} {Q : Act → Prop} {a : Act} {o : Oper}
theorem WQ.skip (hw : Region.wanted o (yielded ops a.tmps) = false) (h : WQ ops C Q rest (a.put o.dst undef)) : WQ ops C Q (o :: rest) a := ⟨by
  have h1 := h.out
  unfold wpQuiet
  rw [hw]
  exact h1⟩
theorem WQ.move (hw : Region.wanted o (yielded ops a.tmps) = true) (x : Operand) (ho : o.op = .move x) (v : Value) (hx : a.eval x = v) (h : WQ ops C Q rest (a.put o.dst v)) : WQ ops C Q (o :: rest) a := ⟨by
  refine wpQuiet_step fun K hK' => ?_
  rw [if_pos hw]
  refine ⟨v, fun w hw => ?_, hK' _ h.out⟩
  unfold Oper.quietAt execOp
  simp only [ho, hx, Sem.run_pure]
  exact ⟨rfl, rfl⟩⟩
theorem WQ.pickF (hw : Region.wanted o (yielded ops a.tmps) = true) (c x y : Operand) (ho : o.op = .pick c x y) (hc : a.eval c = .bool false) (v : Value) (hx : a.eval y = v) (h : WQ ops C Q rest (a.put o.dst v)) : WQ ops C Q (o :: rest) a := ⟨by
  refine wpQuiet_step fun K hK' => ?_
  rw [if_pos hw]
  refine ⟨v, fun w hw => ?_, hK' _ h.out⟩
  unfold Oper.quietAt execOp
  simp only [ho, hc, hx, asBool, Sem.run_bind, Sem.run_pure, Result.andThen_ok]
  exact ⟨rfl, rfl⟩⟩
theorem WQ.pickT (hw : Region.wanted o (yielded ops a.tmps) = true) (c x y : Operand) (ho : o.op = .pick c x y) (hc : a.eval c = .bool true) (v : Value) (hx : a.eval x = v) (h : WQ ops C Q rest (a.put o.dst v)) : WQ ops C Q (o :: rest) a := ⟨by
  refine wpQuiet_step fun K hK' => ?_
  rw [if_pos hw]
  refine ⟨v, fun w hw => ?_, hK' _ h.out⟩
  unfold Oper.quietAt execOp
  simp only [ho, hc, hx, asBool, Sem.run_bind, Sem.run_pure, Result.andThen_ok]
  exact ⟨rfl, rfl⟩⟩
end

end Go.Proofs.YtkkbeobocbgmeaaGreat

namespace Go.Proofs.YtkkbeobocbgmeaaGreat
open Go

theorem lin_readyQ {md : Region.Mode} {ops : Array Oper} {m t : Nat} (hsz : ops.size = m + t) (hl : linB md ops m = true) (ht : Region.ready md ops (listOf (List.replicate m true) t) = [m]) (l : List Bool) (hlen : l.length = m) (hn : l.all id = false) (hcl : RClosed md ops (listOf l t)) :
    Region.ready md ops (listOf l t) ≠ [] ∧ ∀ i ∈ Region.ready md ops (listOf l t), i < m ∧ ∀ o, ops[i]? = some o → o.guard = none := by
  have hmem : ∀ i, i ∈ Region.ready md ops (listOf l t) → i < m := by
    intro i hi
    by_cases him : i < m
    · exact him
    exfalso
    obtain ⟨hno, o, ho, hall⟩ := mem_ready.1 hi
    have hlt : i < m + t := hsz ▸ (Array.getElem?_eq_some_iff.1 ho).1
    have e1 : i = m := by
      cases t with
      | zero => omega
      | succ t =>
        have : i ∈ Region.ready md ops (listOf (List.replicate m true) (t + 1)) := by
          refine mem_ready.2 ⟨?_, o, ho, fun e he hb => ?_⟩
          · have : (listOf (List.replicate m true) (t + 1))[i]? = some false := by
              unfold listOf
              rw [List.getElem?_toArray, List.getElem?_append_right (by rw [List.length_replicate]; omega), List.length_replicate, List.getElem?_replicate, if_pos (by omega)]
            simp [Array.getD_eq_getD_getElem?, this]
          · have h1 := hall e he hb
            rw [listOf_false] at h1 ⊢
            have h2 : e.on < l.length := by
              by_cases h3 : e.on < l.length
              · exact h3
              · simp [List.getD, List.getElem?_eq_none (Nat.le_of_not_lt h3)] at h1
            rw [List.getD_eq_getElem?_getD, List.getElem?_replicate, if_pos (by omega)]
            rfl
        rw [ht, List.mem_singleton] at this
        exact this
    subst e1
    have key : ∀ n d, d < i → i - d ≤ n → l.getD d false = true := by
      intro n
      induction n with
      | zero => intro d h1 h2; omega
      | succ n ih =>
        intro d h1 h2
        obtain ⟨_, _, _, _, hw⟩ := lin_op hl h1
        simp only [tWanted, List.any_eq_true, List.mem_range] at hw
        obtain ⟨j, hj, hj2⟩ := hw
        cases hoj : ops[j]? with
        | none => simp [hoj] at hj2
        | some oj =>
          simp only [hoj] at hj2
          obtain ⟨e, he, hb⟩ := Array.any_eq_true'.1 hj2
          simp only [Bool.and_eq_true, beq_iff_eq] at hb
          obtain ⟨hb1, hb2⟩ := hb
          by_cases hji : j = i
          · subst hji
            rw [ho] at hoj
            cases hoj
            have := hall e he hb1
            rwa [listOf_false, hb2] at this
          · obtain ⟨o', ho', _, hlow, _⟩ := lin_op hl (show j < i by omega)
            rw [hoj] at ho'
            cases ho'
            have hdj := hlow e he hb1
            have h4 := hcl j oj hoj (by rw [listOf_false]; exact ih j (by omega) (by omega)) e he hb1
            rwa [listOf_false, hb2] at h4
    rw [all_false (fun d hd => key i d (by omega) (by omega))] at hn
    cases hn
  refine ⟨?_, fun i hi => ⟨hmem i hi, fun o ho => ?_⟩⟩
  · obtain ⟨k, h1, h2, h3⟩ := least_false l hn
    obtain ⟨o, ho, _, hlow, _⟩ := lin_op hl (show k < m by omega)
    intro h0
    have : k ∈ Region.ready md ops (listOf l t) := by
      refine mem_ready.2 ⟨?_, o, ho, fun e he hb => ?_⟩
      · rw [listOf_getD true h1]
        rw [List.getD_eq_getElem?_getD, List.getElem?_eq_getElem h1] at h2 ⊢
        exact h2
      · rw [listOf_false]
        exact h3 _ (hlow e he hb)
    rw [h0] at this
    cases this
  · obtain ⟨o', ho', hg, _⟩ := lin_op hl (hmem i hi)
    rw [ho] at ho'
    cases ho'
    exact hg
theorem wpAny_goodQ {P : Program} {md : Region.Mode} {ops : Array Oper} {Q : Exit → Act → World → Prop} (m t : Nat) (I : (Nat → Bool) → Act → World → Prop) (hsz : ops.size = m + t) (hB : linB md ops m = true) (hT : Region.ready md ops (listOf (List.replicate m true) t) = [m])
    (hstep : ∀ (i : Nat) (o : Oper), i < m → ops[i]? = some o → ∀ (L : Nat → Bool) (a : Act) (w : World), I L a w → (∀ d, depB md ops i d = true → L d = true) → L i = false →
      ∀ K : Act → World → Prop, (∀ a' w', I (fun k => if k = i then true else L k) a' w' → K a' w') → o.wp P a w K Q)
    (hend : ∀ a w, I (fun k => decide (k < m)) a w → wpAny P md ops Q t (listOf (List.replicate m true) t) a w) :
    ∀ (fuel : Nat) (l : List Bool), l.length = m → l.countP (! ·) = fuel → RClosed md ops (listOf l t) → ∀ a w, I (fun k => l.getD k false) a w → wpAny P md ops Q (fuel + t) (listOf l t) a w
  | 0, l, hl, hc, _, a, w, h => by
    have e : l = List.replicate m true := by
      rw [List.eq_replicate_iff]
      refine ⟨hl, fun b hb => ?_⟩
      have := List.countP_eq_zero.1 hc b hb
      simpa using this
    subst e
    rw [Nat.zero_add]
    refine hend a w ?_
    have e2 : (fun k => (List.replicate m true).getD k false) = fun k => decide (k < m) := by
      funext k
      by_cases hk : k < m <;> simp [hk]
    rwa [e2] at h
  | fuel + 1, l, hl, hc, hcl, a, w, h => by
    have hn : l.all id = false := by
      cases hh : l.all id
      · rfl
      · have : l.countP (! ·) = 0 := List.countP_eq_zero.2 fun b hb => by
          have := List.all_eq_true.1 hh b hb
          simpa using this
        omega
    obtain ⟨h2, h3⟩ := lin_readyQ hsz hB hT l hl hn hcl
    rw [show fuel + 1 + t = fuel + t + 1 by omega]
    refine ⟨fun h0 => absurd h0 h2, fun i hi => ?_⟩
    obtain ⟨him, hg⟩ := h3 i hi
    obtain ⟨hno, o, ho, hall⟩ := mem_ready.1 hi
    have hli : i < l.length := by omega
    have hLi : l.getD i false = false := by
      have := getD_no hno
      rwa [listOf_false] at this
    have hw : Region.wanted o (yielded ops a.tmps) = true := by simp [Region.wanted, hg o ho]
    unfold wpOp
    rw [ho]
    simp only [hw, if_true]
    refine .inl (hstep i o him ho (fun k => l.getD k false) a w h (fun d hd => ?_) hLi _ fun a' w' h' => ?_)
    · unfold depB at hd
      rw [ho] at hd
      obtain ⟨e, he, hb⟩ := Array.any_eq_true'.1 hd
      simp only [Bool.and_eq_true, beq_iff_eq] at hb
      have := hall e he hb.1
      rw [listOf_false, hb.2] at this
      exact this
    · rw [listOf_set hli]
      have hl2 : l[i]? = some false := by
        rw [List.getElem?_eq_getElem hli]
        simp [List.getD, List.getElem?_eq_getElem hli] at hLi
        rw [hLi]
      refine wpAny_goodQ m t I hsz hB hT hstep hend fuel (l.set i true) (by simpa using hl) (by have := count_set l i hl2; omega) (by rw [← listOf_set hli]; exact hcl.list hi) a' w' ?_
      have e2 : (fun k => (l.set i true).getD k false) = fun k => if k = i then true else l.getD k false := by
        funext k
        by_cases hk : k = i
        · subst hk; simp [hli]
        · simp [hk, List.getD, List.getElem?_set_ne (Ne.symm hk)]
      rw [e2]
      exact h'
/-- the region: the first m operations in whatever order, the others quiet behind them -/
theorem region_goodQ {id : Nat} {Q : Exit → Act → World → Prop} {w : World} {ol : List Oper} (m : Nat) (x0 : Nat → Value) (F : (Nat → Value) → Act) (C : World → Prop) (R : World → World → Prop) (G : Nat → Value → World → Prop) (hm : Tryz.prog.follows .mixedOrders = true)
    (hB : (decide (m ≤ ol.length) && Region.noSelect ol.toArray && linB .any ol.toArray m && (Region.ready .any ol.toArray (listOf (List.replicate m true) (ol.length - m)) == [m]) && Region.lexFrom .any ol.toArray (ol.length - m) m (listOf (List.replicate m true) (ol.length - m))) = true)
    (h0 : C w.drew) (hmono : ∀ k v w w', R w w' → G k v w → G k v w')
    (hstep : ∀ (i : Nat) (o : Oper), i < m → ol[i]? = some o → ∀ (x : Nat → Value) (w : World), C w → (∀ d, depB .any ol.toArray i d = true → G d (x d) w) →
      ∀ K : Act → World → Prop, (∀ v w', C w' → R w w' → G i v w' → K (F (upd x i v)) w') → o.wp Tryz.prog (F x) w K Q)
    (hend : ∀ x w, C w → (∀ k, k < m → G k (x k) w) → wpQuiet Tryz.prog ol.toArray (fun w' => ∃ X : Junk, w' = junk w X) (fun a' => ∀ w', (∃ X : Junk, w' = junk w X) → Q .normal a' w') (ol.drop m) (F x)) : (Code.region id ol.toArray true).wp Tryz.prog Q (F x0) w := by
  simp only [Bool.and_eq_true, decide_eq_true_eq, beq_iff_eq] at hB
  obtain ⟨⟨⟨⟨hml, hs⟩, hB1⟩, hB2⟩, hB3⟩ := hB
  refine wp_region_any hm ?_
  have hlen : (ol.drop m).length = ol.length - m := by simp
  have e1 : m + (ol.length - m) = ol.toArray.size := by simp; omega
  have hz : (fun k => (List.replicate m false).getD k false) = (fun _ : Nat => false) := by
    funext k
    by_cases hk : k < m <;> simp [hk]
  have h := wpAny_goodQ (P := Tryz.prog) (md := .any) (ops := ol.toArray) (Q := Q) m (ol.length - m) (fun L a w => ∃ x, a = F x ∧ C w ∧ ∀ k, L k = true → G k (x k) w) e1.symm hB1 hB2
    (fun i o hi ho L a w hI hd hLi K hK => by
      obtain ⟨x, rfl, hC, hG⟩ := hI
      refine hstep i o hi (by simpa using ho) x w hC (fun d hdd => hG d (hd d hdd)) K fun v w' h1 h2 h3 => hK _ _ ⟨_, rfl, h1, fun k hk => ?_⟩
      by_cases hki : k = i
      · subst hki
        rwa [upd_at]
      · rw [upd_ne hki]
        simp only [hki, if_false] at hk
        exact hmono _ _ _ _ h2 (hG k hk))
    (fun a w hI => by
      obtain ⟨x, rfl, hC, hG⟩ := hI
      have hq := hend x w hC fun k hk => hG k (by simpa using hk)
      have := wpAnyQ_lex (md := .any) hs (ol.drop m) m (listOf (List.replicate m true) (ol.length - m)) (F x) (fun j => by simp) (by rw [hlen]; exact hB3) hq
      rw [hlen] at this
      exact wpAny_of_quiet (C := fun w' => ∃ X : Junk, w' = junk w X) (fun _ w' hw' h => h w' hw') _ _ _ _ (Jk.refl w) this) m (List.replicate m false) (by simp) (by rw [List.countP_replicate]; simp) (by
      intro j o _ hj
      rw [listOf_false] at hj
      by_cases hk : j < m <;> simp [hk] at hj) (F x0) w.drew ⟨x0, rfl, h0, by rw [hz]; intro k hk; cases hk⟩
  rw [e1] at h
  have e2 : listOf (List.replicate m false) (ol.length - m) = Array.replicate ol.toArray.size false := by
    unfold listOf
    rw [List.replicate_append_replicate, e1, List.toArray_replicate]
  rw [e2] at h
  exact h

end Go.Proofs.YtkkbeobocbgmeaaGreat
