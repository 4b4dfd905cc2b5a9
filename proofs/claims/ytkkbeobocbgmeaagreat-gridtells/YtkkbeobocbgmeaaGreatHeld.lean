/- A region that draws its order, all of whose operations but the last few only read: they may come in any order; the last few come behind them, one by one, and may write. One walk in the order of the text. A plain law on the model's orders; no conditions on a program.
   A region that draws its order: operations that only read, in every world that meets S, are taken first, in an order of one's own; what writes comes alone, and S is shown behind it until the operations from number m on are reached: these come last, in their order, and may write where S reads. A plain law on the model's orders; no conditions on a program.
   A region that draws its order: a property of one's own that each of its first m operations keeps, in whatever order they come; those from number m on come last, in their order. No conditions.
   A region that draws its order: its first m operations in whatever order, each of which yields a value that is good in the world behind it, whatever the others have yielded; what is good stays good; the others come last, in their order. Operations may lay blocks. No conditions. -/
import Derived.Deep.Quiet
import Derived.WalkKit
import Derived.Test.YtkkbeobocbgmeaaGreatJunk
import Derived.OrdersHeld
namespace Go.Proofs.YtkkbeobocbgmeaaGreat
open Go

section
variable {P : Program} {ops : Array Oper} {md : Region.Mode} {C : World → Prop}

/-- operation i is waited for by one up to number m -/
def tWanted (md : Region.Mode) (ops : Array Oper) (m i : Nat) : Bool := (List.range (m + 1)).any fun d => match ops[d]? with
  | some o => o.after.any fun e => Region.binds md e && e.on == i
  | none => false
def tLex (md : Region.Mode) (ops : Array Oper) (m : Nat) (Lm : Array Bool) : Nat → Nat → Array Bool → Bool
  | 0, _, listed => listed == Lm
  | f + 1, k, listed => (Region.ready md ops listed).contains k && Region.free md ops listed k && tWanted md ops m k && tLex md ops m Lm f (k + 1) (listed.setIfInBounds k true)
def tFrom (md : Region.Mode) (ops : Array Oper) : Nat → Nat → Array Bool → Bool
  | 0, _, listed => (Region.ready md ops listed).isEmpty
  | f + 1, k, listed => (Region.ready md ops listed == [k]) && tFrom md ops f (k + 1) (listed.setIfInBounds k true)
def tClosed (md : Region.Mode) (ops : Array Oper) (listed : Array Bool) : Bool := (List.range ops.size).all fun j => !listed.getD j false || match ops[j]? with
  | some o => o.after.all fun e => !Region.binds md e || listed.getD e.on false
  | none => true
def tailB (md : Region.Mode) (ops : Array Oper) (f t k : Nat) (listed Lm : Array Bool) : Bool :=
  Region.noSelect ops && tClosed md ops listed && tLex md ops (k + f) Lm f k listed && tFrom md ops (t + 1) (k + f) Lm && (List.range (k + f)).all fun d => Lm.getD d false

def RClosed (md : Region.Mode) (ops : Array Oper) (listed : Array Bool) : Prop := ∀ j o, ops[j]? = some o → listed.getD j false = true → ∀ e ∈ o.after, Region.binds md e = true → listed.getD e.on false = true
theorem rclosed_of {listed : Array Bool} (h : tClosed md ops listed = true) : RClosed md ops listed := by
  intro j o ho hl e he hb
  simp only [tClosed, List.all_eq_true, List.mem_range] at h
  have h1 := h j (Array.getElem?_eq_some_iff.1 ho).1
  simp only [hl, ho, Bool.not_true, Bool.false_or, Array.all_eq_true_iff_forall_mem] at h1
  have := h1 e he
  simpa [hb] using this
theorem getD_no {listed : Array Bool} {i : Nat} (h : listed.getD i true = false) : listed.getD i false = false := by
  rcases Nat.lt_or_ge i listed.size with h' | h'
  · simp [h'] at h ⊢; exact h
  · simp [Array.getElem?_eq_none h'] at h
theorem RClosed.list {listed : Array Bool} (h : RClosed md ops listed) {i : Nat} (hi : i ∈ Region.ready md ops listed) : RClosed md ops (listed.setIfInBounds i true) := by
  intro j o ho hl e he hb
  by_cases hij : i = j
  · subst hij
    obtain ⟨_, o', ho', hall⟩ := mem_ready.1 hi
    rw [ho] at ho'
    cases ho'
    exact getD_set_true (hall e he hb)
  · rw [getD_set_ne false hij] at hl
    exact getD_set_true (h j o ho hl e he hb)

/-- whatever order is picked until the list Lm is reached -/
def wpAnyT (P : Program) (md : Region.Mode) (ops : Array Oper) (C : World → Prop) (Lm : Array Bool) (R : Act → Prop) : Nat → Array Bool → Act → Prop
  | 0, listed, a => listed = Lm ∧ R a
  | fuel + 1, listed, a => Region.ready md ops listed ≠ [] ∧ ∀ i ∈ Region.ready md ops listed, qOp P ops C i (wpAnyT P md ops C Lm R fuel (listed.setIfInBounds i true)) a

theorem wpAny_of_T {Lm : Array Bool} {R : Act → Prop} {Q : Exit → Act → World → Prop} {t : Nat} (hR : ∀ a w, C w → R a → wpAny P md ops Q t Lm a w) : ∀ (fuel : Nat) (listed : Array Bool) (a : Act) (w : World), C w →
    wpAnyT P md ops C Lm R fuel listed a → wpAny P md ops Q (fuel + t) listed a w
  | 0, _, _, _, hw, h => by rw [Nat.zero_add, h.1]; exact hR _ _ hw h.2
  | fuel + 1, _, _, _, hw, h => by
    rw [show fuel + 1 + t = fuel + t + 1 by omega]
    exact ⟨fun h0 => absurd h0 h.1, fun i hi => wpOp_of_qOp hw (fun a' w' hw' => wpAny_of_T hR fuel _ a' w' hw') (h.2 i hi)⟩

theorem wpAnyT_first {Lm : Array Bool} {R : Act → Prop} {i m : Nat} {oi : Oper} {v : Value} (hi : ops[i]? = some oi) (hsel : ∀ (j : Nat) (o : Oper) cs b, ops[j]? = some o → o.op ≠ .select cs b)
    (hm : Region.ready md ops Lm = [m]) (hw : tWanted md ops m i = true) (hL : ∀ d, d < m → Lm.getD d false = true) :
    ∀ (fuel : Nat) (listed : Array Bool) (a : Act),
      (∀ j oj, ops[j]? = some oj → j ≠ i → listed.getD j true = false → (∀ e ∈ oj.after, Region.binds md e = true → e.on ≠ i) → oi.apart ops oj = true) →
      RClosed md ops listed → i ∈ Region.ready md ops listed → YieldsIn P ops C oi v a →
      wpAnyT P md ops C Lm R fuel (listed.setIfInBounds i true) (a.put oi.dst v) → wpAnyT P md ops C Lm R (fuel + 1) listed a := by
  intro fuel
  induction fuel with
  | zero =>
    intro listed a _ hcl hr hy H
    refine ⟨fun h => (by rw [h] at hr; cases hr), fun j hj => ?_⟩
    by_cases hji : j = i
    · subst hji; exact hy.qOp hi H
    · exfalso
      have h1 := ready_mono hj hji
      rw [H.1, hm, List.mem_singleton] at h1
      subst h1
      have hi0 := getD_no (mem_ready.1 hr).1
      simp only [tWanted, List.any_eq_true, List.mem_range] at hw
      obtain ⟨d, hd, hd2⟩ := hw
      cases hod : ops[d]? with
      | none => simp [hod] at hd2
      | some od =>
        simp only [hod] at hd2
        obtain ⟨e, he, hb⟩ := Array.any_eq_true'.1 hd2
        simp only [Bool.and_eq_true, beq_iff_eq] at hb
        obtain ⟨hb1, hb2⟩ := hb
        by_cases hdj : d = j
        · subst hdj
          obtain ⟨_, o', ho', hall⟩ := mem_ready.1 hj
          rw [hod] at ho'
          cases ho'
          have := hall e he hb1
          rw [hb2, hi0] at this
          cases this
        · by_cases hdi : d = i
          · subst hdi
            obtain ⟨_, o', ho', hall⟩ := mem_ready.1 hr
            rw [hod] at ho'
            cases ho'
            have := hall e he hb1
            rw [hb2, hi0] at this
            cases this
          · have h2 := hL d (by omega)
            rw [← H.1, getD_set_ne false (Ne.symm hdi)] at h2
            have := hcl d od hod h2 e he hb1
            rw [hb2, hi0] at this
            cases this
  | succ fuel ih =>
    intro listed a hfree hcl hr hy H
    refine ⟨fun h => (by rw [h] at hr; cases hr), fun j hj => ?_⟩
    by_cases hji : j = i
    · subst hji; exact hy.qOp hi H
    · have h1 := H.2 j (ready_mono hj hji)
      obtain ⟨hjun, oj, hoj, hall⟩ := mem_ready.1 hj
      have hnot : ∀ e ∈ oj.after, Region.binds md e = true → e.on ≠ i := fun e he hb heq => by
        have h1 := hall e he hb
        have h0 := getD_no (mem_ready.1 hr).1
        rw [heq, h0] at h1
        cases h1
      have h2 := qOp_put hoj (hfree j oj hoj hji hjun hnot) (fun cs b => hsel i oi cs b hi) (fun cs b => hsel j oj cs b hoj) hy h1
      have hfree' : ∀ k ok, ops[k]? = some ok → k ≠ i → (listed.setIfInBounds j true).getD k true = false →
          (∀ e ∈ ok.after, Region.binds md e = true → e.on ≠ i) → oi.apart ops ok = true := fun k ok hk hki hun hno => by
        refine hfree k ok hk hki ?_ hno
        by_cases hjk : j = k
        · subst hjk; exact hjun
        · rw [getD_set_ne true hjk] at hun; exact hun
      refine qOp_mono (fun a' h3 => ih (listed.setIfInBounds j true) a' hfree' (hcl.list hj) (ready_mono hr (Ne.symm hji)) h3.1 ?_) h2
      rw [Array.setIfInBounds_comm _ _ hji]
      exact h3.2

theorem wpAnyT_lex {Lm : Array Bool} {R : Act → Prop} {m : Nat} (hs : Region.noSelect ops = true) (hm : Region.ready md ops Lm = [m]) (hL : ∀ d, d < m → Lm.getD d false = true) :
    ∀ (l : List Oper) (k : Nat) (listed : Array Bool) (a : Act), (∀ j, j < l.length → l[j]? = ops[k + j]?) → RClosed md ops listed →
    tLex md ops m Lm l.length k listed = true → wpQuiet P ops C R l a → wpAnyT P md ops C Lm R l.length listed a
  | [], _, _, _, _, _, hB, h => ⟨by simpa [tLex] using hB, h⟩
  | o :: l, k, listed, a, hl, hcl, hB, h => by
    have h0 : ops[k]? = some o := by simpa using (hl 0 (by simp)).symm
    simp only [List.length_cons, tLex, Bool.and_eq_true] at hB
    obtain ⟨⟨⟨hr, hf⟩, hw⟩, hB'⟩ := hB
    have hst : qOp P ops C k (wpQuiet P ops C R l) a := by unfold qOp; simp only [h0]; exact h
    obtain ⟨v, hy, hK⟩ := yieldsIn_of_qOp h0 hst
    have hr' : k ∈ Region.ready md ops listed := by simpa using hr
    exact wpAnyT_first h0 (Region.noSelect_spec hs) hm hw hL l.length listed a (Region.free_spec h0 hf) hcl hr' hy
      (wpAnyT_lex hs hm hL l (k + 1) _ _ (fun j hj => by have := hl (j + 1) (by simp; omega); simpa [Nat.add_assoc, Nat.add_comm 1 j] using this) (hcl.list hr') hB' hK)

theorem wpAny_of_list {Q : Exit → Act → World → Prop} : ∀ (l : List Oper) (k : Nat) (listed : Array Bool) (a : Act) (w : World), (∀ j, j < l.length → l[j]? = ops[k + j]?) →
    tFrom md ops l.length k listed = true → wpList P ops Q l a w → wpAny P md ops Q l.length listed a w
  | [], _, _, _, _, _, hB, h => ⟨by simpa [tFrom] using hB, h⟩
  | o :: l, k, listed, a, w, hl, hB, h => by
    have h0 : ops[k]? = some o := by simpa using (hl 0 (by simp)).symm
    simp only [List.length_cons, tFrom, Bool.and_eq_true, beq_iff_eq] at hB
    refine wpAny_all hB.1 (by simp) fun i hi => ?_
    rw [List.mem_singleton] at hi
    subst hi
    have ih := fun a' w' => wpAny_of_list (Q := Q) l (i + 1) (listed.setIfInBounds i true) a' w' (fun j hj => by have := hl (j + 1) (by simp; omega); simpa [Nat.add_assoc, Nat.add_comm 1 j] using this) hB.2
    have hst : wpOp P ops Q i (wpList P ops Q l) a w := by unfold wpOp; simp only [h0]; exact h
    exact wpOp_mono ih hst

/-- from operation k on: those of 'pre' only read; the one behind them, o, and those of 'tl' come last, in their order -/
theorem wpAny_tail {Q : Exit → Act → World → Prop} (pre tl : List Oper) (o : Oper) (k : Nat) (listed Lm : Array Bool) (hl : ∀ j, j < (pre ++ o :: tl).length → (pre ++ o :: tl)[j]? = ops[k + j]?)
    (hB : tailB md ops pre.length tl.length k listed Lm = true) {a : Act} {w : World} (hC : C w)
    (h : wpQuiet P ops C (fun a' => ∀ w', C w' → wpList P ops Q (o :: tl) a' w') pre a) : wpAny P md ops Q (pre.length + (tl.length + 1)) listed a w := by
  simp only [tailB, Bool.and_eq_true] at hB
  obtain ⟨⟨⟨⟨hs, hcl⟩, hlex⟩, htl⟩, hL⟩ := hB
  have hm : Region.ready md ops Lm = [k + pre.length] := by
    simp only [tFrom, Bool.and_eq_true, beq_iff_eq] at htl
    exact htl.1
  refine wpAny_of_T (C := C) (R := fun a' => ∀ w', C w' → wpList P ops Q (o :: tl) a' w') (fun a' w' hw' hR => ?_) _ _ _ _ hC
    (wpAnyT_lex hs hm (fun d hd => by simpa using List.all_eq_true.1 hL d (List.mem_range.2 hd)) pre k listed a (fun j hj => ?_) (rclosed_of hcl) hlex h)
  · exact wpAny_of_list (o :: tl) (k + pre.length) Lm a' w' (fun j hj => by
      have := hl (pre.length + j) (by simp at hj ⊢; omega)
      rw [List.getElem?_append_right (by omega)] at this
      rw [Nat.add_assoc, ← this]
      congr 1
      omega) htl (hR w' hw')
  · have := hl j (by simp; omega)
    rw [List.getElem?_append_left hj] at this
    exact this

end

/-- a region that draws: the first f operations only read (their callees may lay blocks of their own); the others come last, in their order -/
theorem region_tail {id : Nat} {Q : Exit → Act → World → Prop} {a : Act} {w : World} {l : List Oper} (f : Nat) (Lm : Array Bool) (hm : Tryz.prog.follows .mixedOrders = true) (hf : f < l.length)
    (hB : tailB .any l.toArray f (l.length - f - 1) 0 (Array.replicate l.length false) Lm = true)
    (h : wpQuiet Tryz.prog l.toArray (fun w' => ∃ X : Junk, w' = junk w X) (fun a' => ∀ w', (∃ X : Junk, w' = junk w X) → wpList Tryz.prog l.toArray Q (l.drop f) a' w') (l.take f) a) : (Code.region id l.toArray true).wp Tryz.prog Q a w := by
  refine wp_region_any hm ?_
  obtain ⟨o, ho⟩ : ∃ o, l[f]? = some o := ⟨_, List.getElem?_eq_getElem hf⟩
  have hd : l.drop f = o :: l.drop (f + 1) := by
    rw [List.drop_eq_getElem_cons hf]
    rw [List.getElem?_eq_getElem hf] at ho
    cases ho
    rfl
  have hl : l.take f ++ o :: l.drop (f + 1) = l := by rw [← hd, List.take_append_drop]
  have h1 : (l.take f).length = f := by simp; omega
  have h2 : (l.drop (f + 1)).length = l.length - f - 1 := by simp; omega
  rw [hd] at h
  have := wpAny_tail (ops := l.toArray) (md := .any) (P := Tryz.prog) (Q := Q) (C := fun w' => ∃ X : Junk, w' = junk w X) (l.take f) (l.drop (f + 1)) o 0 (Array.replicate l.length false) Lm (fun j _ => by rw [hl]; simp) (by rw [h1, h2]; exact hB) (Jk.refl w).drew h
  rw [h1, h2] at this
  have e : f + (l.length - f - 1 + 1) = l.toArray.size := by simp; omega
  rw [e] at this
  simpa using this
/-- the same where the first operation yields in whatever world and is taken first -/
theorem region_tail1 {id : Nat} {Q : Exit → Act → World → Prop} {a : Act} {w : World} {o0 : Oper} {l : List Oper} (v : Value) (f : Nat) (Lm : Array Bool) (hm : Tryz.prog.follows .mixedOrders = true) (hf : f < l.length)
    (hs : Region.noSelect (o0 :: l).toArray = true) (hfr : Region.free .any (o0 :: l).toArray (Array.replicate (l.length + 1) false) 0 = true) (hr : (Region.ready .any (o0 :: l).toArray (Array.replicate (l.length + 1) false)).contains 0 = true)
    (hQ : ∀ c a w, Q (.panic c) (a.put o0.dst v) w → Q (.panic c) a w) (hy : Yields Tryz.prog (o0 :: l).toArray o0 v a)
    (hB : tailB .any (o0 :: l).toArray f (l.length - f - 1) 1 ((Array.replicate (l.length + 1) false).setIfInBounds 0 true) Lm = true)
    (h : wpQuiet Tryz.prog (o0 :: l).toArray (fun w' => ∃ X : Junk, w' = junk w X) (fun a' => ∀ w', (∃ X : Junk, w' = junk w X) → wpList Tryz.prog (o0 :: l).toArray Q (l.drop f) a' w') (l.take f) (a.put o0.dst v)) : (Code.region id (o0 :: l).toArray true).wp Tryz.prog Q a w := by
  refine wp_region_any hm ?_
  obtain ⟨o, ho⟩ : ∃ o, l[f]? = some o := ⟨_, List.getElem?_eq_getElem hf⟩
  have hd : l.drop f = o :: l.drop (f + 1) := by
    rw [List.drop_eq_getElem_cons hf]
    rw [List.getElem?_eq_getElem hf] at ho
    cases ho
    rfl
  have hl : l.take f ++ o :: l.drop (f + 1) = l := by rw [← hd, List.take_append_drop]
  have h1 : (l.take f).length = f := by simp; omega
  have h2 : (l.drop (f + 1)).length = l.length - f - 1 := by simp; omega
  rw [hd] at h
  have := wpAny_tail (ops := (o0 :: l).toArray) (md := .any) (P := Tryz.prog) (Q := Q) (C := fun w' => ∃ X : Junk, w' = junk w X) (l.take f) (l.drop (f + 1)) o 1 ((Array.replicate (l.length + 1) false).setIfInBounds 0 true) Lm (fun j _ => by rw [hl]; simp [Nat.add_comm 1 j]) (by rw [h1, h2]; exact hB) (Jk.refl w).drew h
  rw [h1, h2] at this
  have e : f + (l.length - f - 1 + 1) = l.length := by omega
  rw [e] at this
  have e2 : (o0 :: l).toArray.size = l.length + 1 := by simp
  rw [e2]
  exact wpAny_take (i := 0) (v := v) (by simp) hs hfr hr hQ hy this
theorem region_tail2 {id : Nat} {Q : Exit → Act → World → Prop} {a : Act} {w : World} {o0 : Oper} {l : List Oper} (v : Value) (f : Nat) (Lm : Array Bool) (hm : Tryz.prog.follows .mixedOrders = true) (hf : f < l.length)
    (hs : Region.noSelect (o0 :: l).toArray = true) (hfr : Region.free .any (o0 :: l).toArray (Array.replicate (l.length + 1) false) 0 = true) (hr : (Region.ready .any (o0 :: l).toArray (Array.replicate (l.length + 1) false)).contains 0 = true)
    (hQ : ∀ c a w, Q (.panic c) (a.put o0.dst v) w → Q (.panic c) a w) (hw : Region.wanted o0 (yielded (o0 :: l).toArray a.tmps) = true) (hy : ∀ w, (execOp a.eval o0).run Tryz.prog w = .ok (.value v) w)
    (hB : tailB .any (o0 :: l).toArray f (l.length - f - 1) 1 ((Array.replicate (l.length + 1) false).setIfInBounds 0 true) Lm = true)
    (h : wpQuiet Tryz.prog (o0 :: l).toArray (fun w' => ∃ X : Junk, w' = junk w X) (fun a' => ∀ w', (∃ X : Junk, w' = junk w X) → wpList Tryz.prog (o0 :: l).toArray Q (l.drop f) a' w') (o0 :: l.take f) a) : (Code.region id (o0 :: l).toArray true).wp Tryz.prog Q a w := by
  refine region_tail1 v f Lm hm hf hs hfr hr hQ (.inl ⟨hw, hy⟩) hB ?_
  simp only [wpQuiet, hw, if_true] at h
  obtain ⟨u, h1, h2⟩ := h
  have h3 := h1 w (Jk.refl w)
  unfold Oper.quietAt at h3
  rw [hy w] at h3
  rw [← h3.2] at h2
  exact h2

end Go.Proofs.YtkkbeobocbgmeaaGreat

namespace Go.Proofs.YtkkbeobocbgmeaaGreat
open Go

section
variable {P : Program} {ops : Array Oper} {md : Region.Mode} {Q : Exit → Act → World → Prop} {S : World → Prop}

/-- whatever order is picked until the list Lm is reached; S holds behind each operation -/
def wpHT (P : Program) (md : Region.Mode) (ops : Array Oper) (Q : Exit → Act → World → Prop) (S : World → Prop) (Lm : Array Bool) (R : Act → World → Prop) : Nat → Array Bool → Act → World → Prop
  | 0, listed, a, w => listed = Lm ∧ R a w
  | fuel + 1, listed, a, w => Region.ready md ops listed ≠ [] ∧ ∀ i ∈ Region.ready md ops listed, wpOp P ops Q i (fun a' w' => S w' ∧ wpHT P md ops Q S Lm R fuel (listed.setIfInBounds i true) a' w') a w

theorem wpAny_of_HT {Lm : Array Bool} {R : Act → World → Prop} {t : Nat} (hR : ∀ a w, R a w → wpAny P md ops Q t Lm a w) : ∀ (fuel : Nat) (listed : Array Bool) (a : Act) (w : World),
    wpHT P md ops Q S Lm R fuel listed a w → wpAny P md ops Q (fuel + t) listed a w
  | 0, _, _, _, h => by rw [Nat.zero_add, h.1]; exact hR _ _ h.2
  | fuel + 1, _, _, _, h => by
    rw [show fuel + 1 + t = fuel + t + 1 by omega]
    exact ⟨fun h0 => absurd h0 h.1, fun i hi => wpOp_mono (fun a' w' hh => wpAny_of_HT hR fuel _ a' w' hh.2) (h.2 i hi)⟩

theorem late_no {Lm listed : Array Bool} {i j m : Nat} (hm : Region.ready md ops Lm = [m]) (hw : tWanted md ops m i = true) (hL : ∀ d, d < m → Lm.getD d false = true) (hcl : RClosed md ops listed)
    (hr : i ∈ Region.ready md ops listed) (hj : j ∈ Region.ready md ops listed) (hji : j ≠ i) (e : listed.setIfInBounds i true = Lm) : False := by
  have h1 := ready_mono hj hji
  rw [e, hm, List.mem_singleton] at h1
  subst h1
  have hi0 := getD_no (mem_ready.1 hr).1
  simp only [tWanted, List.any_eq_true, List.mem_range] at hw
  obtain ⟨d, hd, hd2⟩ := hw
  cases hod : ops[d]? with
  | none => simp [hod] at hd2
  | some od =>
    simp only [hod] at hd2
    obtain ⟨e1, he, hb⟩ := Array.any_eq_true'.1 hd2
    simp only [Bool.and_eq_true, beq_iff_eq] at hb
    obtain ⟨hb1, hb2⟩ := hb
    have hlate : listed.getD d false = true ∨ d = j ∨ d = i := by
      by_cases h3 : d = j
      · exact .inr (.inl h3)
      · by_cases h4 : d = i
        · exact .inr (.inr h4)
        · left
          have := hL d (by omega)
          rwa [← e, getD_set_ne false (Ne.symm h4)] at this
    have key : listed.getD e1.on false = true := by
      rcases hlate with h | h | h
      · exact hcl d od hod h e1 he hb1
      · subst h
        obtain ⟨_, o', ho', hall⟩ := mem_ready.1 hj
        rw [hod] at ho'
        cases ho'
        exact hall e1 he hb1
      · subst h
        obtain ⟨_, o', ho', hall⟩ := mem_ready.1 hr
        rw [hod] at ho'
        cases ho'
        exact hall e1 he hb1
    rw [hb2, hi0] at key
    cases key

theorem wpHT_first {Lm : Array Bool} {R : Act → World → Prop} {i m : Nat} {oi : Oper} {v : Value} (hi : ops[i]? = some oi) (hsel : ∀ (j : Nat) (o : Oper) cs b, ops[j]? = some o → o.op ≠ .select cs b)
    (hQ : ∀ c a w, Q (.panic c) (a.put oi.dst v) w → Q (.panic c) a w) (hm : Region.ready md ops Lm = [m]) (hw : tWanted md ops m i = true) (hL : ∀ d, d < m → Lm.getD d false = true) :
    ∀ (fuel : Nat) (listed : Array Bool) (a : Act) (w : World),
      (∀ j oj, ops[j]? = some oj → j ≠ i → listed.getD j true = false → (∀ e ∈ oj.after, Region.binds md e = true → e.on ≠ i) → oi.apart ops oj = true) →
      RClosed md ops listed → i ∈ Region.ready md ops listed → YieldsIf P ops S oi v a → S w →
      wpHT P md ops Q S Lm R fuel (listed.setIfInBounds i true) (a.put oi.dst v) w → wpHT P md ops Q S Lm R (fuel + 1) listed a w := by
  intro fuel
  induction fuel with
  | zero =>
    intro listed a w _ hcl hr hy hS H
    refine ⟨fun h => (by rw [h] at hr; cases hr), fun j hj => ?_⟩
    by_cases hji : j = i
    · subst hji; exact hy.wpOp hi hS ⟨hS, H⟩
    · exact (late_no hm hw hL hcl hr hj hji H.1).elim
  | succ fuel ih =>
    intro listed a w hfree hcl hr hy hS H
    refine ⟨fun h => (by rw [h] at hr; cases hr), fun j hj => ?_⟩
    by_cases hji : j = i
    · subst hji; exact hy.wpOp hi hS ⟨hS, H⟩
    · have h1 := H.2 j (ready_mono hj hji)
      obtain ⟨hjun, oj, hoj, hall⟩ := mem_ready.1 hj
      have hnot : ∀ e ∈ oj.after, Region.binds md e = true → e.on ≠ i := fun e he hb heq => by
        have h1 := hall e he hb
        rw [heq, getD_no (mem_ready.1 hr).1] at h1
        cases h1
      have h2 := wpOp_putIf hoj (hfree j oj hoj hji hjun hnot) (fun cs b => hsel i oi cs b hi) (fun cs b => hsel j oj cs b hoj) hQ hy h1
      refine wpOp_mono (fun a' w' h3 => ⟨h3.2.1, ih (listed.setIfInBounds j true) a' w' (fun k ok hk hki hun hno => hfree k ok hk hki ?_ hno) (hcl.list hj) (ready_mono hr (Ne.symm hji)) h3.1 h3.2.1 ?_⟩) h2
      · by_cases hjk : j = k
        · subst hjk; exact hjun
        · rw [getD_set_ne true hjk] at hun; exact hun
      · rw [Array.setIfInBounds_comm _ _ hji]
        exact h3.2.2

/-- the order is: those of the list (true: it only reads and is taken first; false: it is the only one that may come) -/
def ordB (md : Region.Mode) (ops : Array Oper) (m : Nat) (Lm : Array Bool) : List (Nat × Bool) → Array Bool → Bool
  | [], listed => listed == Lm
  | (i, true) :: l, listed => (Region.ready md ops listed).contains i && Region.free md ops listed i && tWanted md ops m i && tClosed md ops listed && ordB md ops m Lm l (listed.setIfInBounds i true)
  | (i, false) :: l, listed => (Region.ready md ops listed == [i]) && ordB md ops m Lm l (listed.setIfInBounds i true)
/-- the walk in that order -/
def wpOrd (P : Program) (ops : Array Oper) (Q : Exit → Act → World → Prop) (S : World → Prop) (R : Act → World → Prop) : List (Nat × Bool) → Act → World → Prop
  | [], a, w => R a w
  | (i, true) :: l, a, w => S w ∧ ∃ oi v, ops[i]? = some oi ∧ YieldsIf P ops S oi v a ∧ wpOrd P ops Q S R l (a.put oi.dst v) w
  | (i, false) :: l, a, w => wpOp P ops Q i (fun a' w' => S w' ∧ wpOrd P ops Q S R l a' w') a w
theorem wpHT_ord {Lm : Array Bool} {R : Act → World → Prop} {m : Nat} (hs : Region.noSelect ops = true) (hQ : ∀ c a d v w, Q (.panic c) (Act.put a d v) w → Q (.panic c) a w) (hm : Region.ready md ops Lm = [m]) (hL : ∀ d, d < m → Lm.getD d false = true) :
    ∀ (l : List (Nat × Bool)) (listed : Array Bool) (a : Act) (w : World), ordB md ops m Lm l listed = true → wpOrd P ops Q S R l a w → wpHT P md ops Q S Lm R l.length listed a w
  | [], listed, a, w, hB, h => ⟨by simpa [ordB] using hB, h⟩
  | (i, true) :: l, listed, a, w, hB, h => by
    simp only [ordB, Bool.and_eq_true] at hB
    obtain ⟨⟨⟨⟨hr, hf⟩, hw⟩, hc⟩, hB'⟩ := hB
    obtain ⟨hS, oi, v, hi, hy, hK⟩ := h
    exact wpHT_first hi (Region.noSelect_spec hs) (fun c a w => hQ c a _ _ w) hm hw hL l.length listed a w (Region.free_spec hi hf) (rclosed_of hc) (by simpa using hr) hy hS (wpHT_ord hs hQ hm hL l _ _ _ hB' hK)
  | (i, false) :: l, listed, a, w, hB, h => by
    simp only [ordB, Bool.and_eq_true, beq_iff_eq] at hB
    refine ⟨by rw [hB.1]; simp, fun j hj => ?_⟩
    rw [hB.1, List.mem_singleton] at hj
    subst hj
    exact wpOp_mono (fun a' w' hh => ⟨hh.1, wpHT_ord hs hQ hm hL l _ a' w' hB.2 hh.2⟩) h
/-- all the side conditions -/
def heldB (md : Region.Mode) (ops : Array Oper) (m t : Nat) (l : List (Nat × Bool)) (Lm : Array Bool) : Bool :=
  Region.noSelect ops && (l.length == m) && ordB md ops m Lm l (Array.replicate ops.size false) && tFrom md ops t m Lm && (Region.ready md ops Lm == [m]) && ((List.range m).all fun d => Lm.getD d false) && (m + t == ops.size)
end

/-- a region that draws: the operations of 'l' in that order, then those from number m on -/
theorem region_held {id : Nat} {Q : Exit → Act → World → Prop} {a : Act} {w : World} {ol : List Oper} (S : World → Prop) (m : Nat) (l : List (Nat × Bool)) (Lm : Array Bool) (hm : Tryz.prog.follows .mixedOrders = true)
    (hB : heldB .any ol.toArray m (ol.length - m) l Lm = true) (hQ : ∀ c a d v w, Q (.panic c) (Act.put a d v) w → Q (.panic c) a w)
    (h : wpOrd Tryz.prog ol.toArray Q S (wpList Tryz.prog ol.toArray Q (ol.drop m)) l a w.drew) : (Code.region id ol.toArray true).wp Tryz.prog Q a w := by
  simp only [heldB, Bool.and_eq_true, beq_iff_eq] at hB
  obtain ⟨⟨⟨⟨⟨⟨hs, hl⟩, hB1⟩, hB2⟩, hm1⟩, hL⟩, hsz⟩ := hB
  refine wp_region_any hm ?_
  have hlen : (ol.drop m).length = ol.length - m := by simp
  have h1 := wpHT_ord (md := .any) (ops := ol.toArray) (S := S) hs hQ hm1 (fun d hd => by simpa using List.all_eq_true.1 hL d (List.mem_range.2 hd)) l _ a w.drew hB1 h
  have h2 := wpAny_of_HT (t := ol.length - m) (fun a w hR => by
    have := wpAny_of_list (P := Tryz.prog) (ops := ol.toArray) (md := .any) (Q := Q) (ol.drop m) m Lm a w (fun j hj => by simp) (by rw [hlen]; exact hB2) hR
    rwa [hlen] at this) _ _ _ _ h1
  rw [hl, hsz] at h2
  exact h2
/-- it yields a value, or nothing comes of it: it is no call, it defers nothing -/
def plainOp : Op → Bool
  | .move _ | .assign _ | .build _ _ | .load _ _ | .binOp _ _ _ _ _ | .unOp _ _ _ | .convert _ _ _ | .fieldAddr _ _ _ | .field _ _ _ | .indexAddr _ _ _ | .index _ _ _ | .slice _ _ _ _ _ => true
  | _ => false
theorem value_of {P : Program} {s : Sem Value} {w w' : World} {n : Next} (h : (do pure (Next.value (← s)) : Sem Next).run P w = .ok n w') : ∃ u, n = .value u := by
  rw [Sem.run_bind] at h
  cases hs : s.run P w with
  | ok x w1 =>
    rw [hs] at h
    simp only [Result.andThen, Sem.run_pure] at h
    cases h
    exact ⟨_, rfl⟩
  | halt x w1 =>
    rw [hs] at h
    simp [Result.andThen] at h
theorem plain_value {P : Program} {r : Operand → Value} {o : Oper} {w w' : World} {n : Next} (hp : plainOp o.op = true) (h : (execOp r o).run P w = .ok n w') : ∃ u, n = .value u := by
  unfold execOp at h
  cases ho : o.op <;> rw [ho] at hp h <;> first | (simp [plainOp] at hp; done) | exact value_of h | (simp only [Sem.run_pure] at h; cases h; exact ⟨_, rfl⟩)
theorem yieldsIf_of_in {P : Program} {ops : Array Oper} {S : World → Prop} {o : Oper} {v : Value} {a : Act} (hp : plainOp o.op = true) (h : YieldsIn P ops S o v a) : YieldsIf P ops S o v a := by
  rcases h with ⟨hw, h⟩ | h
  · refine .inl ⟨hw, fun w hS => ?_⟩
    have h1 := h w hS
    unfold Oper.quietAt at h1
    cases hr : (execOp a.eval o).run P w with
    | ok n w' =>
      obtain ⟨u, rfl⟩ := plain_value hp hr
      rw [hr] at h1
      obtain ⟨rfl, rfl⟩ := h1
      rfl
    | halt x w' =>
      rw [hr] at h1
      exact h1.elim
  · exact .inr h
def opersAt (ol : List Oper) : List Nat → List Oper
  | [] => []
  | i :: l => match ol[i]? with
    | some o => o :: opersAt ol l
    | none => opersAt ol l
/-- the operations of the list come one by one, alone; the class holds behind each -/
def wpAlone (P : Program) (Q : Exit → Act → World → Prop) (S : World → Prop) (R : Act → World → Prop) : List Oper → Act → World → Prop
  | [], a, w => R a w
  | o :: l, a, w => ∀ K : Act → World → Prop, (∀ a' w', S w' → wpAlone P Q S R l a' w' → K a' w') → o.wp P a w K Q
def plainB (ol : List Oper) (l1 l2 : List Nat) : Bool := (l1.all fun i => match ol[i]? with | some o => plainOp o.op | none => false) && (l2.all fun i => match ol[i]? with | some o => o.guard.isNone | none => false)
theorem ord_alone {P : Program} {ol : List Oper} {Q : Exit → Act → World → Prop} {S : World → Prop} {R : Act → World → Prop} : ∀ (l : List Nat) (a : Act) (w : World), (l.all fun i => match ol[i]? with | some o => o.guard.isNone | none => false) = true →
    wpAlone P Q S R (opersAt ol l) a w → wpOrd P ol.toArray Q S R (l.map fun i => (i, false)) a w
  | [], _, _, _, h => h
  | i :: l, a, w, hB, h => by
    simp only [List.all_cons, Bool.and_eq_true] at hB
    cases ho : ol[i]? with
    | none => simp [ho] at hB
    | some o =>
      simp only [ho] at hB
      have hw : Region.wanted o (yielded ol.toArray a.tmps) = true := by
        cases hg : o.guard with
        | none => simp [Region.wanted, hg]
        | some x => rw [hg] at hB; simp at hB
      simp only [opersAt, ho, wpAlone] at h
      have hi : ol.toArray[i]? = some o := by simpa using ho
      simp only [List.map_cons, wpOrd, wpOp, hi, hw, if_true]
      exact .inl (h _ fun a' w' hS hh => ⟨hS, ord_alone l a' w' hB.2 hh⟩)
theorem ord_quiet {P : Program} {ol : List Oper} {Q : Exit → Act → World → Prop} {S : World → Prop} {R : Act → World → Prop} {l2 : List (Nat × Bool)} {w : World} (hS : S w) : ∀ (l : List Nat) (a : Act), (l.all fun i => match ol[i]? with | some o => plainOp o.op | none => false) = true →
    wpQuiet P ol.toArray S (fun a' => wpOrd P ol.toArray Q S R l2 a' w) (opersAt ol l) a → wpOrd P ol.toArray Q S R ((l.map fun i => (i, true)) ++ l2) a w
  | [], _, _, h => h
  | i :: l, a, hB, h => by
    simp only [List.all_cons, Bool.and_eq_true] at hB
    cases ho : ol[i]? with
    | none => simp [ho] at hB
    | some o =>
      simp only [ho] at hB
      have hi : ol.toArray[i]? = some o := by simpa using ho
      simp only [opersAt, ho] at h
      obtain ⟨v, hy, hK⟩ := yieldsIn_of_qOp (i := i) (K := wpQuiet P ol.toArray S (fun a' => wpOrd P ol.toArray Q S R l2 a' w) (opersAt ol l)) hi (by unfold qOp; simp only [hi]; exact h)
      exact ⟨hS, o, v, hi, yieldsIf_of_in hB.1 hy, ord_quiet hS l _ hB.2 hK⟩
/-- a region that draws: those of l1 only read and are taken first (none is a call); those of l2 come one by one behind them and leave the old blocks alone; those from number m on come last -/
theorem region_mid {id : Nat} {Q : Exit → Act → World → Prop} {a : Act} {w : World} {ol : List Oper} (m : Nat) (l1 l2 : List Nat) (Lm : Array Bool) (hm : Tryz.prog.follows .mixedOrders = true)
    (hB : (plainB ol l1 l2 && heldB .any ol.toArray m (ol.length - m) ((l1.map fun i => (i, true)) ++ (l2.map fun i => (i, false))) Lm) = true) (hQ : ∀ c a d v w, Q (.panic c) (Act.put a d v) w → Q (.panic c) a w)
    (h : wpQuiet Tryz.prog ol.toArray (fun w' => ∃ X : Junk, w' = junk w X) (fun a' => wpAlone Tryz.prog Q (fun w' => ∃ X : Junk, w' = junk w X) (wpList Tryz.prog ol.toArray Q (ol.drop m)) (opersAt ol l2) a' w.drew) (opersAt ol l1) a) : (Code.region id ol.toArray true).wp Tryz.prog Q a w := by
  simp only [Bool.and_eq_true, plainB] at hB
  refine region_held (fun w' => ∃ X : Junk, w' = junk w X) m _ Lm hm hB.2 hQ (ord_quiet (Jk.refl w).drew l1 a hB.1.1 ?_)
  have mono : ∀ (l : List Oper) (a : Act), wpQuiet Tryz.prog ol.toArray (fun w' => ∃ X : Junk, w' = junk w X) (fun a' => wpAlone Tryz.prog Q (fun w' => ∃ X : Junk, w' = junk w X) (wpList Tryz.prog ol.toArray Q (ol.drop m)) (opersAt ol l2) a' w.drew) l a →
      wpQuiet Tryz.prog ol.toArray (fun w' => ∃ X : Junk, w' = junk w X) (fun a' => wpOrd Tryz.prog ol.toArray Q (fun w' => ∃ X : Junk, w' = junk w X) (wpList Tryz.prog ol.toArray Q (ol.drop m)) (l2.map fun i => (i, false)) a' w.drew) l a := by
    intro l
    induction l with
    | nil => intro a h; exact ord_alone l2 a _ hB.1.2 h
    | cons o l ih =>
      intro a h
      simp only [wpQuiet] at h ⊢
      split
      · rename_i hw
        simp only [hw, if_true] at h
        exact Oper.quiet_mono (fun a h => ih a h) h
      · rename_i hw
        simp only [hw] at h
        exact ih _ h
  exact mono _ a h
/-- the same, for a class of worlds of one's own: a region that draws: those of l1 only read and are taken first (none is a call); those of l2 come one by one behind them and leave the old blocks alone; those from number m on come last -/
theorem region_midS {T : Type} (g : T → World) {id : Nat} {Q : Exit → Act → World → Prop} {a : Act} {w : World} {ol : List Oper} (m : Nat) (l1 l2 : List Nat) (Lm : Array Bool) (hm : Tryz.prog.follows .mixedOrders = true)
    (hB : (plainB ol l1 l2 && heldB .any ol.toArray m (ol.length - m) ((l1.map fun i => (i, true)) ++ (l2.map fun i => (i, false))) Lm) = true) (hQ : ∀ c a d v w, Q (.panic c) (Act.put a d v) w → Q (.panic c) a w)
    (hS : ∃ X : T, w.drew = g X) (h : wpQuiet Tryz.prog ol.toArray (fun w' => ∃ X : T, w' = g X) (fun a' => wpAlone Tryz.prog Q (fun w' => ∃ X : T, w' = g X) (wpList Tryz.prog ol.toArray Q (ol.drop m)) (opersAt ol l2) a' w.drew) (opersAt ol l1) a) : (Code.region id ol.toArray true).wp Tryz.prog Q a w := by
  simp only [Bool.and_eq_true, plainB] at hB
  refine region_held (fun w' => ∃ X : T, w' = g X) m _ Lm hm hB.2 hQ (ord_quiet hS l1 a hB.1.1 ?_)
  have mono : ∀ (l : List Oper) (a : Act), wpQuiet Tryz.prog ol.toArray (fun w' => ∃ X : T, w' = g X) (fun a' => wpAlone Tryz.prog Q (fun w' => ∃ X : T, w' = g X) (wpList Tryz.prog ol.toArray Q (ol.drop m)) (opersAt ol l2) a' w.drew) l a →
      wpQuiet Tryz.prog ol.toArray (fun w' => ∃ X : T, w' = g X) (fun a' => wpOrd Tryz.prog ol.toArray Q (fun w' => ∃ X : T, w' = g X) (wpList Tryz.prog ol.toArray Q (ol.drop m)) (l2.map fun i => (i, false)) a' w.drew) l a := by
    intro l
    induction l with
    | nil => intro a h; exact ord_alone l2 a _ hB.1.2 h
    | cons o l ih =>
      intro a h
      simp only [wpQuiet] at h ⊢
      split
      · rename_i hw
        simp only [hw, if_true] at h
        exact Oper.quiet_mono (fun a h => ih a h) h
      · rename_i hw
        simp only [hw] at h
        exact ih _ h
  exact mono _ a h

end Go.Proofs.YtkkbeobocbgmeaaGreat

namespace Go.Proofs.YtkkbeobocbgmeaaGreat
open Go

def bools : Nat → List (List Bool)
  | 0 => [[]]
  | n + 1 => (bools n).flatMap fun l => [false :: l, true :: l]
theorem mem_bools : ∀ l : List Bool, l ∈ bools l.length
  | [] => by simp [bools]
  | b :: l => by
    simp only [List.length_cons, bools, List.mem_flatMap]
    exact ⟨l, mem_bools l, by cases b <;> simp⟩
def listOf (l : List Bool) (t : Nat) : Array Bool := (l ++ List.replicate t false).toArray
def readyB (md : Region.Mode) (ops : Array Oper) (m t : Nat) : Bool :=
  (bools m).all fun l => l.all id || !(tClosed md ops (listOf l t)) || (!(Region.ready md ops (listOf l t)).isEmpty && (Region.ready md ops (listOf l t)).all fun i => decide (i < m) && match ops[i]? with | some o => o.guard.isNone | none => false)
/-- operation i waits for operation d -/
def depB (md : Region.Mode) (ops : Array Oper) (i d : Nat) : Bool := match ops[i]? with | some o => o.after.any fun e => Region.binds md e && e.on == d | none => false

theorem listOf_getD {l : List Bool} {t k : Nat} (d : Bool) (h : k < l.length) : (listOf l t).getD k d = l.getD k d := by
  unfold listOf
  simp [h, List.getElem?_append_left]
theorem listOf_false {l : List Bool} {t k : Nat} : (listOf l t).getD k false = l.getD k false := by
  by_cases h : k < l.length
  · exact listOf_getD false h
  · unfold listOf
    have e : l.getD k false = false := by simp [List.getD, List.getElem?_eq_none (Nat.le_of_not_lt h)]
    rw [e]
    by_cases h2 : k - l.length < t
    · simp [List.getElem?_append_right (Nat.le_of_not_lt h), h2]
    · simp [List.getElem?_append_right (Nat.le_of_not_lt h), h2]
theorem listOf_set {l : List Bool} {t i : Nat} (h : i < l.length) : (listOf l t).setIfInBounds i true = listOf (l.set i true) t := by
  unfold listOf
  rw [List.setIfInBounds_toArray, List.set_append_left _ _ h]
theorem count_set : ∀ (l : List Bool) (i : Nat), l[i]? = some false → (l.set i true).countP (! ·) + 1 = l.countP (! ·)
  | [], i, h => by simp at h
  | b :: l, 0, h => by
    simp at h
    subst h
    simp
  | b :: l, i + 1, h => by
    have := count_set l i (by simpa using h)
    simp only [List.set_cons_succ, List.countP_cons]
    omega

theorem tclosed_of {md : Region.Mode} {ops : Array Oper} {listed : Array Bool} (h : RClosed md ops listed) : tClosed md ops listed = true := by
  simp only [tClosed, List.all_eq_true, List.mem_range]
  intro j hj
  cases hl : listed.getD j false
  · simp
  · rw [Array.getElem?_eq_getElem hj]
    simp only [Bool.not_true, Bool.false_or, Array.all_eq_true_iff_forall_mem]
    intro e he
    cases hb : Region.binds md e
    · simp
    · simpa using h j _ (Array.getElem?_eq_getElem hj) hl e he hb
theorem wpAny_inv {P : Program} {md : Region.Mode} {ops : Array Oper} {Q : Exit → Act → World → Prop} (m t : Nat) (I : (Nat → Bool) → Act → World → Prop) (hB : readyB md ops m t = true)
    (hstep : ∀ (i : Nat) (o : Oper), i < m → ops[i]? = some o → ∀ (L : Nat → Bool) (a : Act) (w : World), I L a w → (∀ d, depB md ops i d = true → L d = true) → L i = false →
      ∀ K : Act → World → Prop, (∀ a' w', I (fun k => if k = i then true else L k) a' w' → K a' w') → o.wp P a w K Q)
    (hend : ∀ a w, I (fun k => decide (k < m)) a w → wpAny P md ops Q t (listOf (List.replicate m true) t) a w) :
    ∀ (fuel : Nat) (l : List Bool), l.length = m → l.countP (! ·) = fuel → RClosed md ops (listOf l t) → ∀ a w, I (fun k => l.getD k false) a w → wpAny P md ops Q (fuel + t) (listOf l t) a w
  | 0, l, hl, hc, _, a, w, h => by
    have e : l = List.replicate m true := by
      rw [List.eq_replicate_iff]
      refine ⟨hl, fun b hb => ?_⟩
      have := List.countP_eq_zero.1 hc b hb
      simpa using this
    subst e
    rw [Nat.zero_add]
    refine hend a w ?_
    have e2 : (fun k => (List.replicate m true).getD k false) = fun k => decide (k < m) := by
      funext k
      by_cases hk : k < m <;> simp [hk]
    rwa [e2] at h
  | fuel + 1, l, hl, hc, hcl, a, w, h => by
    have hm := mem_bools l
    rw [hl] at hm
    have h1 := List.all_eq_true.1 hB l hm
    have hn : l.all id = false := by
      cases hh : l.all id
      · rfl
      · have : l.countP (! ·) = 0 := List.countP_eq_zero.2 fun b hb => by
          have := List.all_eq_true.1 hh b hb
          simpa using this
        omega
    rw [hn, tclosed_of hcl, Bool.false_or, Bool.not_true, Bool.false_or, Bool.and_eq_true] at h1
    obtain ⟨h2, h3⟩ := h1
    rw [show fuel + 1 + t = fuel + t + 1 by omega]
    refine ⟨fun h0 => (by rw [h0] at h2; simp at h2), fun i hi => ?_⟩
    have h4 := List.all_eq_true.1 h3 i hi
    simp only [Bool.and_eq_true, decide_eq_true_eq] at h4
    obtain ⟨him, hg⟩ := h4
    obtain ⟨hno, o, ho, hall⟩ := mem_ready.1 hi
    rw [ho] at hg
    have hli : i < l.length := by omega
    have hLi : l.getD i false = false := by
      have := getD_no hno
      rwa [listOf_false] at this
    have hw : Region.wanted o (yielded ops a.tmps) = true := by
      cases hgu : o.guard with
      | none => simp [Region.wanted, hgu]
      | some x => simp only [hgu] at hg; simp at hg
    unfold wpOp
    rw [ho]
    simp only [hw, if_true]
    refine .inl (hstep i o him ho (fun k => l.getD k false) a w h (fun d hd => ?_) hLi _ fun a' w' h' => ?_)
    · unfold depB at hd
      rw [ho] at hd
      obtain ⟨e, he, hb⟩ := Array.any_eq_true'.1 hd
      simp only [Bool.and_eq_true, beq_iff_eq] at hb
      have := hall e he hb.1
      rw [listOf_false, hb.2] at this
      exact this
    · rw [listOf_set hli]
      have hl2 : l[i]? = some false := by
        rw [List.getElem?_eq_getElem hli]
        simp [List.getD, List.getElem?_eq_getElem hli] at hLi
        rw [hLi]
      refine wpAny_inv m t I hB hstep hend fuel (l.set i true) (by simpa using hl) (by have := count_set l i hl2; omega) (by rw [← listOf_set hli]; exact hcl.list hi) a' w' ?_
      have e2 : (fun k => (l.set i true).getD k false) = fun k => if k = i then true else l.getD k false := by
        funext k
        by_cases hk : k = i
        · subst hk; simp [hli]
        · simp [hk, List.getD, List.getElem?_set_ne (Ne.symm hk)]
      rw [e2]
      exact h'
/-- the region: the first m operations in whatever order, each keeps I; the others last -/
theorem region_inv {id : Nat} {Q : Exit → Act → World → Prop} {a : Act} {w : World} {ol : List Oper} (m : Nat) (I : (Nat → Bool) → Act → World → Prop) (hm : Tryz.prog.follows .mixedOrders = true)
    (hB : (decide (m ≤ ol.length) && readyB .any ol.toArray m (ol.length - m) && tFrom .any ol.toArray (ol.length - m) m (listOf (List.replicate m true) (ol.length - m))) = true)
    (h0 : I (fun _ => false) a w.drew)
    (hstep : ∀ (i : Nat) (o : Oper), i < m → ol[i]? = some o → ∀ (L : Nat → Bool) (a : Act) (w : World), I L a w → (∀ d, depB .any ol.toArray i d = true → L d = true) → L i = false →
      ∀ K : Act → World → Prop, (∀ a' w', I (fun k => if k = i then true else L k) a' w' → K a' w') → o.wp Tryz.prog a w K Q)
    (hend : ∀ a w, I (fun k => decide (k < m)) a w → wpList Tryz.prog ol.toArray Q (ol.drop m) a w) : (Code.region id ol.toArray true).wp Tryz.prog Q a w := by
  simp only [Bool.and_eq_true, decide_eq_true_eq] at hB
  obtain ⟨⟨hml, hB1⟩, hB2⟩ := hB
  refine wp_region_any hm ?_
  have hlen : (ol.drop m).length = ol.length - m := by simp
  have h := wpAny_inv (P := Tryz.prog) (md := .any) (ops := ol.toArray) (Q := Q) m (ol.length - m) I hB1 (fun i o hi ho => hstep i o hi (by simpa using ho))
    (fun a w hI => by
      have := wpAny_of_list (P := Tryz.prog) (ops := ol.toArray) (md := .any) (Q := Q) (ol.drop m) m _ a w (fun j hj => by simp) (by rw [hlen]; exact hB2) (hend a w hI)
      rwa [hlen] at this) m (List.replicate m false) (by simp) (by rw [List.countP_replicate]; simp) (by
      intro j o _ hj
      rw [listOf_false] at hj
      by_cases hk : j < m <;> simp [hk] at hj) a w.drew (by
        have e : (fun k => (List.replicate m false).getD k false) = fun _ => false := by
          funext k
          by_cases hk : k < m <;> simp [hk]
        rw [e]
        exact h0)
  have e1 : m + (ol.length - m) = ol.toArray.size := by simp; omega
  rw [e1] at h
  have e2 : listOf (List.replicate m false) (ol.length - m) = Array.replicate ol.toArray.size false := by
    unfold listOf
    rw [List.replicate_append_replicate, e1, List.toArray_replicate]
  rw [e2] at h
  exact h

end Go.Proofs.YtkkbeobocbgmeaaGreat

namespace Go.Proofs.YtkkbeobocbgmeaaGreat
open Go

/-- each of the first m operations waits for earlier ones alone, and is waited for by one up to number m -/
def linB (md : Region.Mode) (ops : Array Oper) (m : Nat) : Bool := (List.range m).all fun i => (match ops[i]? with | some o => o.guard.isNone && o.after.all (fun e => !Region.binds md e || decide (e.on < i)) | none => false) && tWanted md ops m i

theorem lin_op {md : Region.Mode} {ops : Array Oper} {m i : Nat} (h : linB md ops m = true) (hi : i < m) : ∃ o, ops[i]? = some o ∧ o.guard = none ∧ (∀ e ∈ o.after, Region.binds md e = true → e.on < i) ∧ tWanted md ops m i = true := by
  simp only [linB, List.all_eq_true, List.mem_range] at h
  have h1 := h i hi
  cases ho : ops[i]? with
  | none => simp [ho] at h1
  | some o =>
    simp only [ho, Bool.and_eq_true, Array.all_eq_true_iff_forall_mem] at h1
    obtain ⟨⟨h2, h3⟩, h4⟩ := h1
    refine ⟨o, rfl, by simpa using h2, fun e he hb => ?_, h4⟩
    have := h3 e he
    simpa [hb] using this
theorem least_false : ∀ l : List Bool, l.all id = false → ∃ k, k < l.length ∧ l.getD k false = false ∧ ∀ j, j < k → l.getD j false = true
  | [], h => by simp at h
  | false :: l, _ => ⟨0, by simp, by simp, fun j hj => by omega⟩
  | true :: l, h => by
    obtain ⟨k, h1, h2, h3⟩ := least_false l (by simpa using h)
    refine ⟨k + 1, by simp; omega, by simpa using h2, fun j hj => ?_⟩
    cases j with
    | zero => simp
    | succ j => simpa using h3 j (by omega)
theorem all_false {l : List Bool} (h : ∀ d, d < l.length → l.getD d false = true) : l.all id = true := by
  cases hh : l.all id
  · obtain ⟨k, h1, h2, _⟩ := least_false l hh
    rw [h k h1] at h2
    cases h2
  · rfl
theorem lin_ready {md : Region.Mode} {ops : Array Oper} {m t : Nat} (hsz : ops.size = m + t) (hl : linB md ops m = true) (ht : tFrom md ops t m (listOf (List.replicate m true) t) = true) (l : List Bool) (hlen : l.length = m) (hn : l.all id = false) (hcl : RClosed md ops (listOf l t)) :
    Region.ready md ops (listOf l t) ≠ [] ∧ ∀ i ∈ Region.ready md ops (listOf l t), i < m ∧ ∀ o, ops[i]? = some o → o.guard = none := by
  have hmem : ∀ i, i ∈ Region.ready md ops (listOf l t) → i < m := by
    intro i hi
    by_cases him : i < m
    · exact him
    exfalso
    obtain ⟨hno, o, ho, hall⟩ := mem_ready.1 hi
    have hlt : i < m + t := hsz ▸ (Array.getElem?_eq_some_iff.1 ho).1
    have e1 : i = m := by
      cases t with
      | zero => omega
      | succ t =>
        simp only [tFrom, Bool.and_eq_true, beq_iff_eq] at ht
        have : i ∈ Region.ready md ops (listOf (List.replicate m true) (t + 1)) := by
          refine mem_ready.2 ⟨?_, o, ho, fun e he hb => ?_⟩
          · have : (listOf (List.replicate m true) (t + 1))[i]? = some false := by
              unfold listOf
              rw [List.getElem?_toArray, List.getElem?_append_right (by rw [List.length_replicate]; omega), List.length_replicate, List.getElem?_replicate, if_pos (by omega)]
            simp [Array.getD_eq_getD_getElem?, this]
          · have h1 := hall e he hb
            rw [listOf_false] at h1 ⊢
            have h2 : e.on < l.length := by
              by_cases h3 : e.on < l.length
              · exact h3
              · simp [List.getD, List.getElem?_eq_none (Nat.le_of_not_lt h3)] at h1
            rw [List.getD_eq_getElem?_getD, List.getElem?_replicate, if_pos (by omega)]
            rfl
        rw [ht.1, List.mem_singleton] at this
        exact this
    subst e1
    have key : ∀ n d, d < i → i - d ≤ n → l.getD d false = true := by
      intro n
      induction n with
      | zero => intro d h1 h2; omega
      | succ n ih =>
        intro d h1 h2
        obtain ⟨_, _, _, _, hw⟩ := lin_op hl h1
        simp only [tWanted, List.any_eq_true, List.mem_range] at hw
        obtain ⟨j, hj, hj2⟩ := hw
        cases hoj : ops[j]? with
        | none => simp [hoj] at hj2
        | some oj =>
          simp only [hoj] at hj2
          obtain ⟨e, he, hb⟩ := Array.any_eq_true'.1 hj2
          simp only [Bool.and_eq_true, beq_iff_eq] at hb
          obtain ⟨hb1, hb2⟩ := hb
          by_cases hji : j = i
          · subst hji
            rw [ho] at hoj
            cases hoj
            have := hall e he hb1
            rwa [listOf_false, hb2] at this
          · obtain ⟨o', ho', _, hlow, _⟩ := lin_op hl (show j < i by omega)
            rw [hoj] at ho'
            cases ho'
            have hdj := hlow e he hb1
            have h4 := hcl j oj hoj (by rw [listOf_false]; exact ih j (by omega) (by omega)) e he hb1
            rwa [listOf_false, hb2] at h4
    rw [all_false (fun d hd => key i d (by omega) (by omega))] at hn
    cases hn
  refine ⟨?_, fun i hi => ⟨hmem i hi, fun o ho => ?_⟩⟩
  · obtain ⟨k, h1, h2, h3⟩ := least_false l hn
    obtain ⟨o, ho, _, hlow, _⟩ := lin_op hl (show k < m by omega)
    intro h0
    have : k ∈ Region.ready md ops (listOf l t) := by
      refine mem_ready.2 ⟨?_, o, ho, fun e he hb => ?_⟩
      · rw [listOf_getD true h1]
        rw [List.getD_eq_getElem?_getD, List.getElem?_eq_getElem h1] at h2 ⊢
        exact h2
      · rw [listOf_false]
        exact h3 _ (hlow e he hb)
    rw [h0] at this
    cases this
  · obtain ⟨o', ho', hg, _⟩ := lin_op hl (hmem i hi)
    rw [ho] at ho'
    cases ho'
    exact hg
theorem wpAny_good {P : Program} {md : Region.Mode} {ops : Array Oper} {Q : Exit → Act → World → Prop} (m t : Nat) (I : (Nat → Bool) → Act → World → Prop) (hsz : ops.size = m + t) (hB : linB md ops m = true) (hT : tFrom md ops t m (listOf (List.replicate m true) t) = true)
    (hstep : ∀ (i : Nat) (o : Oper), i < m → ops[i]? = some o → ∀ (L : Nat → Bool) (a : Act) (w : World), I L a w → (∀ d, depB md ops i d = true → L d = true) → L i = false →
      ∀ K : Act → World → Prop, (∀ a' w', I (fun k => if k = i then true else L k) a' w' → K a' w') → o.wp P a w K Q)
    (hend : ∀ a w, I (fun k => decide (k < m)) a w → wpAny P md ops Q t (listOf (List.replicate m true) t) a w) :
    ∀ (fuel : Nat) (l : List Bool), l.length = m → l.countP (! ·) = fuel → RClosed md ops (listOf l t) → ∀ a w, I (fun k => l.getD k false) a w → wpAny P md ops Q (fuel + t) (listOf l t) a w
  | 0, l, hl, hc, _, a, w, h => by
    have e : l = List.replicate m true := by
      rw [List.eq_replicate_iff]
      refine ⟨hl, fun b hb => ?_⟩
      have := List.countP_eq_zero.1 hc b hb
      simpa using this
    subst e
    rw [Nat.zero_add]
    refine hend a w ?_
    have e2 : (fun k => (List.replicate m true).getD k false) = fun k => decide (k < m) := by
      funext k
      by_cases hk : k < m <;> simp [hk]
    rwa [e2] at h
  | fuel + 1, l, hl, hc, hcl, a, w, h => by
    have hn : l.all id = false := by
      cases hh : l.all id
      · rfl
      · have : l.countP (! ·) = 0 := List.countP_eq_zero.2 fun b hb => by
          have := List.all_eq_true.1 hh b hb
          simpa using this
        omega
    obtain ⟨h2, h3⟩ := lin_ready hsz hB hT l hl hn hcl
    rw [show fuel + 1 + t = fuel + t + 1 by omega]
    refine ⟨fun h0 => absurd h0 h2, fun i hi => ?_⟩
    obtain ⟨him, hg⟩ := h3 i hi
    obtain ⟨hno, o, ho, hall⟩ := mem_ready.1 hi
    have hli : i < l.length := by omega
    have hLi : l.getD i false = false := by
      have := getD_no hno
      rwa [listOf_false] at this
    have hw : Region.wanted o (yielded ops a.tmps) = true := by simp [Region.wanted, hg o ho]
    unfold wpOp
    rw [ho]
    simp only [hw, if_true]
    refine .inl (hstep i o him ho (fun k => l.getD k false) a w h (fun d hd => ?_) hLi _ fun a' w' h' => ?_)
    · unfold depB at hd
      rw [ho] at hd
      obtain ⟨e, he, hb⟩ := Array.any_eq_true'.1 hd
      simp only [Bool.and_eq_true, beq_iff_eq] at hb
      have := hall e he hb.1
      rw [listOf_false, hb.2] at this
      exact this
    · rw [listOf_set hli]
      have hl2 : l[i]? = some false := by
        rw [List.getElem?_eq_getElem hli]
        simp [List.getD, List.getElem?_eq_getElem hli] at hLi
        rw [hLi]
      refine wpAny_good m t I hsz hB hT hstep hend fuel (l.set i true) (by simpa using hl) (by have := count_set l i hl2; omega) (by rw [← listOf_set hli]; exact hcl.list hi) a' w' ?_
      have e2 : (fun k => (l.set i true).getD k false) = fun k => if k = i then true else l.getD k false := by
        funext k
        by_cases hk : k = i
        · subst hk; simp [hli]
        · simp [hk, List.getD, List.getElem?_set_ne (Ne.symm hk)]
      rw [e2]
      exact h'
/-- the values of the region's operations, the one of operation i put anew -/
def upd (x : Nat → Value) (i : Nat) (v : Value) : Nat → Value := fun j => if j = i then v else x j
theorem upd_at (x : Nat → Value) (i : Nat) (v : Value) : upd x i v i = v := by simp [upd]
theorem upd_ne {x : Nat → Value} {i j : Nat} {v : Value} (h : j ≠ i) : upd x i v j = x j := by simp [upd, h]
theorem upd_know {x : Nat → Value} {i : Nat} {v : Value} (h : x i = v) : ∃ z, x = upd z i v := ⟨x, funext fun k => by
  by_cases hk : k = i
  · subst hk; rw [upd_at, h]
  · rw [upd_ne hk]⟩
theorem upd_know2 {x : Nat → Value} {i j : Nat} {v u : Value} (h : x i = v) (h' : x j = u) : ∃ z, x = upd (upd z i v) j u := ⟨x, by
  obtain ⟨z, e⟩ := upd_know h
  funext k
  by_cases hk : k = j
  · subst hk; rw [upd_at, h']
  · rw [upd_ne hk]
    by_cases hk2 : k = i
    · subst hk2; rw [upd_at, h]
    · rw [upd_ne hk2]⟩
theorem upd_know3 {x : Nat → Value} {i j k : Nat} {v u t : Value} (h : x i = v) (h' : x j = u) (h'' : x k = t) : ∃ z, x = upd (upd (upd z i v) j u) k t := ⟨x, by
  funext n
  by_cases hk : n = k
  · subst hk; rw [upd_at, h'']
  · rw [upd_ne hk]
    by_cases hk : n = j
    · subst hk; rw [upd_at, h']
    · rw [upd_ne hk]
      by_cases hk2 : n = i
      · subst hk2; rw [upd_at, h]
      · rw [upd_ne hk2]⟩
theorem upd_know4 {x : Nat → Value} {i j k l : Nat} {v u t s : Value} (h : x i = v) (h' : x j = u) (h'' : x k = t) (h3 : x l = s) : ∃ z, x = upd (upd (upd (upd z i v) j u) k t) l s := ⟨x, by
  funext n
  by_cases hk : n = l
  · subst hk; rw [upd_at, h3]
  · rw [upd_ne hk]
    by_cases hk : n = k
    · subst hk; rw [upd_at, h'']
    · rw [upd_ne hk]
      by_cases hk : n = j
      · subst hk; rw [upd_at, h']
      · rw [upd_ne hk]
        by_cases hk2 : n = i
        · subst hk2; rw [upd_at, h]
        · rw [upd_ne hk2]⟩
/-- the region: the first m operations in whatever order; F: the frame, by the operations' values; G: what a value must be like -/
theorem region_good {id : Nat} {Q : Exit → Act → World → Prop} {w : World} {ol : List Oper} (m : Nat) (x0 : Nat → Value) (F : (Nat → Value) → Act) (C : World → Prop) (R : World → World → Prop) (G : Nat → Value → World → Prop) (hm : Tryz.prog.follows .mixedOrders = true)
    (hB : (decide (m ≤ ol.length) && linB .any ol.toArray m && tFrom .any ol.toArray (ol.length - m) m (listOf (List.replicate m true) (ol.length - m))) = true)
    (h0 : C w.drew) (hmono : ∀ k v w w', R w w' → G k v w → G k v w')
    (hstep : ∀ (i : Nat) (o : Oper), i < m → ol[i]? = some o → ∀ (x : Nat → Value) (w : World), C w → (∀ d, depB .any ol.toArray i d = true → G d (x d) w) →
      ∀ K : Act → World → Prop, (∀ v w', C w' → R w w' → G i v w' → K (F (upd x i v)) w') → o.wp Tryz.prog (F x) w K Q)
    (hend : ∀ x w, C w → (∀ k, k < m → G k (x k) w) → wpList Tryz.prog ol.toArray Q (ol.drop m) (F x) w) : (Code.region id ol.toArray true).wp Tryz.prog Q (F x0) w := by
  simp only [Bool.and_eq_true, decide_eq_true_eq] at hB
  obtain ⟨⟨hml, hB1⟩, hB2⟩ := hB
  refine wp_region_any hm ?_
  have hlen : (ol.drop m).length = ol.length - m := by simp
  have e1 : m + (ol.length - m) = ol.toArray.size := by simp; omega
  have h := wpAny_good (P := Tryz.prog) (md := .any) (ops := ol.toArray) (Q := Q) m (ol.length - m) (fun L a w => ∃ x, a = F x ∧ C w ∧ ∀ k, L k = true → G k (x k) w) e1.symm hB1 hB2
    (fun i o hi ho L a w hI hd hLi K hK => by
      obtain ⟨x, rfl, hC, hG⟩ := hI
      refine hstep i o hi (by simpa using ho) x w hC (fun d hdd => hG d (hd d hdd)) K fun v w' h1 h2 h3 => hK _ _ ⟨_, rfl, h1, fun k hk => ?_⟩
      by_cases hki : k = i
      · subst hki
        rwa [upd_at]
      · rw [upd_ne hki]
        simp only [hki, if_false] at hk
        exact hmono _ _ _ _ h2 (hG k hk))
    (fun a w hI => by
      obtain ⟨x, rfl, hC, hG⟩ := hI
      have := wpAny_of_list (P := Tryz.prog) (ops := ol.toArray) (md := .any) (Q := Q) (ol.drop m) m _ (F x) w (fun j hj => by simp) (by rw [hlen]; exact hB2) (hend x w hC fun k hk => hG k (by simpa using hk))
      rwa [hlen] at this) m (List.replicate m false) (by simp) (by rw [List.countP_replicate]; simp) (by
      intro j o _ hj
      rw [listOf_false] at hj
      by_cases hk : j < m <;> simp [hk] at hj) (F x0) w.drew ⟨x0, rfl, h0, fun k hk => by
        by_cases hkm : k < m <;> simp [hkm] at hk⟩
  rw [e1] at h
  have e2 : listOf (List.replicate m false) (ol.length - m) = Array.replicate ol.toArray.size false := by
    unfold listOf
    rw [List.replicate_append_replicate, e1, List.toArray_replicate]
  rw [e2] at h
  exact h

end Go.Proofs.YtkkbeobocbgmeaaGreat
