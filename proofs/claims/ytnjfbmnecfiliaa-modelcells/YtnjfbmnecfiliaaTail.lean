/- A region that draws its order, all of whose operations but the last few only read: they may come in any order; the last few come behind them, one by one, and may write. One walk in the order of the text. A plain law on the model's orders; no conditions on a program. -/
import Derived.Deep.Quiet
import Derived.WalkKit
import Derived.Test.YtnjfbmnecfiliaaJunk
namespace Go.Proofs.Ytnjfbmnecfiliaa
open Go

section
variable {P : Program} {ops : Array Oper} {md : Region.Mode} {C : World → Prop}

/-- operation i is waited for by one up to number m -/
def tWanted (md : Region.Mode) (ops : Array Oper) (m i : Nat) : Bool := (List.range (m + 1)).any fun d => match ops[d]? with
  | some o => o.after.any fun e => Region.binds md e && e.on == i
  | none => false
def tLex (md : Region.Mode) (ops : Array Oper) (m : Nat) (Lm : Array Bool) : Nat → Nat → Array Bool → Bool
  | 0, _, listed => listed == Lm
  | f + 1, k, listed => (Region.ready md ops listed).contains k && Region.free md ops listed k && tWanted md ops m k && tLex md ops m Lm f (k + 1) (listed.setIfInBounds k true)
def tFrom (md : Region.Mode) (ops : Array Oper) : Nat → Nat → Array Bool → Bool
  | 0, _, listed => (Region.ready md ops listed).isEmpty
  | f + 1, k, listed => (Region.ready md ops listed == [k]) && tFrom md ops f (k + 1) (listed.setIfInBounds k true)
def tClosed (md : Region.Mode) (ops : Array Oper) (listed : Array Bool) : Bool := (List.range ops.size).all fun j => !listed.getD j false || match ops[j]? with
  | some o => o.after.all fun e => !Region.binds md e || listed.getD e.on false
  | none => true
def tailB (md : Region.Mode) (ops : Array Oper) (f t k : Nat) (listed Lm : Array Bool) : Bool :=
  Region.noSelect ops && tClosed md ops listed && tLex md ops (k + f) Lm f k listed && tFrom md ops (t + 1) (k + f) Lm && (List.range (k + f)).all fun d => Lm.getD d false

def RClosed (md : Region.Mode) (ops : Array Oper) (listed : Array Bool) : Prop := ∀ j o, ops[j]? = some o → listed.getD j false = true → ∀ e ∈ o.after, Region.binds md e = true → listed.getD e.on false = true
theorem rclosed_of {listed : Array Bool} (h : tClosed md ops listed = true) : RClosed md ops listed := by
  intro j o ho hl e he hb
  simp only [tClosed, List.all_eq_true, List.mem_range] at h
  have h1 := h j (Array.getElem?_eq_some_iff.1 ho).1
  simp only [hl, ho, Bool.not_true, Bool.false_or, Array.all_eq_true_iff_forall_mem] at h1
  have := h1 e he
  simpa [hb] using this
theorem getD_no {listed : Array Bool} {i : Nat} (h : listed.getD i true = false) : listed.getD i false = false := by
  rcases Nat.lt_or_ge i listed.size with h' | h'
  · simp [h'] at h ⊢; exact h
  · simp [Array.getElem?_eq_none h'] at h
theorem RClosed.list {listed : Array Bool} (h : RClosed md ops listed) {i : Nat} (hi : i ∈ Region.ready md ops listed) : RClosed md ops (listed.setIfInBounds i true) := by
  intro j o ho hl e he hb
  by_cases hij : i = j
  · subst hij
    obtain ⟨_, o', ho', hall⟩ := mem_ready.1 hi
    rw [ho] at ho'
    cases ho'
    exact getD_set_true (hall e he hb)
  · rw [getD_set_ne false hij] at hl
    exact getD_set_true (h j o ho hl e he hb)

/-- whatever order is picked until the list Lm is reached -/
def wpAnyT (P : Program) (md : Region.Mode) (ops : Array Oper) (C : World → Prop) (Lm : Array Bool) (R : Act → Prop) : Nat → Array Bool → Act → Prop
  | 0, listed, a => listed = Lm ∧ R a
  | fuel + 1, listed, a => Region.ready md ops listed ≠ [] ∧ ∀ i ∈ Region.ready md ops listed, qOp P ops C i (wpAnyT P md ops C Lm R fuel (listed.setIfInBounds i true)) a

theorem wpAny_of_T {Lm : Array Bool} {R : Act → Prop} {Q : Exit → Act → World → Prop} {t : Nat} (hR : ∀ a w, C w → R a → wpAny P md ops Q t Lm a w) : ∀ (fuel : Nat) (listed : Array Bool) (a : Act) (w : World), C w →
    wpAnyT P md ops C Lm R fuel listed a → wpAny P md ops Q (fuel + t) listed a w
  | 0, _, _, _, hw, h => by rw [Nat.zero_add, h.1]; exact hR _ _ hw h.2
  | fuel + 1, _, _, _, hw, h => by
    rw [show fuel + 1 + t = fuel + t + 1 by omega]
    exact ⟨fun h0 => absurd h0 h.1, fun i hi => wpOp_of_qOp hw (fun a' w' hw' => wpAny_of_T hR fuel _ a' w' hw') (h.2 i hi)⟩

theorem wpAnyT_first {Lm : Array Bool} {R : Act → Prop} {i m : Nat} {oi : Oper} {v : Value} (hi : ops[i]? = some oi) (hsel : ∀ (j : Nat) (o : Oper) cs b, ops[j]? = some o → o.op ≠ .select cs b)
    (hm : Region.ready md ops Lm = [m]) (hw : tWanted md ops m i = true) (hL : ∀ d, d < m → Lm.getD d false = true) :
    ∀ (fuel : Nat) (listed : Array Bool) (a : Act),
      (∀ j oj, ops[j]? = some oj → j ≠ i → listed.getD j true = false → (∀ e ∈ oj.after, Region.binds md e = true → e.on ≠ i) → oi.apart ops oj = true) →
      RClosed md ops listed → i ∈ Region.ready md ops listed → YieldsIn P ops C oi v a →
      wpAnyT P md ops C Lm R fuel (listed.setIfInBounds i true) (a.put oi.dst v) → wpAnyT P md ops C Lm R (fuel + 1) listed a := by
  intro fuel
  induction fuel with
  | zero =>
    intro listed a _ hcl hr hy H
    refine ⟨fun h => (by rw [h] at hr; cases hr), fun j hj => ?_⟩
    by_cases hji : j = i
    · subst hji; exact hy.qOp hi H
    · exfalso
      have h1 := ready_mono hj hji
      rw [H.1, hm, List.mem_singleton] at h1
      subst h1
      have hi0 := getD_no (mem_ready.1 hr).1
      simp only [tWanted, List.any_eq_true, List.mem_range] at hw
      obtain ⟨d, hd, hd2⟩ := hw
      cases hod : ops[d]? with
      | none => simp [hod] at hd2
      | some od =>
        simp only [hod] at hd2
        obtain ⟨e, he, hb⟩ := Array.any_eq_true'.1 hd2
        simp only [Bool.and_eq_true, beq_iff_eq] at hb
        obtain ⟨hb1, hb2⟩ := hb
        by_cases hdj : d = j
        · subst hdj
          obtain ⟨_, o', ho', hall⟩ := mem_ready.1 hj
          rw [hod] at ho'
          cases ho'
          have := hall e he hb1
          rw [hb2, hi0] at this
          cases this
        · by_cases hdi : d = i
          · subst hdi
            obtain ⟨_, o', ho', hall⟩ := mem_ready.1 hr
            rw [hod] at ho'
            cases ho'
            have := hall e he hb1
            rw [hb2, hi0] at this
            cases this
          · have h2 := hL d (by omega)
            rw [← H.1, getD_set_ne false (Ne.symm hdi)] at h2
            have := hcl d od hod h2 e he hb1
            rw [hb2, hi0] at this
            cases this
  | succ fuel ih =>
    intro listed a hfree hcl hr hy H
    refine ⟨fun h => (by rw [h] at hr; cases hr), fun j hj => ?_⟩
    by_cases hji : j = i
    · subst hji; exact hy.qOp hi H
    · have h1 := H.2 j (ready_mono hj hji)
      obtain ⟨hjun, oj, hoj, hall⟩ := mem_ready.1 hj
      have hnot : ∀ e ∈ oj.after, Region.binds md e = true → e.on ≠ i := fun e he hb heq => by
        have h1 := hall e he hb
        have h0 := getD_no (mem_ready.1 hr).1
        rw [heq, h0] at h1
        cases h1
      have h2 := qOp_put hoj (hfree j oj hoj hji hjun hnot) (fun cs b => hsel i oi cs b hi) (fun cs b => hsel j oj cs b hoj) hy h1
      have hfree' : ∀ k ok, ops[k]? = some ok → k ≠ i → (listed.setIfInBounds j true).getD k true = false →
          (∀ e ∈ ok.after, Region.binds md e = true → e.on ≠ i) → oi.apart ops ok = true := fun k ok hk hki hun hno => by
        refine hfree k ok hk hki ?_ hno
        by_cases hjk : j = k
        · subst hjk; exact hjun
        · rw [getD_set_ne true hjk] at hun; exact hun
      refine qOp_mono (fun a' h3 => ih (listed.setIfInBounds j true) a' hfree' (hcl.list hj) (ready_mono hr (Ne.symm hji)) h3.1 ?_) h2
      rw [Array.setIfInBounds_comm _ _ hji]
      exact h3.2

theorem wpAnyT_lex {Lm : Array Bool} {R : Act → Prop} {m : Nat} (hs : Region.noSelect ops = true) (hm : Region.ready md ops Lm = [m]) (hL : ∀ d, d < m → Lm.getD d false = true) :
    ∀ (l : List Oper) (k : Nat) (listed : Array Bool) (a : Act), (∀ j, j < l.length → l[j]? = ops[k + j]?) → RClosed md ops listed →
    tLex md ops m Lm l.length k listed = true → wpQuiet P ops C R l a → wpAnyT P md ops C Lm R l.length listed a
  | [], _, _, _, _, _, hB, h => ⟨by simpa [tLex] using hB, h⟩
  | o :: l, k, listed, a, hl, hcl, hB, h => by
    have h0 : ops[k]? = some o := by simpa using (hl 0 (by simp)).symm
    simp only [List.length_cons, tLex, Bool.and_eq_true] at hB
    obtain ⟨⟨⟨hr, hf⟩, hw⟩, hB'⟩ := hB
    have hst : qOp P ops C k (wpQuiet P ops C R l) a := by unfold qOp; simp only [h0]; exact h
    obtain ⟨v, hy, hK⟩ := yieldsIn_of_qOp h0 hst
    have hr' : k ∈ Region.ready md ops listed := by simpa using hr
    exact wpAnyT_first h0 (Region.noSelect_spec hs) hm hw hL l.length listed a (Region.free_spec h0 hf) hcl hr' hy
      (wpAnyT_lex hs hm hL l (k + 1) _ _ (fun j hj => by have := hl (j + 1) (by simp; omega); simpa [Nat.add_assoc, Nat.add_comm 1 j] using this) (hcl.list hr') hB' hK)

theorem wpAny_of_list {Q : Exit → Act → World → Prop} : ∀ (l : List Oper) (k : Nat) (listed : Array Bool) (a : Act) (w : World), (∀ j, j < l.length → l[j]? = ops[k + j]?) →
    tFrom md ops l.length k listed = true → wpList P ops Q l a w → wpAny P md ops Q l.length listed a w
  | [], _, _, _, _, _, hB, h => ⟨by simpa [tFrom] using hB, h⟩
  | o :: l, k, listed, a, w, hl, hB, h => by
    have h0 : ops[k]? = some o := by simpa using (hl 0 (by simp)).symm
    simp only [List.length_cons, tFrom, Bool.and_eq_true, beq_iff_eq] at hB
    refine wpAny_all hB.1 (by simp) fun i hi => ?_
    rw [List.mem_singleton] at hi
    subst hi
    have ih := fun a' w' => wpAny_of_list (Q := Q) l (i + 1) (listed.setIfInBounds i true) a' w' (fun j hj => by have := hl (j + 1) (by simp; omega); simpa [Nat.add_assoc, Nat.add_comm 1 j] using this) hB.2
    have hst : wpOp P ops Q i (wpList P ops Q l) a w := by unfold wpOp; simp only [h0]; exact h
    exact wpOp_mono ih hst

/-- from operation k on: those of 'pre' only read; the one behind them, o, and those of 'tl' come last, in their order -/
theorem wpAny_tail {Q : Exit → Act → World → Prop} (pre tl : List Oper) (o : Oper) (k : Nat) (listed Lm : Array Bool) (hl : ∀ j, j < (pre ++ o :: tl).length → (pre ++ o :: tl)[j]? = ops[k + j]?)
    (hB : tailB md ops pre.length tl.length k listed Lm = true) {a : Act} {w : World} (hC : C w)
    (h : wpQuiet P ops C (fun a' => ∀ w', C w' → wpList P ops Q (o :: tl) a' w') pre a) : wpAny P md ops Q (pre.length + (tl.length + 1)) listed a w := by
  simp only [tailB, Bool.and_eq_true] at hB
  obtain ⟨⟨⟨⟨hs, hcl⟩, hlex⟩, htl⟩, hL⟩ := hB
  have hm : Region.ready md ops Lm = [k + pre.length] := by
    simp only [tFrom, Bool.and_eq_true, beq_iff_eq] at htl
    exact htl.1
  refine wpAny_of_T (C := C) (R := fun a' => ∀ w', C w' → wpList P ops Q (o :: tl) a' w') (fun a' w' hw' hR => ?_) _ _ _ _ hC
    (wpAnyT_lex hs hm (fun d hd => by simpa using List.all_eq_true.1 hL d (List.mem_range.2 hd)) pre k listed a (fun j hj => ?_) (rclosed_of hcl) hlex h)
  · exact wpAny_of_list (o :: tl) (k + pre.length) Lm a' w' (fun j hj => by
      have := hl (pre.length + j) (by simp at hj ⊢; omega)
      rw [List.getElem?_append_right (by omega)] at this
      rw [Nat.add_assoc, ← this]
      congr 1
      omega) htl (hR w' hw')
  · have := hl j (by simp; omega)
    rw [List.getElem?_append_left hj] at this
    exact this

end

/-- a region that draws: the first f operations only read (their callees may lay blocks of their own); the others come last, in their order -/
theorem region_tail {id : Nat} {Q : Exit → Act → World → Prop} {a : Act} {w : World} {l : List Oper} (f : Nat) (Lm : Array Bool) (hm : Try.prog.follows .mixedOrders = true) (hf : f < l.length)
    (hB : tailB .any l.toArray f (l.length - f - 1) 0 (Array.replicate l.length false) Lm = true)
    (h : wpQuiet Try.prog l.toArray (fun w' => ∃ X : Junk, w' = junk w X) (fun a' => ∀ w', (∃ X : Junk, w' = junk w X) → wpList Try.prog l.toArray Q (l.drop f) a' w') (l.take f) a) : (Code.region id l.toArray true).wp Try.prog Q a w := by
  refine wp_region_any hm ?_
  obtain ⟨o, ho⟩ : ∃ o, l[f]? = some o := ⟨_, List.getElem?_eq_getElem hf⟩
  have hd : l.drop f = o :: l.drop (f + 1) := by
    rw [List.drop_eq_getElem_cons hf]
    rw [List.getElem?_eq_getElem hf] at ho
    cases ho
    rfl
  have hl : l.take f ++ o :: l.drop (f + 1) = l := by rw [← hd, List.take_append_drop]
  have h1 : (l.take f).length = f := by simp; omega
  have h2 : (l.drop (f + 1)).length = l.length - f - 1 := by simp; omega
  rw [hd] at h
  have := wpAny_tail (ops := l.toArray) (md := .any) (P := Try.prog) (Q := Q) (C := fun w' => ∃ X : Junk, w' = junk w X) (l.take f) (l.drop (f + 1)) o 0 (Array.replicate l.length false) Lm (fun j _ => by rw [hl]; simp) (by rw [h1, h2]; exact hB) (Jk.refl w).drew h
  rw [h1, h2] at this
  have e : f + (l.length - f - 1 + 1) = l.toArray.size := by simp; omega
  rw [e] at this
  simpa using this
/-- the same where the first operation yields in whatever world and is taken first -/
theorem region_tail1 {id : Nat} {Q : Exit → Act → World → Prop} {a : Act} {w : World} {o0 : Oper} {l : List Oper} (v : Value) (f : Nat) (Lm : Array Bool) (hm : Try.prog.follows .mixedOrders = true) (hf : f < l.length)
    (hs : Region.noSelect (o0 :: l).toArray = true) (hfr : Region.free .any (o0 :: l).toArray (Array.replicate (l.length + 1) false) 0 = true) (hr : (Region.ready .any (o0 :: l).toArray (Array.replicate (l.length + 1) false)).contains 0 = true)
    (hQ : ∀ c a w, Q (.panic c) (a.put o0.dst v) w → Q (.panic c) a w) (hy : Yields Try.prog (o0 :: l).toArray o0 v a)
    (hB : tailB .any (o0 :: l).toArray f (l.length - f - 1) 1 ((Array.replicate (l.length + 1) false).setIfInBounds 0 true) Lm = true)
    (h : wpQuiet Try.prog (o0 :: l).toArray (fun w' => ∃ X : Junk, w' = junk w X) (fun a' => ∀ w', (∃ X : Junk, w' = junk w X) → wpList Try.prog (o0 :: l).toArray Q (l.drop f) a' w') (l.take f) (a.put o0.dst v)) : (Code.region id (o0 :: l).toArray true).wp Try.prog Q a w := by
  refine wp_region_any hm ?_
  obtain ⟨o, ho⟩ : ∃ o, l[f]? = some o := ⟨_, List.getElem?_eq_getElem hf⟩
  have hd : l.drop f = o :: l.drop (f + 1) := by
    rw [List.drop_eq_getElem_cons hf]
    rw [List.getElem?_eq_getElem hf] at ho
    cases ho
    rfl
  have hl : l.take f ++ o :: l.drop (f + 1) = l := by rw [← hd, List.take_append_drop]
  have h1 : (l.take f).length = f := by simp; omega
  have h2 : (l.drop (f + 1)).length = l.length - f - 1 := by simp; omega
  rw [hd] at h
  have := wpAny_tail (ops := (o0 :: l).toArray) (md := .any) (P := Try.prog) (Q := Q) (C := fun w' => ∃ X : Junk, w' = junk w X) (l.take f) (l.drop (f + 1)) o 1 ((Array.replicate (l.length + 1) false).setIfInBounds 0 true) Lm (fun j _ => by rw [hl]; simp [Nat.add_comm 1 j]) (by rw [h1, h2]; exact hB) (Jk.refl w).drew h
  rw [h1, h2] at this
  have e : f + (l.length - f - 1 + 1) = l.length := by omega
  rw [e] at this
  have e2 : (o0 :: l).toArray.size = l.length + 1 := by simp
  rw [e2]
  exact wpAny_take (i := 0) (v := v) (by simp) hs hfr hr hQ hy this
theorem region_tail2 {id : Nat} {Q : Exit → Act → World → Prop} {a : Act} {w : World} {o0 : Oper} {l : List Oper} (v : Value) (f : Nat) (Lm : Array Bool) (hm : Try.prog.follows .mixedOrders = true) (hf : f < l.length)
    (hs : Region.noSelect (o0 :: l).toArray = true) (hfr : Region.free .any (o0 :: l).toArray (Array.replicate (l.length + 1) false) 0 = true) (hr : (Region.ready .any (o0 :: l).toArray (Array.replicate (l.length + 1) false)).contains 0 = true)
    (hQ : ∀ c a w, Q (.panic c) (a.put o0.dst v) w → Q (.panic c) a w) (hw : Region.wanted o0 (yielded (o0 :: l).toArray a.tmps) = true) (hy : ∀ w, (execOp a.eval o0).run Try.prog w = .ok (.value v) w)
    (hB : tailB .any (o0 :: l).toArray f (l.length - f - 1) 1 ((Array.replicate (l.length + 1) false).setIfInBounds 0 true) Lm = true)
    (h : wpQuiet Try.prog (o0 :: l).toArray (fun w' => ∃ X : Junk, w' = junk w X) (fun a' => ∀ w', (∃ X : Junk, w' = junk w X) → wpList Try.prog (o0 :: l).toArray Q (l.drop f) a' w') (o0 :: l.take f) a) : (Code.region id (o0 :: l).toArray true).wp Try.prog Q a w := by
  refine region_tail1 v f Lm hm hf hs hfr hr hQ (.inl ⟨hw, hy⟩) hB ?_
  simp only [wpQuiet, hw, if_true] at h
  obtain ⟨u, h1, h2⟩ := h
  have h3 := h1 w (Jk.refl w)
  unfold Oper.quietAt at h3
  rw [hy w] at h3
  rw [← h3.2] at h2
  exact h2

end Go.Proofs.Ytnjfbmnecfiliaa
