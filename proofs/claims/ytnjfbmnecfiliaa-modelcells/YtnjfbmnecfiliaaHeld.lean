/- A region that draws its order: operations that only read, in every world that meets S, are taken first, in an order of one's own; what writes comes alone, and S is shown behind it until the operations from number m on are reached: these come last, in their order, and may write where S reads. A plain law on the model's orders; no conditions on a program. -/
import Derived.OrdersHeld
import Derived.Deep.Quiet
import Derived.Test.YtnjfbmnecfiliaaTail
namespace Go.Proofs.Ytnjfbmnecfiliaa
open Go

section
variable {P : Program} {ops : Array Oper} {md : Region.Mode} {Q : Exit → Act → World → Prop} {S : World → Prop}

/-- whatever order is picked until the list Lm is reached; S holds behind each operation -/
def wpHT (P : Program) (md : Region.Mode) (ops : Array Oper) (Q : Exit → Act → World → Prop) (S : World → Prop) (Lm : Array Bool) (R : Act → World → Prop) : Nat → Array Bool → Act → World → Prop
  | 0, listed, a, w => listed = Lm ∧ R a w
  | fuel + 1, listed, a, w => Region.ready md ops listed ≠ [] ∧ ∀ i ∈ Region.ready md ops listed, wpOp P ops Q i (fun a' w' => S w' ∧ wpHT P md ops Q S Lm R fuel (listed.setIfInBounds i true) a' w') a w

theorem wpAny_of_HT {Lm : Array Bool} {R : Act → World → Prop} {t : Nat} (hR : ∀ a w, R a w → wpAny P md ops Q t Lm a w) : ∀ (fuel : Nat) (listed : Array Bool) (a : Act) (w : World),
    wpHT P md ops Q S Lm R fuel listed a w → wpAny P md ops Q (fuel + t) listed a w
  | 0, _, _, _, h => by rw [Nat.zero_add, h.1]; exact hR _ _ h.2
  | fuel + 1, _, _, _, h => by
    rw [show fuel + 1 + t = fuel + t + 1 by omega]
    exact ⟨fun h0 => absurd h0 h.1, fun i hi => wpOp_mono (fun a' w' hh => wpAny_of_HT hR fuel _ a' w' hh.2) (h.2 i hi)⟩

theorem late_no {Lm listed : Array Bool} {i j m : Nat} (hm : Region.ready md ops Lm = [m]) (hw : tWanted md ops m i = true) (hL : ∀ d, d < m → Lm.getD d false = true) (hcl : RClosed md ops listed)
    (hr : i ∈ Region.ready md ops listed) (hj : j ∈ Region.ready md ops listed) (hji : j ≠ i) (e : listed.setIfInBounds i true = Lm) : False := by
  have h1 := ready_mono hj hji
  rw [e, hm, List.mem_singleton] at h1
  subst h1
  have hi0 := getD_no (mem_ready.1 hr).1
  simp only [tWanted, List.any_eq_true, List.mem_range] at hw
  obtain ⟨d, hd, hd2⟩ := hw
  cases hod : ops[d]? with
  | none => simp [hod] at hd2
  | some od =>
    simp only [hod] at hd2
    obtain ⟨e1, he, hb⟩ := Array.any_eq_true'.1 hd2
    simp only [Bool.and_eq_true, beq_iff_eq] at hb
    obtain ⟨hb1, hb2⟩ := hb
    have hlate : listed.getD d false = true ∨ d = j ∨ d = i := by
      by_cases h3 : d = j
      · exact .inr (.inl h3)
      · by_cases h4 : d = i
        · exact .inr (.inr h4)
        · left
          have := hL d (by omega)
          rwa [← e, getD_set_ne false (Ne.symm h4)] at this
    have key : listed.getD e1.on false = true := by
      rcases hlate with h | h | h
      · exact hcl d od hod h e1 he hb1
      · subst h
        obtain ⟨_, o', ho', hall⟩ := mem_ready.1 hj
        rw [hod] at ho'
        cases ho'
        exact hall e1 he hb1
      · subst h
        obtain ⟨_, o', ho', hall⟩ := mem_ready.1 hr
        rw [hod] at ho'
        cases ho'
        exact hall e1 he hb1
    rw [hb2, hi0] at key
    cases key

theorem wpHT_first {Lm : Array Bool} {R : Act → World → Prop} {i m : Nat} {oi : Oper} {v : Value} (hi : ops[i]? = some oi) (hsel : ∀ (j : Nat) (o : Oper) cs b, ops[j]? = some o → o.op ≠ .select cs b)
    (hQ : ∀ c a w, Q (.panic c) (a.put oi.dst v) w → Q (.panic c) a w) (hm : Region.ready md ops Lm = [m]) (hw : tWanted md ops m i = true) (hL : ∀ d, d < m → Lm.getD d false = true) :
    ∀ (fuel : Nat) (listed : Array Bool) (a : Act) (w : World),
      (∀ j oj, ops[j]? = some oj → j ≠ i → listed.getD j true = false → (∀ e ∈ oj.after, Region.binds md e = true → e.on ≠ i) → oi.apart ops oj = true) →
      RClosed md ops listed → i ∈ Region.ready md ops listed → YieldsIf P ops S oi v a → S w →
      wpHT P md ops Q S Lm R fuel (listed.setIfInBounds i true) (a.put oi.dst v) w → wpHT P md ops Q S Lm R (fuel + 1) listed a w := by
  intro fuel
  induction fuel with
  | zero =>
    intro listed a w _ hcl hr hy hS H
    refine ⟨fun h => (by rw [h] at hr; cases hr), fun j hj => ?_⟩
    by_cases hji : j = i
    · subst hji; exact hy.wpOp hi hS ⟨hS, H⟩
    · exact (late_no hm hw hL hcl hr hj hji H.1).elim
  | succ fuel ih =>
    intro listed a w hfree hcl hr hy hS H
    refine ⟨fun h => (by rw [h] at hr; cases hr), fun j hj => ?_⟩
    by_cases hji : j = i
    · subst hji; exact hy.wpOp hi hS ⟨hS, H⟩
    · have h1 := H.2 j (ready_mono hj hji)
      obtain ⟨hjun, oj, hoj, hall⟩ := mem_ready.1 hj
      have hnot : ∀ e ∈ oj.after, Region.binds md e = true → e.on ≠ i := fun e he hb heq => by
        have h1 := hall e he hb
        rw [heq, getD_no (mem_ready.1 hr).1] at h1
        cases h1
      have h2 := wpOp_putIf hoj (hfree j oj hoj hji hjun hnot) (fun cs b => hsel i oi cs b hi) (fun cs b => hsel j oj cs b hoj) hQ hy h1
      refine wpOp_mono (fun a' w' h3 => ⟨h3.2.1, ih (listed.setIfInBounds j true) a' w' (fun k ok hk hki hun hno => hfree k ok hk hki ?_ hno) (hcl.list hj) (ready_mono hr (Ne.symm hji)) h3.1 h3.2.1 ?_⟩) h2
      · by_cases hjk : j = k
        · subst hjk; exact hjun
        · rw [getD_set_ne true hjk] at hun; exact hun
      · rw [Array.setIfInBounds_comm _ _ hji]
        exact h3.2.2

/-- the order is: those of the list (true: it only reads and is taken first; false: it is the only one that may come) -/
def ordB (md : Region.Mode) (ops : Array Oper) (m : Nat) (Lm : Array Bool) : List (Nat × Bool) → Array Bool → Bool
  | [], listed => listed == Lm
  | (i, true) :: l, listed => (Region.ready md ops listed).contains i && Region.free md ops listed i && tWanted md ops m i && tClosed md ops listed && ordB md ops m Lm l (listed.setIfInBounds i true)
  | (i, false) :: l, listed => (Region.ready md ops listed == [i]) && ordB md ops m Lm l (listed.setIfInBounds i true)
/-- the walk in that order -/
def wpOrd (P : Program) (ops : Array Oper) (Q : Exit → Act → World → Prop) (S : World → Prop) (R : Act → World → Prop) : List (Nat × Bool) → Act → World → Prop
  | [], a, w => R a w
  | (i, true) :: l, a, w => S w ∧ ∃ oi v, ops[i]? = some oi ∧ YieldsIf P ops S oi v a ∧ wpOrd P ops Q S R l (a.put oi.dst v) w
  | (i, false) :: l, a, w => wpOp P ops Q i (fun a' w' => S w' ∧ wpOrd P ops Q S R l a' w') a w
theorem wpHT_ord {Lm : Array Bool} {R : Act → World → Prop} {m : Nat} (hs : Region.noSelect ops = true) (hQ : ∀ c a d v w, Q (.panic c) (Act.put a d v) w → Q (.panic c) a w) (hm : Region.ready md ops Lm = [m]) (hL : ∀ d, d < m → Lm.getD d false = true) :
    ∀ (l : List (Nat × Bool)) (listed : Array Bool) (a : Act) (w : World), ordB md ops m Lm l listed = true → wpOrd P ops Q S R l a w → wpHT P md ops Q S Lm R l.length listed a w
  | [], listed, a, w, hB, h => ⟨by simpa [ordB] using hB, h⟩
  | (i, true) :: l, listed, a, w, hB, h => by
    simp only [ordB, Bool.and_eq_true] at hB
    obtain ⟨⟨⟨⟨hr, hf⟩, hw⟩, hc⟩, hB'⟩ := hB
    obtain ⟨hS, oi, v, hi, hy, hK⟩ := h
    exact wpHT_first hi (Region.noSelect_spec hs) (fun c a w => hQ c a _ _ w) hm hw hL l.length listed a w (Region.free_spec hi hf) (rclosed_of hc) (by simpa using hr) hy hS (wpHT_ord hs hQ hm hL l _ _ _ hB' hK)
  | (i, false) :: l, listed, a, w, hB, h => by
    simp only [ordB, Bool.and_eq_true, beq_iff_eq] at hB
    refine ⟨by rw [hB.1]; simp, fun j hj => ?_⟩
    rw [hB.1, List.mem_singleton] at hj
    subst hj
    exact wpOp_mono (fun a' w' hh => ⟨hh.1, wpHT_ord hs hQ hm hL l _ a' w' hB.2 hh.2⟩) h
/-- all the side conditions -/
def heldB (md : Region.Mode) (ops : Array Oper) (m t : Nat) (l : List (Nat × Bool)) (Lm : Array Bool) : Bool :=
  Region.noSelect ops && (l.length == m) && ordB md ops m Lm l (Array.replicate ops.size false) && tFrom md ops t m Lm && (Region.ready md ops Lm == [m]) && ((List.range m).all fun d => Lm.getD d false) && (m + t == ops.size)
end

/-- a region that draws: the operations of 'l' in that order, then those from number m on -/
theorem region_held {id : Nat} {Q : Exit → Act → World → Prop} {a : Act} {w : World} {ol : List Oper} (S : World → Prop) (m : Nat) (l : List (Nat × Bool)) (Lm : Array Bool) (hm : Try.prog.follows .mixedOrders = true)
    (hB : heldB .any ol.toArray m (ol.length - m) l Lm = true) (hQ : ∀ c a d v w, Q (.panic c) (Act.put a d v) w → Q (.panic c) a w)
    (h : wpOrd Try.prog ol.toArray Q S (wpList Try.prog ol.toArray Q (ol.drop m)) l a w.drew) : (Code.region id ol.toArray true).wp Try.prog Q a w := by
  simp only [heldB, Bool.and_eq_true, beq_iff_eq] at hB
  obtain ⟨⟨⟨⟨⟨⟨hs, hl⟩, hB1⟩, hB2⟩, hm1⟩, hL⟩, hsz⟩ := hB
  refine wp_region_any hm ?_
  have hlen : (ol.drop m).length = ol.length - m := by simp
  have h1 := wpHT_ord (md := .any) (ops := ol.toArray) (S := S) hs hQ hm1 (fun d hd => by simpa using List.all_eq_true.1 hL d (List.mem_range.2 hd)) l _ a w.drew hB1 h
  have h2 := wpAny_of_HT (t := ol.length - m) (fun a w hR => by
    have := wpAny_of_list (P := Try.prog) (ops := ol.toArray) (md := .any) (Q := Q) (ol.drop m) m Lm a w (fun j hj => by simp) (by rw [hlen]; exact hB2) hR
    rwa [hlen] at this) _ _ _ _ h1
  rw [hl, hsz] at h2
  exact h2
/-- it yields a value, or nothing comes of it: it is no call, it defers nothing -/
def plainOp : Op → Bool
  | .move _ | .assign _ | .build _ _ | .load _ _ | .binOp _ _ _ _ _ | .unOp _ _ _ | .convert _ _ _ | .fieldAddr _ _ _ | .field _ _ _ | .indexAddr _ _ _ | .index _ _ _ | .slice _ _ _ _ _ => true
  | _ => false
theorem value_of {P : Program} {s : Sem Value} {w w' : World} {n : Next} (h : (do pure (Next.value (← s)) : Sem Next).run P w = .ok n w') : ∃ u, n = .value u := by
  rw [Sem.run_bind] at h
  cases hs : s.run P w with
  | ok x w1 =>
    rw [hs] at h
    simp only [Result.andThen, Sem.run_pure] at h
    cases h
    exact ⟨_, rfl⟩
  | halt x w1 =>
    rw [hs] at h
    simp [Result.andThen] at h
theorem plain_value {P : Program} {r : Operand → Value} {o : Oper} {w w' : World} {n : Next} (hp : plainOp o.op = true) (h : (execOp r o).run P w = .ok n w') : ∃ u, n = .value u := by
  unfold execOp at h
  cases ho : o.op <;> rw [ho] at hp h <;> first | (simp [plainOp] at hp; done) | exact value_of h | (simp only [Sem.run_pure] at h; cases h; exact ⟨_, rfl⟩)
theorem yieldsIf_of_in {P : Program} {ops : Array Oper} {S : World → Prop} {o : Oper} {v : Value} {a : Act} (hp : plainOp o.op = true) (h : YieldsIn P ops S o v a) : YieldsIf P ops S o v a := by
  rcases h with ⟨hw, h⟩ | h
  · refine .inl ⟨hw, fun w hS => ?_⟩
    have h1 := h w hS
    unfold Oper.quietAt at h1
    cases hr : (execOp a.eval o).run P w with
    | ok n w' =>
      obtain ⟨u, rfl⟩ := plain_value hp hr
      rw [hr] at h1
      obtain ⟨rfl, rfl⟩ := h1
      rfl
    | halt x w' =>
      rw [hr] at h1
      exact h1.elim
  · exact .inr h
def opersAt (ol : List Oper) : List Nat → List Oper
  | [] => []
  | i :: l => match ol[i]? with
    | some o => o :: opersAt ol l
    | none => opersAt ol l
/-- the operations of the list come one by one, alone; the class holds behind each -/
def wpAlone (P : Program) (Q : Exit → Act → World → Prop) (S : World → Prop) (R : Act → World → Prop) : List Oper → Act → World → Prop
  | [], a, w => R a w
  | o :: l, a, w => ∀ K : Act → World → Prop, (∀ a' w', S w' → wpAlone P Q S R l a' w' → K a' w') → o.wp P a w K Q
def plainB (ol : List Oper) (l1 l2 : List Nat) : Bool := (l1.all fun i => match ol[i]? with | some o => plainOp o.op | none => false) && (l2.all fun i => match ol[i]? with | some o => o.guard.isNone | none => false)
theorem ord_alone {P : Program} {ol : List Oper} {Q : Exit → Act → World → Prop} {S : World → Prop} {R : Act → World → Prop} : ∀ (l : List Nat) (a : Act) (w : World), (l.all fun i => match ol[i]? with | some o => o.guard.isNone | none => false) = true →
    wpAlone P Q S R (opersAt ol l) a w → wpOrd P ol.toArray Q S R (l.map fun i => (i, false)) a w
  | [], _, _, _, h => h
  | i :: l, a, w, hB, h => by
    simp only [List.all_cons, Bool.and_eq_true] at hB
    cases ho : ol[i]? with
    | none => simp [ho] at hB
    | some o =>
      simp only [ho] at hB
      have hw : Region.wanted o (yielded ol.toArray a.tmps) = true := by
        cases hg : o.guard with
        | none => simp [Region.wanted, hg]
        | some x => rw [hg] at hB; simp at hB
      simp only [opersAt, ho, wpAlone] at h
      have hi : ol.toArray[i]? = some o := by simpa using ho
      simp only [List.map_cons, wpOrd, wpOp, hi, hw, if_true]
      exact .inl (h _ fun a' w' hS hh => ⟨hS, ord_alone l a' w' hB.2 hh⟩)
theorem ord_quiet {P : Program} {ol : List Oper} {Q : Exit → Act → World → Prop} {S : World → Prop} {R : Act → World → Prop} {l2 : List (Nat × Bool)} {w : World} (hS : S w) : ∀ (l : List Nat) (a : Act), (l.all fun i => match ol[i]? with | some o => plainOp o.op | none => false) = true →
    wpQuiet P ol.toArray S (fun a' => wpOrd P ol.toArray Q S R l2 a' w) (opersAt ol l) a → wpOrd P ol.toArray Q S R ((l.map fun i => (i, true)) ++ l2) a w
  | [], _, _, h => h
  | i :: l, a, hB, h => by
    simp only [List.all_cons, Bool.and_eq_true] at hB
    cases ho : ol[i]? with
    | none => simp [ho] at hB
    | some o =>
      simp only [ho] at hB
      have hi : ol.toArray[i]? = some o := by simpa using ho
      simp only [opersAt, ho] at h
      obtain ⟨v, hy, hK⟩ := yieldsIn_of_qOp (i := i) (K := wpQuiet P ol.toArray S (fun a' => wpOrd P ol.toArray Q S R l2 a' w) (opersAt ol l)) hi (by unfold qOp; simp only [hi]; exact h)
      exact ⟨hS, o, v, hi, yieldsIf_of_in hB.1 hy, ord_quiet hS l _ hB.2 hK⟩
/-- a region that draws: those of l1 only read and are taken first (none is a call); those of l2 come one by one behind them and leave the old blocks alone; those from number m on come last -/
theorem region_mid {id : Nat} {Q : Exit → Act → World → Prop} {a : Act} {w : World} {ol : List Oper} (m : Nat) (l1 l2 : List Nat) (Lm : Array Bool) (hm : Try.prog.follows .mixedOrders = true)
    (hB : (plainB ol l1 l2 && heldB .any ol.toArray m (ol.length - m) ((l1.map fun i => (i, true)) ++ (l2.map fun i => (i, false))) Lm) = true) (hQ : ∀ c a d v w, Q (.panic c) (Act.put a d v) w → Q (.panic c) a w)
    (h : wpQuiet Try.prog ol.toArray (fun w' => ∃ X : Junk, w' = junk w X) (fun a' => wpAlone Try.prog Q (fun w' => ∃ X : Junk, w' = junk w X) (wpList Try.prog ol.toArray Q (ol.drop m)) (opersAt ol l2) a' w.drew) (opersAt ol l1) a) : (Code.region id ol.toArray true).wp Try.prog Q a w := by
  simp only [Bool.and_eq_true, plainB] at hB
  refine region_held (fun w' => ∃ X : Junk, w' = junk w X) m _ Lm hm hB.2 hQ (ord_quiet (Jk.refl w).drew l1 a hB.1.1 ?_)
  have mono : ∀ (l : List Oper) (a : Act), wpQuiet Try.prog ol.toArray (fun w' => ∃ X : Junk, w' = junk w X) (fun a' => wpAlone Try.prog Q (fun w' => ∃ X : Junk, w' = junk w X) (wpList Try.prog ol.toArray Q (ol.drop m)) (opersAt ol l2) a' w.drew) l a →
      wpQuiet Try.prog ol.toArray (fun w' => ∃ X : Junk, w' = junk w X) (fun a' => wpOrd Try.prog ol.toArray Q (fun w' => ∃ X : Junk, w' = junk w X) (wpList Try.prog ol.toArray Q (ol.drop m)) (l2.map fun i => (i, false)) a' w.drew) l a := by
    intro l
    induction l with
    | nil => intro a h; exact ord_alone l2 a _ hB.1.2 h
    | cons o l ih =>
      intro a h
      simp only [wpQuiet] at h ⊢
      split
      · rename_i hw
        simp only [hw, if_true] at h
        exact Oper.quiet_mono (fun a h => ih a h) h
      · rename_i hw
        simp only [hw] at h
        exact ih _ h
  exact mono _ a h

end Go.Proofs.Ytnjfbmnecfiliaa
