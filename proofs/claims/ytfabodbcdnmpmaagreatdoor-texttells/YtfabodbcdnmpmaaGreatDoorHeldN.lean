/- The law 'region_mid' of Held, where one of the operations that only read is a nil check. No conditions. -/
import Derived.Test.YtfabodbcdnmpmaaGreatDoorHeld
namespace Go.Proofs.YtfabodbcdnmpmaaGreatDoor
open Go

def AllVal (P : Program) (s : Sem Next) : Prop := ∀ w n w', s.run P w = .ok n w' → ∃ u, n = .value u
theorem allVal_pure (P : Program) (u : Value) : AllVal P (pure (Next.value u)) := fun w n w' h => by
  simp only [Sem.run_pure] at h
  cases h
  exact ⟨_, rfl⟩
theorem allVal_bind {P : Program} {α : Type} (m : Sem α) (f : α → Sem Next) (h : ∀ x, AllVal P (f x)) : AllVal P (m >>= f) := fun w n w' e => by
  rw [Sem.run_bind] at e
  cases hm : m.run P w with
  | ok x w1 => rw [hm] at e; exact h x w1 n w' e
  | halt x w1 => rw [hm] at e; simp [Result.andThen] at e
theorem allVal_go {P : Program} (v : Value) : AllVal P (goPanic v) := fun w n w' e => by
  simp [goPanic, go_sem] at e
theorem allVal_panic {P : Program} (r : RuntimeError) : AllVal P (runtimePanic r) := by
  unfold runtimePanic
  refine allVal_bind _ _ fun p => ?_
  split <;> first | exact allVal_go _ | exact allVal_bind _ _ fun _ => allVal_bind _ _ fun _ => allVal_go _
theorem allVal_nil {P : Program} {r : Operand → Value} {o : Oper} {x : Operand} (ho : o.op = .nilCheck x) : AllVal P (execOp r o) := by
  unfold execOp
  rw [ho]
  simp only
  split
  · exact allVal_panic _
  · exact allVal_panic _
  · exact allVal_panic _
  · split
    · exact allVal_panic _
    · refine allVal_bind _ _ fun p => allVal_bind _ _ fun q => ?_
      split
      · exact allVal_bind _ _ fun _ => allVal_pure _ _
      · exact allVal_pure _ _
    · exact allVal_pure _ _
  · exact allVal_pure _ _
def plainOpN : Op → Bool
  | .move _ | .assign _ | .build _ _ | .load _ _ | .binOp _ _ _ _ _ | .unOp _ _ _ | .convert _ _ _ | .fieldAddr _ _ _ | .field _ _ _ | .indexAddr _ _ _ | .index _ _ _ | .slice _ _ _ _ _ | .nilCheck _ => true
  | _ => false
theorem plain_valueN {P : Program} {r : Operand → Value} {o : Oper} {w w' : World} {n : Next} (hp : plainOpN o.op = true) (h : (execOp r o).run P w = .ok n w') : ∃ u, n = .value u := by
  by_cases hn : ∃ x, o.op = .nilCheck x
  · obtain ⟨x, hx⟩ := hn
    exact allVal_nil hx w n w' h
  · refine plain_value ?_ h
    cases ho : o.op <;> rw [ho] at hp hn <;> first | rfl | (simp [plainOpN] at hp; done) | exact absurd ⟨_, rfl⟩ hn
theorem yieldsIf_of_inN {P : Program} {ops : Array Oper} {S : World → Prop} {o : Oper} {v : Value} {a : Act} (hp : plainOpN o.op = true) (h : YieldsIn P ops S o v a) : YieldsIf P ops S o v a := by
  rcases h with ⟨hw, h⟩ | h
  · refine .inl ⟨hw, fun w hS => ?_⟩
    have h1 := h w hS
    unfold Oper.quietAt at h1
    cases hr : (execOp a.eval o).run P w with
    | ok n w' =>
      obtain ⟨u, rfl⟩ := plain_valueN hp hr
      rw [hr] at h1
      obtain ⟨rfl, rfl⟩ := h1
      rfl
    | halt x w' =>
      rw [hr] at h1
      exact h1.elim
  · exact .inr h
def plainBN (ol : List Oper) (l1 l2 : List Nat) : Bool := (l1.all fun i => match ol[i]? with | some o => plainOpN o.op | none => false) && (l2.all fun i => match ol[i]? with | some o => o.guard.isNone | none => false)
theorem ord_quietN {P : Program} {ol : List Oper} {Q : Exit → Act → World → Prop} {S : World → Prop} {R : Act → World → Prop} {l2 : List (Nat × Bool)} {w : World} (hS : S w) : ∀ (l : List Nat) (a : Act), (l.all fun i => match ol[i]? with | some o => plainOpN o.op | none => false) = true →
    wpQuiet P ol.toArray S (fun a' => wpOrd P ol.toArray Q S R l2 a' w) (opersAt ol l) a → wpOrd P ol.toArray Q S R ((l.map fun i => (i, true)) ++ l2) a w
  | [], _, _, h => h
  | i :: l, a, hB, h => by
    simp only [List.all_cons, Bool.and_eq_true] at hB
    cases ho : ol[i]? with
    | none => simp [ho] at hB
    | some o =>
      simp only [ho] at hB
      have hi : ol.toArray[i]? = some o := by simpa using ho
      simp only [opersAt, ho] at h
      obtain ⟨v, hy, hK⟩ := yieldsIn_of_qOp (i := i) (K := wpQuiet P ol.toArray S (fun a' => wpOrd P ol.toArray Q S R l2 a' w) (opersAt ol l)) hi (by unfold qOp; simp only [hi]; exact h)
      exact ⟨hS, o, v, hi, yieldsIf_of_inN hB.1 hy, ord_quietN hS l _ hB.2 hK⟩
/-- a region that draws: those of l1 only read and are taken first (none is a call); those of l2 come one by one behind them and leave the old blocks alone; those from number m on come last -/
theorem region_midN {id : Nat} {Q : Exit → Act → World → Prop} {a : Act} {w : World} {ol : List Oper} (m : Nat) (l1 l2 : List Nat) (Lm : Array Bool) (hm : Tryz.prog.follows .mixedOrders = true)
    (hB : (plainBN ol l1 l2 && heldB .any ol.toArray m (ol.length - m) ((l1.map fun i => (i, true)) ++ (l2.map fun i => (i, false))) Lm) = true) (hQ : ∀ c a d v w, Q (.panic c) (Act.put a d v) w → Q (.panic c) a w)
    (h : wpQuiet Tryz.prog ol.toArray (fun w' => ∃ X : Junk, w' = junk w X) (fun a' => wpAlone Tryz.prog Q (fun w' => ∃ X : Junk, w' = junk w X) (wpList Tryz.prog ol.toArray Q (ol.drop m)) (opersAt ol l2) a' w.drew) (opersAt ol l1) a) : (Code.region id ol.toArray true).wp Tryz.prog Q a w := by
  simp only [Bool.and_eq_true, plainBN] at hB
  refine region_held (fun w' => ∃ X : Junk, w' = junk w X) m _ Lm hm hB.2 hQ (ord_quietN (Jk.refl w).drew l1 a hB.1.1 ?_)
  have mono : ∀ (l : List Oper) (a : Act), wpQuiet Tryz.prog ol.toArray (fun w' => ∃ X : Junk, w' = junk w X) (fun a' => wpAlone Tryz.prog Q (fun w' => ∃ X : Junk, w' = junk w X) (wpList Tryz.prog ol.toArray Q (ol.drop m)) (opersAt ol l2) a' w.drew) l a →
      wpQuiet Tryz.prog ol.toArray (fun w' => ∃ X : Junk, w' = junk w X) (fun a' => wpOrd Tryz.prog ol.toArray Q (fun w' => ∃ X : Junk, w' = junk w X) (wpList Tryz.prog ol.toArray Q (ol.drop m)) (l2.map fun i => (i, false)) a' w.drew) l a := by
    intro l
    induction l with
    | nil => intro a h; exact ord_alone l2 a _ hB.1.2 h
    | cons o l ih =>
      intro a h
      simp only [wpQuiet] at h ⊢
      split
      · rename_i hw
        simp only [hw, if_true] at h
        exact Oper.quiet_mono (fun a h => ih a h) h
      · rename_i hw
        simp only [hw] at h
        exact ih _ h
  exact mono _ a h

/-- the same, for a class of worlds of one's own: a region that draws: those of l1 only read and are taken first (none is a call); those of l2 come one by one behind them and leave the old blocks alone; those from number m on come last -/
theorem region_midSN {T : Type} (g : T → World) {id : Nat} {Q : Exit → Act → World → Prop} {a : Act} {w : World} {ol : List Oper} (m : Nat) (l1 l2 : List Nat) (Lm : Array Bool) (hm : Tryz.prog.follows .mixedOrders = true)
    (hB : (plainBN ol l1 l2 && heldB .any ol.toArray m (ol.length - m) ((l1.map fun i => (i, true)) ++ (l2.map fun i => (i, false))) Lm) = true) (hQ : ∀ c a d v w, Q (.panic c) (Act.put a d v) w → Q (.panic c) a w)
    (hS : ∃ X : T, w.drew = g X) (h : wpQuiet Tryz.prog ol.toArray (fun w' => ∃ X : T, w' = g X) (fun a' => wpAlone Tryz.prog Q (fun w' => ∃ X : T, w' = g X) (wpList Tryz.prog ol.toArray Q (ol.drop m)) (opersAt ol l2) a' w.drew) (opersAt ol l1) a) : (Code.region id ol.toArray true).wp Tryz.prog Q a w := by
  simp only [Bool.and_eq_true, plainBN] at hB
  refine region_held (fun w' => ∃ X : T, w' = g X) m _ Lm hm hB.2 hQ (ord_quietN hS l1 a hB.1.1 ?_)
  have mono : ∀ (l : List Oper) (a : Act), wpQuiet Tryz.prog ol.toArray (fun w' => ∃ X : T, w' = g X) (fun a' => wpAlone Tryz.prog Q (fun w' => ∃ X : T, w' = g X) (wpList Tryz.prog ol.toArray Q (ol.drop m)) (opersAt ol l2) a' w.drew) l a →
      wpQuiet Tryz.prog ol.toArray (fun w' => ∃ X : T, w' = g X) (fun a' => wpOrd Tryz.prog ol.toArray Q (fun w' => ∃ X : T, w' = g X) (wpList Tryz.prog ol.toArray Q (ol.drop m)) (l2.map fun i => (i, false)) a' w.drew) l a := by
    intro l
    induction l with
    | nil => intro a h; exact ord_alone l2 a _ hB.1.2 h
    | cons o l ih =>
      intro a h
      simp only [wpQuiet] at h ⊢
      split
      · rename_i hw
        simp only [hw, if_true] at h
        exact Oper.quiet_mono (fun a h => ih a h) h
      · rename_i hw
        simp only [hw] at h
        exact ih _ h
  exact mono _ a h

end Go.Proofs.YtfabodbcdnmpmaaGreatDoor
