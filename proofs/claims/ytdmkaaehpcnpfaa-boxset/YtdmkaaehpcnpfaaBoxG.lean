/- What Largest of a Set (package box) answers, over a map that lies in memory: the box that is counted most, of several such the first by order. The map may be ranged over in whatever order. -/
import Derived.Test.YtdmkaaehpcnpfaaBoxF
import Derived.Test.YtdmkaaehpcnpfaaBoxS
import Derived.Maps.RangeWalk
namespace Go.Proofs.Ytdmkaaehpcnpfaa
open Go.RowKit Go.Maps M

theorem lits_int_inv {n : Nat} {c : Value} {ls : List Lit} (h : Try.prog.keyLits (n + 1) 3 [c] = some ls) : ∃ a : Int, c = .int .i64 a ∧ I64 a := by
  unfold Program.keyLits at h
  rw [Try.underlying3] at h
  cases c <;> simp at h
  rename_i q a
  obtain ⟨⟨rfl, hw⟩, _⟩ := h
  exact ⟨a, rfl, bdi hw⟩
theorem lits_span_inv {n : Nat} {c d : Value} {ls : List Lit} (h : Try.prog.keyLits (n + 2) 23 [c, d] = some ls) : ∃ s : Sp, s.ok ∧ c = .int .i64 s.lo ∧ d = .int .i64 s.hi := by
  unfold Program.keyLits at h
  rw [Try.underlying23] at h
  simp [cSpan, cInt] at h
  cases h1 : Try.prog.keyLits (n + 1) 3 [c] with
  | none => simp [h1] at h
  | some l1 =>
    cases h2 : Try.prog.keyLits (n + 1) 3 [d] with
    | none => simp [h1, h2] at h
    | some l2 =>
      obtain ⟨a, rfl, wa⟩ := lits_int_inv h1
      obtain ⟨b, rfl, wb⟩ := lits_int_inv h2
      exact ⟨⟨a, b⟩, ⟨wa, wb⟩, rfl, rfl⟩
/-- what reads as a key of that type is a box -/
theorem key_inv {key : Value} {kl : Lit} (h : keyOf Try.prog 25 key = some kl) : ∃ x : Bx, x.ok ∧ key = boxV x := by
  unfold keyOf at h
  rw [Try.underlying25] at h
  simp only at h
  split at h
  · rename_i hf
    simp only [Bool.and_eq_true] at hf
    obtain ⟨_, hf⟩ := hf
    unfold Value.formed at hf
    rw [Try.underlying25] at hf
    cases key <;> simp at hf
    rename_i cs
    rw [cBox] at hf
    obtain ⟨l⟩ := cs
    match l, hf with
    | [c0, c1, c2, c3, c4, c5, c6, c7, c8, c9], _ =>
    obtain ⟨N, hN⟩ := nTypes
    rw [hN] at h
    unfold Program.keyLits at h
    rw [Try.underlying25] at h
    have hr : List.range 5 = [0, 1, 2, 3, 4] := rfl
    simp [Value.cells, cBox, cSpan, hr] at h
    cases h0 : Try.prog.keyLits (N + 2) 23 [c0, c1] with
    | none => simp [h0] at h
    | some l0 =>
    cases h1 : Try.prog.keyLits (N + 2) 23 [c2, c3] with
    | none => simp [h0, h1] at h
    | some l1 =>
    cases h2 : Try.prog.keyLits (N + 2) 23 [c4, c5] with
    | none => simp [h0, h1, h2] at h
    | some l2 =>
    cases h3 : Try.prog.keyLits (N + 2) 23 [c6, c7] with
    | none => simp [h0, h1, h2, h3] at h
    | some l3 =>
    cases h4 : Try.prog.keyLits (N + 2) 23 [c8, c9] with
    | none => simp [h0, h1, h2, h3, h4] at h
    | some l4 =>
    obtain ⟨s0, k0, rfl, rfl⟩ := lits_span_inv h0
    obtain ⟨s1, k1, rfl, rfl⟩ := lits_span_inv h1
    obtain ⟨s2, k2, rfl, rfl⟩ := lits_span_inv h2
    obtain ⟨s3, k3, rfl, rfl⟩ := lits_span_inv h3
    obtain ⟨s4, k4, rfl, rfl⟩ := lits_span_inv h4
    exact ⟨⟨s0, s1, s2, s3, s4⟩, ⟨k0, k1, k2, k3, k4⟩, rfl⟩
  · cases h

theorem boxV_inj {x y : Bx} (h : boxV x = boxV y) : x = y := by
  obtain ⟨⟨⟩, ⟨⟩, ⟨⟩, ⟨⟩, ⟨⟩⟩ := x
  obtain ⟨⟨⟩, ⟨⟩, ⟨⟩, ⟨⟩, ⟨⟩⟩ := y
  simp at h
  simp [h]
theorem key_inj {x y : Bx} {l : Lit} (h1 : keyOf Try.prog 25 (boxV x) = some l) (h2 : keyOf Try.prog 25 (boxV y) = some l) : x = y := boxV_inj (lawBox.inj h1 h2)

abbrev nilB : Bx := ⟨⟨0, 0⟩, ⟨0, 0⟩, ⟨0, 0⟩, ⟨0, 0⟩, ⟨0, 0⟩⟩
/-- the map has the box y, counted c -/
def At (D : DataW Unit) (y : Bx) (c : Int) : Prop := ∃ yl, keyOf Try.prog 25 (boxV y) = some yl ∧ Maps.has D yl = true ∧ ∀ z, D.atKey yl z = .lit (.int .i64 c)
/-- what has been seen of a map, and the best of it -/
def Seen (D : DataW Unit) (left : Lit → Bool) (f : Bool) (x : Bx) (k : Int) : Prop :=
  (f = false ∧ x = nilB ∧ k = 0 ∧ ∀ kl, Maps.has D kl = true → left kl = true) ∨
  (f = true ∧ At D x k ∧ ∀ (y : Bx) (yl : Lit) (c : Int), keyOf Try.prog 25 (boxV y) = some yl → Maps.has D yl = true → left yl = false → (∀ z, D.atKey yl z = .lit (.int .i64 c)) → c ≤ k ∧ (c = k → y.bef x = false))
theorem same_at {D : DataW Unit} {l : Lit} {a c : Int} (h1 : ∀ z, D.atKey l z = .lit (.int .i64 a)) (h2 : ∀ z, D.atKey l z = .lit (.int .i64 c)) : c = a := same_lit (h1 .nil) (h2 .nil)
theorem struck {left : Lit → Bool} {z kl : Lit} (h : (left z && !z.sameKey kl) = false) : left z = false ∨ z = kl := by
  cases h1 : left z
  · exact Or.inl rfl
  · rw [h1] at h
    exact Or.inr (WideAt.sameKey_eq (by simpa using h))
theorem seen_start (D : DataW Unit) : Seen D (Maps.has D) false nilB 0 := Or.inl ⟨rfl, rfl, rfl, fun _ h => h⟩
theorem seen_first {D : DataW Unit} {left : Lit → Bool} {x y : Bx} {k c : Int} {kl : Lit} (h : Seen D left false x k) (hk : keyOf Try.prog 25 (boxV y) = some kl) (hh : Maps.has D kl = true) (ha : ∀ z, D.atKey kl z = .lit (.int .i64 c)) :
    Seen D (fun z => left z && !z.sameKey kl) true y c := by
  rcases h with ⟨_, _, _, h⟩ | ⟨h, _⟩
  · refine Or.inr ⟨rfl, ⟨kl, hk, hh, ha⟩, fun y' yl c' hk' hh' hl ha' => ?_⟩
    rcases struck hl with e | rfl
    · rw [h _ hh'] at e; cases e
    · obtain rfl := key_inj hk hk'
      obtain rfl := same_at ha ha'
      exact ⟨Int.le_refl _, fun _ => Bx.bef_self _⟩
  · cases h
theorem seen_take {D : DataW Unit} {left : Lit → Bool} {x y : Bx} {k c : Int} {kl : Lit} (h : Seen D left true x k) (hk : keyOf Try.prog 25 (boxV y) = some kl) (hh : Maps.has D kl = true) (ha : ∀ z, D.atKey kl z = .lit (.int .i64 c)) (hb : k < c ∨ c = k ∧ y.bef x = true) :
    Seen D (fun z => left z && !z.sameKey kl) true y c := by
  rcases h with ⟨h, _⟩ | ⟨_, _, h⟩
  · cases h
  · refine Or.inr ⟨rfl, ⟨kl, hk, hh, ha⟩, fun y' yl c' hk' hh' hl ha' => ?_⟩
    rcases struck hl with e | rfl
    · obtain ⟨h1, h2⟩ := h y' yl c' hk' hh' e ha'
      refine ⟨by omega, fun e2 => ?_⟩
      rcases hb with hb | ⟨rfl, hb⟩
      · omega
      · cases h3 : y'.bef y
        · rfl
        · rw [Bx.bef_trans h3 hb] at h2
          exact absurd (h2 e2) (by simp)
    · obtain rfl := key_inj hk hk'
      obtain rfl := same_at ha ha'
      exact ⟨Int.le_refl _, fun _ => Bx.bef_self _⟩
theorem seen_leave {D : DataW Unit} {left : Lit → Bool} {x y : Bx} {k c : Int} {kl : Lit} (h : Seen D left true x k) (hk : keyOf Try.prog 25 (boxV y) = some kl) (ha : ∀ z, D.atKey kl z = .lit (.int .i64 c)) (hb : c < k ∨ c = k ∧ y.bef x = false) :
    Seen D (fun z => left z && !z.sameKey kl) true x k := by
  rcases h with ⟨h, _⟩ | ⟨_, h0, h⟩
  · cases h
  · refine Or.inr ⟨rfl, h0, fun y' yl c' hk' hh' hl ha' => ?_⟩
    rcases struck hl with e | rfl
    · exact h y' yl c' hk' hh' e ha'
    · obtain rfl := key_inj hk hk'
      obtain rfl := same_at ha ha'
      rcases hb with hb | ⟨rfl, hb⟩
      · exact ⟨by omega, fun e => by omega⟩
      · exact ⟨Int.le_refl _, fun _ => hb⟩

theorem box_frozen {w : World} {g : Nat} {x : Bx} (h : w.heap[g]? = some (boxC x)) : ∀ i, w.frozen? ⟨g, i, none⟩ = false := by
  intro i
  simp [World.frozen?, h]
theorem before_is {x y : Bx} {b : Bool} (h : x.bef y = b) (w : World) : Calls Try.prog 30 #[boxV x, boxV y] w fun e w' => e = .returned (.bool b) ∧ Jk w w' := h ▸ before_any x y w
theorem lt_more {n m : Nat} (h : n < m) : n < m ∧ (∀ a : Nat, n < m + a) ∧ (∀ a b : Nat, n < m + a + b) ∧ (∀ a b c : Nat, n < m + a + b + c) ∧ (∀ a b c d : Nat, n < m + a + b + c + d) := by
  refine ⟨h, ?_, ?_, ?_, ?_⟩ <;> (intros; omega)
theorem heap_lt {w : World} {o : Obj} {g : Nat} (h : w.heap[g]? = some o) : g < w.heap.size := (Array.getElem?_eq_some_iff.1 h).1

end Go.Proofs.Ytdmkaaehpcnpfaa
