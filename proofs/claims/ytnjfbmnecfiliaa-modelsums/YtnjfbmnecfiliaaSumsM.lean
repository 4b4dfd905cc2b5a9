/- Sums of a model with a tree more, of one without trees. -/
import Derived.Test.YtnjfbmnecfiliaaAppTwo
namespace Go.Proofs.Ytnjfbmnecfiliaa
open Go.RowKit M

theorem sumTo_app (ts us : List Tr) (p : Int → Int) (c : Int) : ∀ j, j ≤ ts.length → sumTo (ts ++ us) p c j = sumTo ts p c j
  | 0, _ => rfl
  | j + 1, h => by simp only [sumTo, sumTo_app ts us p c j (by omega), tA_append_left _ _ _ (show j < ts.length by omega)]
theorem sum_more (m : Md) (t : Tr) (a : Option Addr) (n c : Nat) (p : Int → Int) (C : Int) : Md.sum { m with a := a, n := n, c := c, ts := m.ts ++ [t] } p C = m.sum p C + (if t.cl = C then valW t.ws p else 0) := by
  simp only [Md.sum, Md.b, List.length_append, List.length_cons, List.length_nil, Nat.zero_add, sumTo, sumTo_app _ _ _ _ _ (Nat.le_refl _), tA_last]
  omega
theorem sum_bare (m : Md) (p : Int → Int) (C : Int) : Md.sum { m with a := none, n := 0, c := 0, ts := [] } p C = m.b C := by
  simp [Md.sum, Md.b, sumTo]
theorem sizeI_app (ts us : List Tr) : ∀ j, j ≤ ts.length → sizeI (ts ++ us) j = sizeI ts j
  | 0, _ => rfl
  | j + 1, h => by simp only [sizeI, sizeI_app ts us j (by omega), tA_append_left _ _ _ (show j < ts.length by omega)]
theorem sizeI_small {ts : List Tr} : ∀ j : Nat, j ≤ 100 → (∀ i, i < j → (tA ts i).n ≤ 15) → 0 ≤ sizeI ts j ∧ sizeI ts j ≤ 15 * j
  | 0, _, _ => by simp [sizeI]
  | j + 1, h, hs => by
    have h1 := sizeI_small j (by omega) fun i hi => hs i (by omega)
    have h2 := hs j (by omega)
    simp only [sizeI]
    rw [IntWalk.wrap64_in _ ⟨by omega, by omega⟩]
    omega
theorem size_more {ts : List Tr} {t : Tr} {n : Nat} (hl : ts.length = n) (hn : n ≤ 50) (hs : ∀ i, i < n → (tA ts i).n ≤ 15) (ht : t.n ≤ 15) : sizeI (ts ++ [t]) (n + 1) = sizeI ts n + (t.n : Int) := by
  have h1 := sizeI_small n (by omega) hs
  subst hl
  simp only [sizeI, sizeI_app _ _ _ (Nat.le_refl _), tA_last]
  exact IntWalk.wrap64_in _ ⟨by omega, by omega⟩
theorem RightM.more {m : Md} (h : RightM m) {t : Tr} (ht : TrP m.k m.d t) (hn : m.ts.length ≤ 7) (a : Option Addr) (n c : Nat) : RightM { m with a := a, n := n, c := c, ts := m.ts ++ [t] } := by
  refine ⟨h.d1, h.d4, h.k1, h.k3, h.bias, by simp; omega, fun i hi => ?_⟩
  simp at hi
  by_cases e : i < m.ts.length
  · simp only [tA_append_left _ _ _ e]
    exact h.trees.2 i e
  · obtain rfl : i = m.ts.length := by omega
    simp only [tA_last]
    exact ht
theorem RightM.bare {m : Md} (h : RightM m) : RightM { m with a := none, n := 0, c := 0, ts := [] } := ⟨h.d1, h.d4, h.k1, h.k3, h.bias, by simp, fun i hi => by simp at hi⟩
theorem IsT.none (w : World) : IsT w none 0 0 [] := ⟨rfl, Nat.le_refl _, by unfold maxLen; omega, fun i hi => by omega, fun h => by omega⟩
theorem at_world {ops : Array Oper} {o : Oper} {act : Act} {K : Act → World → Prop} {Q : Exit → Act → World → Prop} {E : Prop} (w : World) (h : if Region.wanted o (yielded ops act.tmps) = true then Oper.wp Try.prog o act w K Q else E) : if Region.wanted o (yielded ops act.tmps) = true then Oper.wp Try.prog o act w K Q else E := h
theorem step_app0 {ops : Array Oper} {o : Oper} {act : Act} {K : Act → World → Prop} {Q : Exit → Act → World → Prop} {E : Prop} {B : Nat} {w : World} {b n c : Nat} {a : Option Addr} {ts : List Tr} (hgd : o.guard = none) (s x : Operand) (ho : o.op = .call { callee := .builtin .append, args := #[s, x], argTypes := #[27, 27] })
    (hown : OwnT B w (.slice (some ⟨b, 0, none⟩) 0 0) 0 []) (hB : B ≤ w.heap.size) (hs : act.eval s = .slice (some ⟨b, 0, none⟩) 0 0) (hx : act.eval x = .slice a n c) (hT : IsT w a n c ts) (hn : n ≤ 1000)
    (h : ∀ g' c' w', OwnT B w' (.slice (some ⟨g', 0, none⟩) n c') n ts → w.grownBy w' (some b) → K (act.put o.dst (.slice (some ⟨g', 0, none⟩) n c')) w') : if Region.wanted o (yielded ops act.tmps) = true then Oper.wp Try.prog o act w K Q else E := by
  have hw : Region.wanted o (yielded ops act.tmps) = true := by simp [Region.wanted, hgd]
  rw [if_pos hw]
  exact wp_app0 s x ho hown hB hs hx hT hn h

end Go.Proofs.Ytnjfbmnecfiliaa
