/- Plain mathematics of chapter 9: how many lines a model's text has; the text of a model with a tree more. No program is spoken of here. -/
import Derived.Test.YtfabodbcdnmpmaaDoorMathX
namespace Go.Proofs.YtfabodbcdnmpmaaDoor.M

theorem plain_count {t : Txt} (h : plainB t = true) : t.count 10 = 0 := by
  rw [List.count_eq_zero]
  intro hm
  have := List.all_eq_true.1 h 10 hm
  revert this
  decide
theorem node_count (x : Nd) : (nodeT x).count 10 = 1 := by
  have g := fun n => plain_count (plain_dg n)
  have p := fun n => plain_count (plain_printL n)
  have c1 : kLeaf.count 10 = 0 := by decide
  have c2 : kIf.count 10 = 0 := by decide
  have c3 : kLe.count 10 = 0 := by decide
  have c4 : kThen.count 10 = 0 := by decide
  have c5 : kElse.count 10 = 0 := by decide
  unfold nodeT
  split
  · simp only [List.count_append, c1, p]; rfl
  · simp only [List.count_append, c2, c3, c4, c5, g, p]; rfl
theorem nodes_count : ∀ ws : List Int, (nodesT ws).count 10 = ws.length
  | [] => rfl
  | w :: ws => by
    have e : nodesT (w :: ws) = nodeT (unI w) ++ nodesT ws := by simp [nodesT]
    rw [e, List.count_append, node_count, nodes_count ws, List.length_cons]
    omega
theorem tree_count (t : Pt) : (treeT t).count 10 = 1 + t.ws.length := by
  have g := fun n => plain_count (plain_dg n)
  have c1 : kTree.count 10 = 0 := by decide
  have e : treeT t = kTree ++ (dg t.cl ++ ([32] ++ (dg t.ws.length ++ ([10] ++ nodesT t.ws)))) := rfl
  have c2 : ([32] : Txt).count 10 = 0 := by decide
  have c3 : ([10] : Txt).count 10 = 1 := by decide
  rw [e]
  simp only [List.count_append, c1, c2, c3, g, nodes_count]
  omega
/-- how many nodes the trees have -/
def nodesN : List Pt → Nat
  | [] => 0
  | t :: ts => t.ws.length + nodesN ts
theorem nodesN_snoc (ts : List Pt) (t : Pt) : nodesN (ts ++ [t]) = nodesN ts + t.ws.length := by
  induction ts with
  | nil => simp [nodesN]
  | cons a r ih => simp only [List.cons_append, nodesN, ih]; omega
theorem trees_count : ∀ ts : List Pt, (treesT ts).count 10 = ts.length + nodesN ts
  | [] => rfl
  | t :: ts => by
    have e : treesT (t :: ts) = treeT t ++ treesT ts := by simp [treesT]
    rw [e, List.count_append, tree_count, trees_count ts, List.length_cons, nodesN]
    omega
theorem bias_count (m : Pm) : ∀ j, (biasT m j).count 10 = 0
  | 0 => rfl
  | j + 1 => by
    have e : biasT m (j + 1) = biasT m j ++ ([32] ++ printL (m.b j)) := rfl
    have c2 : ([32] : Txt).count 10 = 0 := by decide
    rw [e, List.count_append, List.count_append, bias_count m j, c2, plain_count (plain_printL _)]
theorem text_count (m : Pm) : (textM m).count 10 = 2 + m.ts.length + nodesN m.ts := by
  have g := fun n => plain_count (plain_dg n)
  have e : textM m = kForest ++ (dg m.d ++ ([32] ++ (dg m.k ++ (kBias ++ (biasT m m.k.toNat ++ ([10] ++ treesT m.ts)))))) := rfl
  have c1 : kForest.count 10 = 0 := by decide
  have c2 : ([32] : Txt).count 10 = 0 := by decide
  have c3 : ([10] : Txt).count 10 = 1 := by decide
  have c4 : kBias.count 10 = 1 := by decide
  rw [e]
  simp only [List.count_append, c1, c2, c3, c4, g, bias_count, trees_count]
  omega
theorem text_more (d k b0 b1 b2 : Int) (ts : List Pt) (t : Pt) : textM ⟨d, k, b0, b1, b2, ts ++ [t]⟩ = textM ⟨d, k, b0, b1, b2, ts⟩ ++ treeT t := by
  have hb : ∀ j, biasT ⟨d, k, b0, b1, b2, ts ++ [t]⟩ j = biasT ⟨d, k, b0, b1, b2, ts⟩ j := fun j => by
    induction j with
    | zero => rfl
    | succ j ih => simp only [biasT, ih]; rfl
  unfold textM
  simp only [hb]
  simp [treesT]
theorem treeT_pos (t : Pt) : 0 < (treeT t).length := by unfold treeT kTree; simp

end Go.Proofs.YtfabodbcdnmpmaaDoor.M
