/- Plain mathematics of chapter 9: a model's text, and the model of a text. No program is spoken of here.
   Plain mathematics of chapter 9: the document's own way of reading a model's text. No program is spoken of here.
   Plain mathematics of chapter 9: how long a model's text is, and the words of its lines. No program is spoken of here. -/
import Derived.Test.YtjpffempmlfoeaaDoorMathD
import Derived.Test.YtjpffempmlfoeaaDoorMathT
import Derived.Lib.Strings
import Derived.Lib.Join
namespace Go.Proofs.YtjpffempmlfoeaaDoor.M

/-- a tree, a model: numbers alone -/
structure Tp where
  cl : Int
  ws : List Int
deriving DecidableEq
structure Pm where
  d : Int
  k : Int
  b0 : Int
  b1 : Int
  b2 : Int
  ts : List Tp
deriving DecidableEq
def Pm.nil : Pm := ⟨0, 0, 0, 0, 0, []⟩
structure PtP (k d : Int) (t : Tp) : Prop where
  lo : 0 ≤ t.cl
  hi : t.cl < k
  tree : TreeP t.ws d
structure RightP (m : Pm) : Prop where
  d1 : 1 ≤ m.d
  d4 : m.d ≤ 4
  k1 : 1 ≤ m.k
  k3 : m.k ≤ 3
  bias : BiasP m.k m.b0 m.b1 m.b2
  len : m.ts.length ≤ 8
  trees : ∀ t, t ∈ m.ts → PtP m.k m.d t
def Pm.b (m : Pm) (c : Nat) : Int := if c = 0 then m.b0 else if c = 1 then m.b1 else m.b2

/-! the text -/
def dg (n : Int) : Txt := Lib.decDigits n.toNat
def kForest : Txt := [102, 111, 114, 101, 115, 116, 32]
def kBias : Txt := [10, 98, 105, 97, 115]
def kTree : Txt := [116, 114, 101, 101, 32]
def kLeaf : Txt := [108, 101, 97, 102, 32]
def kIf : Txt := [105, 102, 32]
def kLe : Txt := [32, 60, 61, 32]
def kThen : Txt := [32, 116, 104, 101, 110, 32]
def kElse : Txt := [32, 101, 108, 115, 101, 32]
def nodeT (x : Nd) : Txt := if x.leaf = true then kLeaf ++ (printL x.v ++ [10]) else kIf ++ (dg x.f ++ (kLe ++ (printL x.a ++ (kThen ++ (dg x.l ++ (kElse ++ (dg x.r ++ [10])))))))
def nodesT (ws : List Int) : Txt := ws.flatMap fun w => nodeT (unI w)
def treeT (t : Tp) : Txt := kTree ++ (dg t.cl ++ (32 :: (dg t.ws.length ++ (10 :: nodesT t.ws))))
def treesT (ts : List Tp) : Txt := ts.flatMap treeT
def biasT (m : Pm) : Nat → Txt
  | 0 => []
  | j + 1 => biasT m j ++ 32 :: printL (m.b j)
def textM (m : Pm) : Txt := kForest ++ (dg m.d ++ (32 :: (dg m.k ++ (kBias ++ (biasT m m.k.toNat ++ (10 :: treesT m.ts))))))
open Classical in
noncomputable def printM (m : Pm) : Txt := if RightP m then textM m else []

/-! the reading -/
abbrev Rst := Txt × Bool
def takeR (p : Txt) (s : Rst) : Rst := (Lib.trimPrefix s.1 p, s.2 || !Lib.hasPrefix s.1 p)
def digR : Txt → Int → Bool → Int × Rst
  | [], n, f => (n, [], f)
  | c :: r, n, f => if f = false ∧ isDig c = true then digR r (n * 10 + ((c.toNat : Int) - 48)) (decide (31 < n * 10 + ((c.toNat : Int) - 48))) else (n, c :: r, f)
def smallR (p : Txt) (s : Rst) : Int × Rst := digR (takeR p s).1 0 (takeR p s).2
def wordA : Txt → Txt
  | [] => []
  | c :: r => if c = 32 ∨ c = 10 then [] else c :: wordA r
def wordB : Txt → Txt
  | [] => []
  | c :: r => if c = 32 ∨ c = 10 then c :: r else wordB r
def numR (p : Txt) (s : Rst) : Int × Rst := (scanN (wordA (takeR p s).1), wordB (takeR p s).1, (takeR p s).2 || !scanB (wordA (takeR p s).1))
def leafR (s : Rst) : Nd × Rst := (⟨true, (numR kLeaf s).1, 0, 0, 0, 0⟩, takeR [10] (numR kLeaf s).2)
def forkR (s : Rst) : Nd × Rst :=
  let f := smallR kIf s
  let a := numR kLe f.2
  let l := smallR kThen a.2
  let r := smallR kElse l.2
  (⟨false, 0, f.1, a.1, l.1, r.1⟩, takeR [10] r.2)
def nodeR (s : Rst) : Nd × Rst := if Lib.hasPrefix s.1 [108, 101, 97, 102] = true then leafR s else forkR s
def nodesR : Nat → Rst → List Int × Rst
  | 0, s => ([], s)
  | k + 1, s => if s.2 = true then ([], s) else ((nodeR s).1.pack :: (nodesR k (nodeR s).2).1, (nodesR k (nodeR s).2).2)
def treeR (s : Rst) : Tp × Rst :=
  let c := smallR kTree s
  let n := smallR [32] c.2
  let y := nodesR n.1.toNat (takeR [10] n.2)
  (⟨c.1, y.1⟩, y.2)
def treesR : Nat → Rst → List Tp × Rst
  | 0, s => ([], s)
  | k + 1, s => if s.2 = true ∨ s.1 = [] then ([], s) else ((treeR s).1 :: (treesR k (treeR s).2).1, (treesR k (treeR s).2).2)
def biasR : Nat → Rst → List Int × Rst
  | 0, s => ([], s)
  | k + 1, s => ((numR [32] s).1 :: (biasR k (numR [32] s).2).1, (biasR k (numR [32] s).2).2)
def modelR (s : Rst) : Pm × Rst :=
  let d := smallR kForest s
  let k := smallR [32] d.2
  let b := biasR (min k.1 3).toNat (takeR kBias k.2)
  let t := treesR 8 (takeR [10] b.2)
  (⟨d.1, k.1, wd b.1 0, wd b.1 1, wd b.1 2, t.1⟩, t.2)

/-! what was printed is read -/
theorem prefix_app (p r : Txt) : Lib.hasPrefix (p ++ r) p = true ∧ Lib.trimPrefix (p ++ r) p = r := by
  have h : Lib.hasPrefix (p ++ r) p = true := by unfold Lib.hasPrefix; simp
  exact ⟨h, by unfold Lib.trimPrefix; rw [h]; simp⟩
theorem take_app (p r : Txt) (f : Bool) : takeR p (p ++ r, f) = (r, f) := by
  have := prefix_app p r
  unfold takeR
  simp only [this.1, this.2, Bool.not_true, Bool.or_false]
theorem take_one (c : UInt8) (r : Txt) (f : Bool) : takeR [c] (c :: r, f) = (r, f) := take_app [c] r f
/-- no digit stands at the front -/
def NoDig (r : Txt) : Prop := ∀ c q, r = c :: q → isDig c = false
theorem noDig_cons {c : UInt8} {q : Txt} (h : isDig c = false) : NoDig (c :: q) := fun c' q' e => by
  obtain ⟨rfl, rfl⟩ := List.cons.inj e
  exact h
theorem noDig_app {p : Txt} {c : UInt8} {q : Txt} (hp : p = c :: q) (h : isDig c = false) (r : Txt) : NoDig (p ++ r) := by
  subst hp
  exact noDig_cons h
theorem noDig_nil : NoDig [] := fun c q e => by cases e
theorem dig_end {r : Txt} (h : NoDig r) (n : Int) : digR r n false = (n, r, false) := by
  cases r with
  | nil => rfl
  | cons c q => simp [digR, h c q rfl]
theorem dg_facts : ∀ n : Fin 32, Lib.decDigits n.val = if n.val < 10 then [UInt8.ofNat (48 + n.val)] else [UInt8.ofNat (48 + n.val / 10), UInt8.ofNat (48 + n.val % 10)] := by
  intro ⟨n, hn⟩
  simp only
  by_cases h : n < 10
  · rw [if_pos h, Lib.decDigits_one h]
  · rw [if_neg h, Lib.decDigits_two h (by omega)]
theorem dig_val (k : Nat) (h : k < 10) : ((UInt8.ofNat (48 + k)).toNat : Int) - 48 = k := by
  have : (UInt8.ofNat (48 + k)).toNat = 48 + k := by rw [UInt8.toNat_ofNat']; omega
  omega
theorem dig_back {n : Int} (h0 : 0 ≤ n) (h1 : n ≤ 31) {r : Txt} (hr : NoDig r) : digR (dg n ++ r) 0 false = (n, r, false) := by
  obtain ⟨k, rfl⟩ := Int.eq_ofNat_of_zero_le h0
  have hd := dg_facts ⟨k, by omega⟩
  simp only at hd
  unfold dg
  rw [Int.toNat_natCast, hd]
  by_cases h : k < 10
  · rw [if_pos h]
    simp only [List.cons_append, List.nil_append, digR, dig_of k h, dig_val k h, and_self, if_true, Int.zero_mul, Int.zero_add]
    rw [show decide ((31 : Int) < k) = false by simp; omega]
    exact dig_end hr _
  · rw [if_neg h]
    simp only [List.cons_append, List.nil_append, digR, dig_of (k / 10) (by omega), dig_of (k % 10) (by omega), dig_val (k / 10) (by omega), dig_val (k % 10) (by omega), and_self, if_true, Int.zero_mul, Int.zero_add]
    rw [show decide ((31 : Int) < ((k / 10 : Nat) : Int)) = false by simp; omega]
    simp only [true_and, if_true]
    rw [show (((k / 10 : Nat) : Int) * 10 + ((k % 10 : Nat) : Int)) = (k : Int) by omega, show decide ((31 : Int) < k) = false by simp; omega]
    exact dig_end hr _
theorem small_back {n : Int} (p : Txt) (h0 : 0 ≤ n) (h1 : n ≤ 31) {r : Txt} (hr : NoDig r) : smallR p (p ++ (dg n ++ r), false) = (n, r, false) := by
  unfold smallR
  rw [take_app]
  exact dig_back h0 h1 hr
def plainB (t : Txt) : Bool := t.all fun c => !(c == 32) && !(c == 10)
theorem plain_app {a b : Txt} (ha : plainB a = true) (hb : plainB b = true) : plainB (a ++ b) = true := by
  unfold plainB at *
  rw [List.all_append, ha, hb]; rfl
theorem plain_dig {t : Txt} (h : t.all isDig = true) : plainB t = true := by
  unfold plainB
  rw [List.all_eq_true] at h ⊢
  intro c hc
  have := h c hc
  have h1 : ¬ c = 32 := by rintro rfl; revert this; decide
  have h2 : ¬ c = 10 := by rintro rfl; revert this; decide
  simp [h1, h2]
theorem plain_printU (u : Nat) : plainB (printU u) = true := by
  unfold printU tailD
  refine plain_app (plain_dig (dd_dig _)) ?_
  split
  · rfl
  · exact plain_app (a := [46]) rfl (plain_dig (decs_facts _ (Nat.mod_lt _ (by decide))).1)
theorem plain_printL (n : Int) : plainB (printL n) = true := by
  unfold printL
  split
  · exact plain_app (a := [45]) rfl (plain_printU _)
  · exact plain_printU _
theorem word_app : ∀ (t : Txt) (c : UInt8) (r : Txt), plainB t = true → (c = 32 ∨ c = 10) → wordA (t ++ c :: r) = t ∧ wordB (t ++ c :: r) = c :: r
  | [], c, r, _, hc => by simp [wordA, wordB, hc]
  | x :: t, c, r, h, hc => by
    simp only [plainB, List.all_cons, Bool.and_eq_true] at h
    have hx : ¬ (x = 32 ∨ x = 10) := by
      rintro (rfl | rfl)
      · exact absurd h.1.1 (by decide)
      · exact absurd h.1.2 (by decide)
    have := word_app t c r h.2 hc
    simp [wordA, wordB, hx, this.1, this.2]
theorem num_back {n : Int} (p : Txt) (hn : fit32 n = true) (c : UInt8) (hc : c = 32 ∨ c = 10) (r : Txt) (f : Bool) : numR p (p ++ (printL n ++ c :: r), f) = (n, c :: r, f) := by
  have h := fit32_of hn
  have hw := word_app (printL n) c r (plain_printL n) hc
  have hs := scan_print n (by omega) (by omega)
  unfold numR
  rw [take_app]
  simp only [hw.1, hw.2, hs.1, hs.2, Bool.not_true, Bool.or_false]
theorem node_back {x : Nd} (h : x.rightB = true) (r : Txt) : nodeR (nodeT x ++ r, false) = (x, r, false) := by
  have hx := Nd.right_iff.1 h
  obtain ⟨leaf, v, f, a, l, q⟩ := x
  cases leaf
  · simp only [Nd.Right, Bool.false_eq_true, false_and, false_or, true_and] at hx
    obtain ⟨rfl, h1, h2, h3, h4, h5, h6, h7, h8⟩ := hx
    have e : nodeT ⟨false, 0, f, a, l, q⟩ ++ r = kIf ++ (dg f ++ (kLe ++ (printL a ++ (kThen ++ (dg l ++ (kElse ++ (dg q ++ 10 :: r))))))) := by simp [nodeT]
    have hp : Lib.hasPrefix (kIf ++ (dg f ++ (kLe ++ (printL a ++ (kThen ++ (dg l ++ (kElse ++ (dg q ++ 10 :: r)))))))) [108, 101, 97, 102] = false := rfl
    unfold nodeR forkR
    rw [e]
    simp only [hp, Bool.false_eq_true, if_false]
    rw [small_back kIf h1 (by omega) (noDig_app (p := kLe) (c := 32) rfl rfl _)]
    simp only
    have e2 : kThen ++ (dg l ++ (kElse ++ (dg q ++ 10 :: r))) = 32 :: ([116, 104, 101, 110, 32] ++ (dg l ++ (kElse ++ (dg q ++ 10 :: r)))) := rfl
    rw [e2, num_back kLe (fit32_yes (by omega) (by omega)) 32 (.inl rfl)]
    simp only
    rw [← e2, small_back kThen (by omega) (by omega) (noDig_app (p := kElse) (c := 32) rfl rfl _)]
    simp only
    rw [small_back kElse (by omega) (by omega) (noDig_cons rfl), take_one]
  · simp only [Nd.Right, Bool.true_eq_false, false_and, or_false, true_and] at hx
    obtain ⟨h1, h2, rfl, rfl, rfl, rfl⟩ := hx
    have e : nodeT ⟨true, v, 0, 0, 0, 0⟩ ++ r = kLeaf ++ (printL v ++ 10 :: r) := by simp [nodeT]
    have hp : Lib.hasPrefix (kLeaf ++ (printL v ++ 10 :: r)) [108, 101, 97, 102] = true := rfl
    unfold nodeR leafR
    rw [e]
    simp only [hp, if_true]
    rw [num_back kLeaf (fit32_yes (by omega) (by omega)) 10 (.inr rfl), take_one]
theorem nodes_back : ∀ (ws : List Int) (r : Txt), (∀ w, w ∈ ws → unB w = true) → nodesR ws.length (nodesT ws ++ r, false) = (ws, r, false)
  | [], r, _ => rfl
  | w :: ws, r, h => by
    have h1 := un_of (h w (by simp))
    have e : nodesT (w :: ws) ++ r = nodeT (unI w) ++ (nodesT ws ++ r) := by simp [nodesT]
    rw [e]
    simp only [List.length_cons, nodesR, Bool.false_eq_true, if_false]
    rw [node_back h1.1]
    simp only
    rw [nodes_back ws r (fun x hx => h x (by simp [hx])), h1.2]
theorem TreeP.un {ws : List Int} {d : Int} (h : TreeP ws d) : ∀ w, w ∈ ws → unB w = true := fun w hw => by
  obtain ⟨i, hi, rfl⟩ := List.getElem_of_mem hw
  have := h.can i hi
  rwa [wd, List.getD_eq_getElem?_getD, List.getElem?_eq_getElem hi] at this
theorem tree_back {t : Tp} {k d : Int} (h : PtP k d t) (hk : k ≤ 3) (r : Txt) : treeR (treeT t ++ r, false) = (t, r, false) := by
  have hl := h.lo
  have hh := h.hi
  have hf := h.tree.full
  have hx := h.tree.few
  have e : treeT t ++ r = kTree ++ (dg t.cl ++ ([32] ++ (dg t.ws.length ++ 10 :: (nodesT t.ws ++ r)))) := by simp [treeT]
  unfold treeR
  rw [e, small_back kTree hl (by omega) (noDig_app (p := [32]) rfl rfl _)]
  simp only
  rw [small_back [32] (by omega) (by omega) (noDig_cons rfl)]
  simp only
  rw [take_one, Int.toNat_natCast, nodes_back _ _ h.tree.un]
theorem treeT_ne (t : Tp) (r : Txt) : treeT t ++ r ≠ [] := by
  unfold treeT kTree
  simp
theorem trees_back : ∀ (j : Nat) (ts : List Tp) (k d : Int), (∀ t, t ∈ ts → PtP k d t) → k ≤ 3 → ts.length ≤ j → treesR j (treesT ts, false) = (ts, [], false)
  | 0, ts, k, d, _, _, hl => by
    obtain rfl : ts = [] := List.eq_nil_of_length_eq_zero (by omega)
    rfl
  | j + 1, [], k, d, _, _, _ => rfl
  | j + 1, t :: ts, k, d, h, hk, hl => by
    have e : treesT (t :: ts) = treeT t ++ treesT ts := by simp [treesT]
    rw [e]
    simp only [treesR, Bool.false_eq_true, false_or, if_neg (treeT_ne t _)]
    rw [tree_back (h t (by simp)) hk]
    simp only
    rw [trees_back j ts k d (fun x hx => h x (by simp [hx])) hk (by simpa using hl)]
theorem bias_back (m : Pm) (hr : RightP m) (r : Txt) (f : Bool) : biasR m.k.toNat (biasT m m.k.toNat ++ 10 :: r, f) = ((List.range m.k.toNat).map m.b, 10 :: r, f) := by
  obtain ⟨⟨f0, f1, f2⟩, _⟩ := hr.bias
  have h1 := hr.k1
  have h3 := hr.k3
  obtain ⟨d, k, b0, b1, b2, ts⟩ := m
  simp only at *
  have hk : k = 1 ∨ k = 2 ∨ k = 3 := by omega
  have n1 := fun n hn c hc r => num_back (n := n) [32] hn c hc r f
  rcases hk with rfl | rfl | rfl
  · simp only [show (1 : Int).toNat = 1 from rfl, biasT, biasR, List.nil_append, List.cons_append, Pm.b, if_true]
    have := n1 b0 f0 10 (.inr rfl) r
    simp only [List.cons_append, List.nil_append] at this
    rw [this]
    rfl
  · simp only [show (2 : Int).toNat = 2 from rfl, biasT, biasR, List.nil_append, List.cons_append, List.append_assoc, Pm.b, if_true]
    have q0 := n1 b0 f0 32 (.inl rfl) (printL b1 ++ 10 :: r)
    have q1 := n1 b1 f1 10 (.inr rfl) r
    simp only [List.cons_append, List.nil_append] at q0 q1
    simp only [if_neg (show ¬ (1 : Nat) = 0 by decide)]
    rw [q0]
    simp only
    rw [q1]
    rfl
  · simp only [show (3 : Int).toNat = 3 from rfl, biasT, biasR, List.nil_append, List.cons_append, List.append_assoc, Pm.b, if_true]
    have q0 := n1 b0 f0 32 (.inl rfl) (printL b1 ++ 32 :: (printL b2 ++ 10 :: r))
    have q1 := n1 b1 f1 32 (.inl rfl) (printL b2 ++ 10 :: r)
    have q2 := n1 b2 f2 10 (.inr rfl) r
    simp only [List.cons_append, List.nil_append] at q0 q1 q2
    simp only [if_neg (show ¬ (1 : Nat) = 0 by decide), if_neg (show ¬ (2 : Nat) = 0 by decide), if_neg (show ¬ (2 : Nat) = 1 by decide)]
    rw [q0]
    simp only
    rw [q1]
    simp only
    rw [q2]
    rfl
theorem bias_list (m : Pm) (hr : RightP m) : wd ((List.range m.k.toNat).map m.b) 0 = m.b0 ∧ wd ((List.range m.k.toNat).map m.b) 1 = m.b1 ∧ wd ((List.range m.k.toNat).map m.b) 2 = m.b2 := by
  obtain ⟨_, g0, g1, g2⟩ := hr.bias
  have h1 := hr.k1
  have h3 := hr.k3
  obtain ⟨d, k, b0, b1, b2, ts⟩ := m
  simp only at *
  have hk : k = 1 ∨ k = 2 ∨ k = 3 := by omega
  rcases hk with rfl | rfl | rfl
  · exact ⟨rfl, (g1 (by decide)).symm, (g2 (by decide)).symm⟩
  · exact ⟨rfl, rfl, (g2 (by decide)).symm⟩
  · exact ⟨rfl, rfl, rfl⟩
theorem model_back {m : Pm} (hr : RightP m) : modelR (textM m, false) = (m, [], false) := by
  have h1 := hr.k1
  have h3 := hr.k3
  have h0 := hr.d1
  have h4 := hr.d4
  have e : textM m = kForest ++ (dg m.d ++ ([32] ++ (dg m.k ++ (kBias ++ (biasT m m.k.toNat ++ 10 :: treesT m.ts))))) := rfl
  unfold modelR
  rw [e, small_back kForest (by omega) (by omega) (noDig_app (p := [32]) rfl rfl _)]
  simp only
  rw [small_back [32] (by omega) (by omega) (noDig_app (p := kBias) (c := 10) rfl rfl _)]
  simp only
  rw [take_app, show (min m.k 3).toNat = m.k.toNat by omega, bias_back m hr]
  simp only
  rw [take_one, trees_back 8 m.ts m.k m.d hr.trees h3 hr.len]
  have := bias_list m hr
  simp only [this.1, this.2.1, this.2.2]
theorem text_inj {a b : Pm} (ha : RightP a) (hb : RightP b) (h : textM a = textM b) : a = b := by
  have h1 := model_back ha
  rw [h, model_back hb] at h1
  exact (congrArg Prod.fst h1).symm
theorem text_ne (m : Pm) : textM m ≠ [] := by
  unfold textM kForest
  simp
theorem printM_yes {m : Pm} (h : RightP m) : printM m = textM m := by unfold printM; rw [if_pos h]
theorem printM_no {m : Pm} (h : ¬ RightP m) : printM m = [] := by unfold printM; rw [if_neg h]
theorem printM_ne {m : Pm} : printM m ≠ [] ↔ RightP m := by
  by_cases h : RightP m
  · simp [printM_yes h, text_ne, h]
  · simp [printM_no h, h]

/-- what a text is parsed to -/
def ParseP (s : Txt) (m : Pm) (ok : Bool) : Prop := (ok = true → RightP m ∧ textM m = s) ∧ (ok = false → m = Pm.nil ∧ ∀ m0, RightP m0 → textM m0 ≠ s)
theorem ParseP.same {s : Txt} {m m' : Pm} {ok ok' : Bool} (h : ParseP s m ok) (h' : ParseP s m' ok') : m = m' ∧ ok = ok' := by
  cases ok <;> cases ok'
  · exact ⟨(h.2 rfl).1.trans (h'.2 rfl).1.symm, rfl⟩
  · exact absurd (h'.1 rfl).2 ((h.2 rfl).2 _ (h'.1 rfl).1)
  · exact absurd (h.1 rfl).2 ((h'.2 rfl).2 _ (h.1 rfl).1)
  · exact ⟨text_inj (h.1 rfl).1 (h'.1 rfl).1 ((h.1 rfl).2.trans (h'.1 rfl).2.symm), rfl⟩
theorem parse_nil : (modelR ([], false)).2.2 = true := by decide +kernel
theorem parse_yes {s : Txt} (hf : (modelR (s, false)).2.2 = false) (hp : printM (modelR (s, false)).1 = s) : ParseP s (modelR (s, false)).1 true := by
  refine ⟨fun _ => ?_, fun h => by cases h⟩
  have hs : s ≠ [] := by
    rintro rfl
    rw [parse_nil] at hf
    cases hf
  have hr : RightP (modelR (s, false)).1 := printM_ne.1 (by rw [hp]; exact hs)
  exact ⟨hr, by rw [← printM_yes hr]; exact hp⟩
theorem parse_no {s : Txt} (h : (modelR (s, false)).2.2 = true ∨ printM (modelR (s, false)).1 ≠ s) : ParseP s Pm.nil false := by
  refine ⟨fun h => (by cases h), fun _ => ⟨rfl, fun m0 h0 e => ?_⟩⟩
  subst e
  rw [model_back h0] at h
  rcases h with h | h
  · cases h
  · exact h (printM_yes h0)
theorem ParseP.yes {m : Pm} (h : RightP m) : ParseP (textM m) m true := ⟨fun _ => ⟨h, rfl⟩, fun h => by cases h⟩

end Go.Proofs.YtjpffempmlfoeaaDoor.M

namespace Go.Proofs.YtjpffempmlfoeaaDoor.M

def wordsF : Txt → Txt → List Txt
  | w, [] => [w]
  | w, c :: r => if c = 32 then w :: wordsF [] r else wordsF (w ++ [c]) r
def smB (s : Txt) : Bool := s.all isDig && decide (1 ≤ s.length ∧ s.length ≤ 2)
def foldD (s : Txt) : Int := s.foldl (fun n c => 10 * n + ((c.toNat : Int) - 48)) 0
def smV (s : Txt) : Int := if smB s = true then foldD s else -1
def wA (w : List Txt) (i : Nat) : Txt := w.getD i []
structure Rs where
  m : Pm
  left : Int
  at_ : Nat
  line : Txt
def Rs.init : Rs := ⟨Pm.nil, 0, 0, []⟩
def addLast : List Tp → Int → List Tp
  | [], _ => []
  | [t], x => [⟨t.cl, t.ws ++ [x]⟩]
  | t :: u :: r, x => t :: addLast (u :: r) x
theorem addLast_app (ts : List Tp) (t : Tp) (x : Int) : addLast (ts ++ [t]) x = ts ++ [⟨t.cl, t.ws ++ [x]⟩] := by
  induction ts with
  | nil => rfl
  | cons a r ih =>
    cases r with
    | nil => rfl
    | cons b q => simpa [addLast] using ih
def lineNd (w : List Txt) : Nd := if w.length = 2 then ⟨true, scanN (wA w 1), 0, 0, 0, 0⟩ else ⟨false, 0, smV (wA w 1), scanN (wA w 3), smV (wA w 5), smV (wA w 7)⟩
def lineF (m : Pm) (left : Int) (at_ : Nat) (w : List Txt) : Option (Pm × Int) :=
  if at_ = 1 ∧ w.length = 3 then some (⟨smV (wA w 1), smV (wA w 2), m.b0, m.b1, m.b2, m.ts⟩, left)
  else if at_ = 2 ∧ (1 ≤ m.k ∧ m.k ≤ 3) ∧ (w.length : Int) = 1 + m.k then some (⟨m.d, m.k, scanN (wA w 1), if 2 ≤ m.k then scanN (wA w 2) else m.b1, if 3 ≤ m.k then scanN (wA w 3) else m.b2, m.ts⟩, left)
  else if 2 < at_ ∧ left = 0 ∧ w.length = 3 then some (⟨m.d, m.k, m.b0, m.b1, m.b2, m.ts ++ [⟨smV (wA w 1), []⟩]⟩, smV (wA w 2))
  else if 2 < at_ ∧ 0 < left ∧ (w.length = 2 ∨ w.length = 8) then some (⟨m.d, m.k, m.b0, m.b1, m.b2, addLast m.ts (lineNd w).pack⟩, left - 1)
  else none
def refR : Txt → Rs → Option Rs
  | [], s => some s
  | c :: r, s => if c = 10 then
      (match lineF s.m s.left (s.at_ + 1) (wordsF [] s.line) with
        | none => none
        | some p => refR r ⟨p.1, p.2, s.at_ + 1, []⟩)
    else refR r ⟨s.m, s.left, s.at_, s.line ++ [c]⟩

theorem words_one : ∀ (t w : Txt), plainB t = true → wordsF w t = [w ++ t]
  | [], w, _ => by simp [wordsF]
  | c :: t, w, h => by
    simp only [plainB, List.all_cons, Bool.and_eq_true] at h
    have hc : ¬ c = 32 := by rintro rfl; exact absurd h.1.1 (by decide)
    rw [wordsF, if_neg hc, words_one t (w ++ [c]) h.2]
    simp
theorem words_app : ∀ (t w r : Txt), plainB t = true → wordsF w (t ++ 32 :: r) = (w ++ t) :: wordsF [] r
  | [], w, r, _ => by simp [wordsF]
  | c :: t, w, r, h => by
    simp only [plainB, List.all_cons, Bool.and_eq_true] at h
    have hc : ¬ c = 32 := by rintro rfl; exact absurd h.1.1 (by decide)
    rw [List.cons_append, wordsF, if_neg hc, words_app t (w ++ [c]) r h.2]
    simp
theorem plain_dg (n : Int) : plainB (dg n) = true := plain_dig (dd_dig _)
/-- no line feed -/
def lineB (t : Txt) : Bool := t.all fun c => !(c == 10)
theorem line_app {a b : Txt} (ha : lineB a = true) (hb : lineB b = true) : lineB (a ++ b) = true := by
  unfold lineB at *
  rw [List.all_append, ha, hb]; rfl
theorem line_plain {t : Txt} (h : plainB t = true) : lineB t = true := by
  unfold lineB plainB at *
  rw [List.all_eq_true] at h ⊢
  intro c hc
  have := h c hc
  simp only [Bool.and_eq_true] at this
  exact this.2
theorem ref_chars : ∀ (l r : Txt) (s : Rs), lineB l = true → refR (l ++ r) s = refR r ⟨s.m, s.left, s.at_, s.line ++ l⟩
  | [], r, s, _ => by simp
  | c :: l, r, s, h => by
    simp only [lineB, List.all_cons, Bool.and_eq_true] at h
    have hc : ¬ c = 10 := by rintro rfl; exact absurd h.1 (by decide)
    rw [List.cons_append, refR, if_neg hc, ref_chars l r _ h.2]
    simp
theorem ref_line {l : Txt} (r : Txt) {m : Pm} {left : Int} {k : Nat} {m' : Pm} {left' : Int} (hl : lineB l = true) (h : lineF m left (k + 1) (wordsF [] l) = some (m', left')) : refR (l ++ 10 :: r) ⟨m, left, k, []⟩ = refR r ⟨m', left', k + 1, []⟩ := by
  rw [ref_chars l _ _ hl]
  simp only [List.nil_append]
  rw [refR, if_pos rfl, h]
theorem small_v {n : Int} (h0 : 0 ≤ n) (h1 : n ≤ 31) : smV (dg n) = n := by
  obtain ⟨k, rfl⟩ := Int.eq_ofNat_of_zero_le h0
  have hd := dg_facts ⟨k, by omega⟩
  simp only at hd
  unfold dg
  rw [Int.toNat_natCast, hd]
  by_cases h : k < 10
  · rw [if_pos h]
    simp only [smV, smB, foldD, List.all_cons, List.all_nil, dig_of k h, List.foldl_cons, List.foldl_nil, dig_val k h, List.length_cons, List.length_nil]
    simp
  · rw [if_neg h]
    simp only [smV, smB, foldD, List.all_cons, List.all_nil, dig_of (k / 10) (by omega), dig_of (k % 10) (by omega), List.foldl_cons, List.foldl_nil, dig_val (k / 10) (by omega), dig_val (k % 10) (by omega), List.length_cons, List.length_nil]
    simp
    omega
theorem scan_v {n : Int} (h : fit32 n = true) : scanN (printL n) = n := (scan_print n (by have := fit32_of h; omega) (by have := fit32_of h; omega)).1
theorem ref_node {x : Nd} (h : x.rightB = true) (r : Txt) (m : Pm) (left : Int) (k : Nat) (hk : 2 ≤ k) (hl : 0 < left) : refR (nodeT x ++ r) ⟨m, left, k, []⟩ = refR r ⟨⟨m.d, m.k, m.b0, m.b1, m.b2, addLast m.ts x.pack⟩, left - 1, k + 1, []⟩ := by
  have hx := Nd.right_iff.1 h
  obtain ⟨leaf, v, f, a, l, q⟩ := x
  cases leaf
  · simp only [Nd.Right, Bool.false_eq_true, false_and, false_or, true_and] at hx
    obtain ⟨rfl, h1, h2, h3, h4, h5, h6, h7, h8⟩ := hx
    have e : nodeT ⟨false, 0, f, a, l, q⟩ ++ r = ([105, 102] ++ 32 :: (dg f ++ 32 :: ([60, 61] ++ 32 :: (printL a ++ 32 :: ([116, 104, 101, 110] ++ 32 :: (dg l ++ 32 :: ([101, 108, 115, 101] ++ 32 :: dg q))))))) ++ 10 :: r := by simp [nodeT, kIf, kLe, kThen, kElse]
    rw [e]
    have hw : wordsF [] ([105, 102] ++ 32 :: (dg f ++ 32 :: ([60, 61] ++ 32 :: (printL a ++ 32 :: ([116, 104, 101, 110] ++ 32 :: (dg l ++ 32 :: ([101, 108, 115, 101] ++ 32 :: dg q))))))) = [[105, 102], dg f, [60, 61], printL a, [116, 104, 101, 110], dg l, [101, 108, 115, 101], dg q] := by
      rw [words_app _ _ _ rfl, words_app _ _ _ (plain_dg f), words_app _ _ _ rfl, words_app _ _ _ (plain_printL a), words_app _ _ _ rfl, words_app _ _ _ (plain_dg l), words_app _ _ _ rfl, words_one _ _ (plain_dg q)]
      rfl
    refine ref_line r ?_ ?_
    · have s1 : lineB [32] = true := rfl
      have g := fun n => line_plain (plain_dg n)
      have p := line_plain (plain_printL a)
      exact line_app (a := [105, 102, 32]) rfl (line_app (g f) (line_app (a := [32, 60, 61, 32]) rfl (line_app p (line_app (a := [32, 116, 104, 101, 110, 32]) rfl (line_app (g l) (line_app (a := [32, 101, 108, 115, 101, 32]) rfl (g q)))))))
    · rw [hw]
      unfold lineF
      rw [if_neg (by omega), if_neg (by omega), if_neg (by omega), if_pos ⟨by omega, hl, .inr rfl⟩]
      have e2 : lineNd [[105, 102], dg f, [60, 61], printL a, [116, 104, 101, 110], dg l, [101, 108, 115, 101], dg q] = ⟨false, 0, f, a, l, q⟩ := by
        unfold lineNd
        rw [if_neg (by simp)]
        simp only [wA, List.getD_cons_succ, List.getD_cons_zero]
        rw [small_v h1 (by omega), small_v (by omega : 0 ≤ l) (by omega), small_v (by omega : 0 ≤ q) (by omega), scan_v (fit32_yes h3 h4)]
      rw [e2]
  · simp only [Nd.Right, Bool.true_eq_false, false_and, or_false, true_and] at hx
    obtain ⟨h1, h2, rfl, rfl, rfl, rfl⟩ := hx
    have e : nodeT ⟨true, v, 0, 0, 0, 0⟩ ++ r = ([108, 101, 97, 102] ++ 32 :: printL v) ++ 10 :: r := by simp [nodeT, kLeaf]
    rw [e]
    have hw : wordsF [] ([108, 101, 97, 102] ++ 32 :: printL v) = [[108, 101, 97, 102], printL v] := by
      rw [words_app _ _ _ rfl, words_one _ _ (plain_printL v)]
      rfl
    refine ref_line r ?_ ?_
    · exact line_app (a := [108, 101, 97, 102, 32]) rfl (line_plain (plain_printL v))
    · rw [hw]
      unfold lineF
      rw [if_neg (by omega), if_neg (by omega), if_neg (by omega), if_pos ⟨by omega, hl, .inl rfl⟩]
      have e2 : lineNd [[108, 101, 97, 102], printL v] = ⟨true, v, 0, 0, 0, 0⟩ := by
        unfold lineNd
        rw [if_pos (by simp)]
        simp only [wA, List.getD_cons_succ, List.getD_cons_zero]
        rw [scan_v (fit32_yes h1 h2)]
      rw [e2]
theorem ref_nodes : ∀ (ws : List Int) (r : Txt) (d k b0 b1 b2 : Int) (ts : List Tp) (c : Int) (done : List Int) (q : Nat), (∀ w, w ∈ ws → unB w = true) → 2 ≤ q →
    refR (nodesT ws ++ r) ⟨⟨d, k, b0, b1, b2, ts ++ [⟨c, done⟩]⟩, ws.length, q, []⟩ = refR r ⟨⟨d, k, b0, b1, b2, ts ++ [⟨c, done ++ ws⟩]⟩, 0, q + ws.length, []⟩
  | [], r, d, k, b0, b1, b2, ts, c, done, q, _, _ => by simp [nodesT]
  | w :: ws, r, d, k, b0, b1, b2, ts, c, done, q, h, hq => by
    have h1 := un_of (h w (by simp))
    have e : nodesT (w :: ws) ++ r = nodeT (unI w) ++ (nodesT ws ++ r) := by simp [nodesT]
    rw [e, ref_node h1.1 _ _ _ _ hq (by simp), h1.2]
    simp only [addLast_app]
    rw [show (((w :: ws).length : Nat) : Int) - 1 = (ws.length : Int) by simp]
    rw [ref_nodes ws r d k b0 b1 b2 ts c (done ++ [w]) (q + 1) (fun x hx => h x (by simp [hx])) (by omega)]
    simp only [List.append_assoc, List.cons_append, List.nil_append, List.length_cons]
    rw [show q + 1 + ws.length = q + (ws.length + 1) by omega]
theorem ref_tree {t : Tp} {k d : Int} (h : PtP k d t) (hk : k ≤ 3) (r : Txt) (md mk b0 b1 b2 : Int) (ts : List Tp) (q : Nat) (hq : 2 ≤ q) : ∃ q', 2 ≤ q' ∧ refR (treeT t ++ r) ⟨⟨md, mk, b0, b1, b2, ts⟩, 0, q, []⟩ = refR r ⟨⟨md, mk, b0, b1, b2, ts ++ [t]⟩, 0, q', []⟩ := by
  have hl := h.lo
  have hh := h.hi
  have hf := h.tree.full
  have hx := h.tree.few
  have e : treeT t ++ r = ([116, 114, 101, 101] ++ 32 :: (dg t.cl ++ 32 :: dg t.ws.length)) ++ 10 :: (nodesT t.ws ++ r) := by simp [treeT, kTree]
  have hw : wordsF [] ([116, 114, 101, 101] ++ 32 :: (dg t.cl ++ 32 :: dg t.ws.length)) = [[116, 114, 101, 101], dg t.cl, dg t.ws.length] := by
    rw [words_app _ _ _ rfl, words_app _ _ _ (plain_dg _), words_one _ _ (plain_dg _)]
    rfl
  refine ⟨q + 1 + t.ws.length, by omega, ?_⟩
  rw [e, ref_line (m' := ⟨md, mk, b0, b1, b2, ts ++ [⟨t.cl, []⟩]⟩) (left' := t.ws.length) _ ?_ ?_]
  · rw [ref_nodes t.ws r md mk b0 b1 b2 ts t.cl [] (q + 1) h.tree.un (by omega)]
    simp
  · exact line_app (a := [116, 114, 101, 101, 32]) rfl (line_app (line_plain (plain_dg _)) (line_app (a := [32]) rfl (line_plain (plain_dg _))))
  · rw [hw]
    unfold lineF
    rw [if_neg (by omega), if_neg (by omega), if_pos ⟨by omega, rfl, rfl⟩]
    simp only [wA, List.getD_cons_succ, List.getD_cons_zero]
    rw [small_v hl (by omega), small_v (by omega : (0 : Int) ≤ (t.ws.length : Int)) (by omega)]
theorem ref_trees (k d : Int) (hk : k ≤ 3) (md mk b0 b1 b2 : Int) : ∀ (ts done : List Tp) (q : Nat), (∀ t, t ∈ ts → PtP k d t) → 2 ≤ q → ∃ q', 2 ≤ q' ∧ refR (treesT ts) ⟨⟨md, mk, b0, b1, b2, done⟩, 0, q, []⟩ = some ⟨⟨md, mk, b0, b1, b2, done ++ ts⟩, 0, q', []⟩
  | [], done, q, _, hq => ⟨q, hq, by simp [treesT, refR]⟩
  | t :: ts, done, q, h, hq => by
    have e : treesT (t :: ts) = treeT t ++ treesT ts := by simp [treesT]
    obtain ⟨q1, h1, e1⟩ := ref_tree (h t (by simp)) hk (treesT ts) md mk b0 b1 b2 done q hq
    obtain ⟨q2, h2, e2⟩ := ref_trees k d hk md mk b0 b1 b2 ts (done ++ [t]) q1 (fun x hx => h x (by simp [hx])) h1
    exact ⟨q2, h2, by rw [e, e1, e2]; simp⟩
theorem bias_words (m : Pm) (h1 : 1 ≤ m.k) (h3 : m.k ≤ 3) : ∃ w : List Txt, wordsF [] ([98, 105, 97, 115] ++ biasT m m.k.toNat) = w ∧ (w.length : Int) = 1 + m.k ∧ wA w 1 = printL m.b0 ∧ (2 ≤ m.k → wA w 2 = printL m.b1) ∧ (3 ≤ m.k → wA w 3 = printL m.b2) ∧ lineB ([98, 105, 97, 115] ++ biasT m m.k.toNat) = true := by
  obtain ⟨d, k, b0, b1, b2, ts⟩ := m
  simp only at *
  have hk : k = 1 ∨ k = 2 ∨ k = 3 := by omega
  have p := plain_printL
  have g := fun n => line_plain (plain_printL n)
  rcases hk with rfl | rfl | rfl
  · refine ⟨[[98, 105, 97, 115], printL b0], ?_, rfl, rfl, fun h => absurd h (by decide), fun h => absurd h (by decide), ?_⟩
    · rw [show biasT ⟨d, 1, b0, b1, b2, ts⟩ (1 : Int).toNat = 32 :: printL b0 from rfl, words_app _ _ _ rfl, words_one _ _ (p _)]
      rfl
    · exact line_app rfl (line_app (a := [32]) rfl (g b0))
  · refine ⟨[[98, 105, 97, 115], printL b0, printL b1], ?_, rfl, rfl, fun _ => rfl, fun h => absurd h (by decide), ?_⟩
    · rw [show biasT ⟨d, 2, b0, b1, b2, ts⟩ (2 : Int).toNat = 32 :: (printL b0 ++ 32 :: printL b1) from rfl, words_app _ _ _ rfl, words_app _ _ _ (p _), words_one _ _ (p _)]
      rfl
    · exact line_app rfl (line_app (a := [32]) rfl (line_app (g b0) (line_app (a := [32]) rfl (g b1))))
  · refine ⟨[[98, 105, 97, 115], printL b0, printL b1, printL b2], ?_, rfl, rfl, fun _ => rfl, fun _ => rfl, ?_⟩
    · have e : biasT ⟨d, 3, b0, b1, b2, ts⟩ (3 : Int).toNat = 32 :: (printL b0 ++ 32 :: (printL b1 ++ 32 :: printL b2)) := by
        show ((32 :: printL b0) ++ 32 :: printL b1) ++ 32 :: printL b2 = _
        simp
      rw [e, words_app _ _ _ rfl, words_app _ _ _ (p _), words_app _ _ _ (p _), words_one _ _ (p _)]
      rfl
    · exact line_app rfl (line_app (a := (32 :: printL b0) ++ 32 :: printL b1) (line_app (a := 32 :: printL b0) (line_app (a := [32]) rfl (g b0)) (line_app (a := [32]) rfl (g b1))) (line_app (a := [32]) rfl (g b2)))
theorem ref_model {m : Pm} (hr : RightP m) : ∃ q, 2 ≤ q ∧ refR (textM m) Rs.init = some ⟨m, 0, q, []⟩ := by
  have h1 := hr.k1
  have h3 := hr.k3
  have h0 := hr.d1
  have h4 := hr.d4
  obtain ⟨⟨f0, f1, f2⟩, g0, g1, g2⟩ := hr.bias
  have htr := hr.trees
  have e : textM m = ([102, 111, 114, 101, 115, 116] ++ 32 :: (dg m.d ++ 32 :: dg m.k)) ++ 10 :: (([98, 105, 97, 115] ++ biasT m m.k.toNat) ++ 10 :: treesT m.ts) := by simp [textM, kForest, kBias]
  have hw : wordsF [] ([102, 111, 114, 101, 115, 116] ++ 32 :: (dg m.d ++ 32 :: dg m.k)) = [[102, 111, 114, 101, 115, 116], dg m.d, dg m.k] := by
    rw [words_app _ _ _ rfl, words_app _ _ _ (plain_dg _), words_one _ _ (plain_dg _)]
    rfl
  obtain ⟨w, hbw, hwl, w1, w2, w3, hlb⟩ := bias_words m h1 h3
  obtain ⟨q, hq, eq⟩ := ref_trees m.k m.d h3 m.d m.k m.b0 m.b1 m.b2 m.ts [] 2 htr (Nat.le_refl _)
  refine ⟨q, hq, ?_⟩
  rw [e]
  unfold Rs.init
  rw [ref_line (m' := ⟨m.d, m.k, 0, 0, 0, []⟩) (left' := 0) _ ?_ ?_]
  · rw [ref_line (m' := ⟨m.d, m.k, m.b0, m.b1, m.b2, []⟩) (left' := 0) _ hlb ?_]
    · rw [eq]
      simp
    · rw [hbw]
      unfold lineF
      rw [if_neg (by omega), if_pos ⟨rfl, ⟨h1, h3⟩, hwl⟩]
      simp only [w1, scan_v f0]
      have e1 : (if 2 ≤ m.k then scanN (wA w 2) else 0) = m.b1 := by
        split
        · rename_i h; rw [w2 h, scan_v f1]
        · rename_i h; exact (g1 (by omega)).symm
      have e2 : (if 3 ≤ m.k then scanN (wA w 3) else 0) = m.b2 := by
        split
        · rename_i h; rw [w3 h, scan_v f2]
        · rename_i h; exact (g2 (by omega)).symm
      rw [e1, e2]
  · exact line_app (a := [102, 111, 114, 101, 115, 116, 32]) rfl (line_app (line_plain (plain_dg _)) (line_app (a := [32]) rfl (line_plain (plain_dg _))))
  · rw [hw]
    unfold lineF
    rw [if_pos ⟨rfl, rfl⟩]
    simp only [wA, List.getD_cons_succ, List.getD_cons_zero]
    rw [small_v (by omega : 0 ≤ m.d) (by omega), small_v (by omega : 0 ≤ m.k) (by omega)]
    rfl
theorem ref_yes {s : Txt} {x : Rs} (h : refR s Rs.init = some x) (h2 : 2 ≤ x.at_) (hp : printM x.m = s) : ParseP s x.m true := by
  refine ⟨fun _ => ?_, fun h => by cases h⟩
  have hs : s ≠ [] := by
    rintro rfl
    simp only [refR, Option.some.injEq] at h
    subst h
    exact absurd h2 (by decide)
  have hr : RightP x.m := printM_ne.1 (by rw [hp]; exact hs)
  exact ⟨hr, by rw [← printM_yes hr]; exact hp⟩
theorem ref_no {s : Txt} (h : ∀ x, refR s Rs.init = some x → x.left ≠ 0 ∨ x.at_ < 2 ∨ printM x.m ≠ s) : ParseP s Pm.nil false := by
  refine ⟨fun h => (by cases h), fun _ => ⟨rfl, fun m0 h0 e => ?_⟩⟩
  subst e
  obtain ⟨q, hq, e⟩ := ref_model h0
  rcases h _ e with h | h | h
  · exact h rfl
  · simp only at h; omega
  · exact h (printM_yes h0)

end Go.Proofs.YtjpffempmlfoeaaDoor.M

namespace Go.Proofs.YtjpffempmlfoeaaDoor.M

/-! the words of a line -/
def nodeW (x : Nd) : List Txt := if x.leaf = true then [[108, 101, 97, 102], printL x.v] else [[105, 102], dg x.f, [60, 61], printL x.a, [116, 104, 101, 110], dg x.l, [101, 108, 115, 101], dg x.r]
def biasW (m : Pm) (j : Nat) : List Txt := [98, 105, 97, 115] :: (List.range j).map fun c => printL (m.b c)
theorem join_node (x : Nd) : Lib.join (nodeW x) [32] ++ [10] = nodeT x := by
  unfold nodeW nodeT
  split
  · simp [Lib.join, List.intercalate, kLeaf]
  · simp [Lib.join, List.intercalate, kIf, kLe, kThen, kElse]
theorem join_head (a b : Txt) : Lib.join [[102, 111, 114, 101, 115, 116], a, b] [32] ++ [10] = kForest ++ (a ++ (32 :: (b ++ [10]))) := by
  simp [Lib.join, List.intercalate, kForest]
theorem join_tree (a b : Txt) : Lib.join [[116, 114, 101, 101], a, b] [32] ++ [10] = kTree ++ (a ++ (32 :: (b ++ [10]))) := by
  simp [Lib.join, List.intercalate, kTree]
theorem bias_tail (m : Pm) : ∀ j, Lib.joinTail [32] ((List.range j).map fun c => printL (m.b c)) = biasT m j
  | 0 => rfl
  | j + 1 => by
    have ih := bias_tail m j
    unfold Lib.joinTail at *
    rw [List.range_succ, List.map_append, List.map_append, List.flatten_append, ih]
    simp [biasT]
theorem join_bias (m : Pm) (j : Nat) : Lib.join (biasW m j) [32] = [98, 105, 97, 115] ++ biasT m j := by
  unfold biasW
  rw [Lib.join_cons, bias_tail]

/-! lengths -/
theorem dg_len {n : Int} (h : n ≤ 31) : (dg n).length ≤ 2 := by
  unfold dg
  rw [Lib.decDigits_length]
  exact nD_le 1 n.toNat (by omega)
theorem print_len {n : Int} (h : fit32 n = true) : (printL n).length ≤ 30 := (printL_len n (by have := fit32_of h; omega) (by have := fit32_of h; omega)).1
theorem nodeT_len {x : Nd} (h : x.rightB = true) : (nodeT x).length ≤ 60 := by
  have hx := Nd.right_iff.1 h
  obtain ⟨leaf, v, f, a, l, q⟩ := x
  cases leaf
  · simp only [Nd.Right, Bool.false_eq_true, false_and, false_or, true_and] at hx
    obtain ⟨rfl, h1, h2, h3, h4, h5, h6, h7, h8⟩ := hx
    have d1 := dg_len (n := f) (by omega)
    have d2 := dg_len (n := l) (by omega)
    have d3 := dg_len (n := q) (by omega)
    have d4 := print_len (n := a) (fit32_yes h3 h4)
    simp [nodeT, kIf, kLe, kThen, kElse]
    omega
  · simp only [Nd.Right, Bool.true_eq_false, false_and, or_false, true_and] at hx
    obtain ⟨h1, h2, rfl, rfl, rfl, rfl⟩ := hx
    have d4 := print_len (n := v) (fit32_yes h1 h2)
    simp [nodeT, kLeaf]
    omega
theorem nodesT_len : ∀ (ws : List Int), (∀ w, w ∈ ws → unB w = true) → (nodesT ws).length ≤ 60 * ws.length
  | [], _ => by simp [nodesT]
  | w :: ws, h => by
    have h1 := nodeT_len (un_of (h w (by simp))).1
    have h2 := nodesT_len ws (fun x hx => h x (by simp [hx]))
    have e : nodesT (w :: ws) = nodeT (unI w) ++ nodesT ws := by simp [nodesT]
    rw [e, List.length_append, List.length_cons]
    omega
theorem treeT_len {t : Tp} {k d : Int} (h : PtP k d t) (hk : k ≤ 3) : (treeT t).length ≤ 2000 := by
  have h1 := nodesT_len t.ws h.tree.un
  have h2 := h.tree.few
  have h3 := h.hi
  have d1 := dg_len (n := t.cl) (by omega)
  have d2 := dg_len (n := t.ws.length) (by omega)
  simp [treeT, kTree]
  omega
theorem treesT_len (k d : Int) (hk : k ≤ 3) : ∀ (ts : List Tp), (∀ t, t ∈ ts → PtP k d t) → (treesT ts).length ≤ 2000 * ts.length
  | [], _ => by simp [treesT]
  | t :: ts, h => by
    have h1 := treeT_len (h t (by simp)) hk
    have h2 := treesT_len k d hk ts (fun x hx => h x (by simp [hx]))
    have e : treesT (t :: ts) = treeT t ++ treesT ts := by simp [treesT]
    rw [e, List.length_append, List.length_cons]
    omega
theorem bias_fit32 {m : Pm} (h : RightP m) (c : Nat) : fit32 (m.b c) = true := by
  obtain ⟨⟨f0, f1, f2⟩, _⟩ := h.bias
  unfold Pm.b
  split
  · exact f0
  · split
    · exact f1
    · exact f2
theorem biasT_len {m : Pm} (h : RightP m) : ∀ j, (biasT m j).length ≤ 31 * j
  | 0 => by simp [biasT]
  | j + 1 => by
    have h1 := biasT_len h j
    have h2 := print_len (bias_fit32 h j)
    simp [biasT]
    omega
theorem head_len {m : Pm} (h : RightP m) : (kForest ++ (dg m.d ++ (32 :: (dg m.k ++ (kBias ++ (biasT m m.k.toNat ++ [10])))))).length ≤ 200 := by
  have h1 := h.k3
  have h2 := h.d4
  have d1 := dg_len (n := m.d) (by omega)
  have d2 := dg_len (n := m.k) (by omega)
  have h3 := biasT_len h m.k.toNat
  simp [kForest, kBias]
  omega
theorem textM_split (m : Pm) : textM m = (kForest ++ (dg m.d ++ (32 :: (dg m.k ++ (kBias ++ (biasT m m.k.toNat ++ [10])))))) ++ treesT m.ts := by
  simp [textM]
theorem textM_len {m : Pm} (h : RightP m) : (textM m).length ≤ 20000 := by
  have h1 := head_len h
  have h2 := treesT_len m.k m.d h.k3 m.ts h.trees
  have h3 := h.len
  rw [textM_split, List.length_append]
  omega

end Go.Proofs.YtjpffempmlfoeaaDoor.M
