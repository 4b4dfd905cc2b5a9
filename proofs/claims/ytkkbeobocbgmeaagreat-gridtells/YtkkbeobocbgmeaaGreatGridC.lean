/- Rows of spans of the call's own; five rows of parts in a block; what the method cell of package grid's parts answers.
   What featureAt, Cuts and Count of package grid answer.
   What partsOf of package grid answers: each span of a box parted at all its cuts.
   What the method cell, Holds of package grid answer. -/
import Derived.Test.YtkkbeobocbgmeaaGreatGridM
import Derived.Test.YtkkbeobocbgmeaaGreatBoxQ
import Derived.Test.YtkkbeobocbgmeaaGreatRowsF
import Derived.Test.YtkkbeobocbgmeaaGreatHeld
import Derived.Test.YtkkbeobocbgmeaaGreatSteps
import Derived.Test.YtkkbeobocbgmeaaGreatBoxD
import Derived.Test.YtkkbeobocbgmeaaGreatBoxAns
import Derived.Test.YtkkbeobocbgmeaaGreatQueryS
import Derived.Test.YtkkbeobocbgmeaaGreatQueryE
namespace Go.Proofs.YtkkbeobocbgmeaaGreat
open Go.RowKit M

def spA (L : List Sp) (i : Nat) : Sp := L.getD i Sp.nil
def flatS : List Sp → List Value
  | [] => []
  | s :: L => .int .i64 s.lo :: .int .i64 s.hi :: flatS L
theorem flatS_append (L M : List Sp) : flatS (L ++ M) = flatS L ++ flatS M := by
  induction L with
  | nil => rfl
  | cons x L ih => simp [flatS, ih]
theorem flatS_length (L : List Sp) : (flatS L).length = L.length * 2 := by
  induction L with
  | nil => rfl
  | cons x L ih => simp [flatS, ih]; omega
theorem flatS_at (L : List Sp) (i : Nat) (h : i < L.length) : (flatS L)[i * 2]? = some (.int .i64 (spA L i).lo) ∧ (flatS L)[i * 2 + 1]? = some (.int .i64 (spA L i).hi) := by
  induction L generalizing i with
  | nil => simp at h
  | cons x L ih =>
    cases i with
    | zero => exact ⟨rfl, rfl⟩
    | succ i =>
      have := ih i (by simp at h; omega)
      have e : (i + 1) * 2 = i * 2 + 1 + 1 := by omega
      rw [e]
      exact this
theorem flatS_one (L : List Sp) : ∀ u ∈ flatS L, u.oneCell' = true := by
  induction L with
  | nil => intro u h; cases h
  | cons x L ih =>
    intro u h
    simp only [flatS, List.mem_cons] at h
    rcases h with rfl | rfl | hu
    · rfl
    · rfl
    · exact ih u hu
def AtSp (w : World) (b o : Nat) (L : List Sp) : Prop := ∀ i, i < L.length → w.cell? ⟨b, o + i * 2, none⟩ = some (.int .i64 (spA L i).lo) ∧ w.cell? ⟨b, o + i * 2 + 1, none⟩ = some (.int .i64 (spA L i).hi)
theorem cell_blk {w w' : World} {b o : Nat} (h : w'.heap[b]? = w.heap[b]?) : w'.cell? ⟨b, o, none⟩ = w.cell? ⟨b, o, none⟩ := by simp [World.cell?, h]
theorem AtSp.same {w w' : World} {b o : Nat} {L : List Sp} (h : AtSp w b o L) (hb : w'.heap[b]? = w.heap[b]?) : AtSp w' b o L := fun i hi => by
  have c := h i hi
  rw [cell_blk hb, cell_blk hb]
  exact c
/-- a row of the call's own: spans -/
def OwnSp (B : Nat) (w : World) (v : Value) (n : Nat) (L : List Sp) : Prop := L.length = n ∧ w.ownsRow B 34 2 v n (flatS L)
theorem infoS2 : (Tryz.prog.info? 34).map (fun i => (i.zero, i.size, i.bytes)) = some (some (.agg #[.int .i64 0, .int .i64 0]), 2, 16) := by kernel_rfl
theorem OwnSp.kept {B : Nat} {w w' : World} {v : Value} {n : Nat} {L : List Sp} (h : OwnSp B w v n L) {row : Option Nat} (hg : w.grownBy w' row) (hne : v.ownBlock = none ∨ v.ownBlock ≠ row) : OwnSp B w' v n L := ⟨h.1, h.2.kept hg hne⟩
theorem OwnSp.jk {B : Nat} {w w' : World} {v : Value} {n : Nat} {L : List Sp} (h : OwnSp B w v n L) (hj : Jk w w') : OwnSp B w' v n L := ⟨h.1, row_below h.2 hj⟩
theorem OwnSp.base {B : Nat} {w : World} {v : Value} {n : Nat} {L : List Sp} (h : OwnSp B w v n L) : ∀ k, v.ownBlock = some k → B ≤ k := fun k hk => (World.ownsRow.lt h.2 k hk).1
theorem OwnSp.nil (B : Nat) (w : World) : OwnSp B w (.slice none 0 0) 0 [] := ⟨rfl, World.ownsRow_nil _ _ _ _⟩
theorem OwnSp.at {B : Nat} {w : World} {g c n : Nat} {L : List Sp} (h : OwnSp B w (.slice (some ⟨g, 0, none⟩) n c) n L) : AtSp w g 0 L := fun i hi => by
  have q := flatS_at L i hi
  have h1 := World.ownsRow.cells h.2 (g := g) rfl (i * 2) _ q.1
  have h2 := World.ownsRow.cells h.2 (g := g) rfl (i * 2 + 1) _ q.2
  rw [add_at] at h1 h2
  exact ⟨h1, by rw [Nat.add_assoc]; exact h2⟩
theorem AtSp.src {w : World} {b o : Nat} {M : List Sp} (h : AtSp w b o M) : ∀ j u, (flatS M)[j]? = some u → w.cell? ((⟨b, o, none⟩ : Addr).add j) = some u := fun j u hu => by
  rw [add_at]
  have hj : j < M.length * 2 := by rw [← flatS_length]; exact (List.getElem?_eq_some_iff.1 hu).1
  obtain ⟨i, e⟩ : ∃ i, j = i * 2 ∨ j = i * 2 + 1 := ⟨j / 2, by omega⟩
  rcases e with rfl | rfl
  · have q := flatS_at M i (by omega)
    rw [q.1] at hu
    rw [(h i (by omega)).1]
    exact hu
  · have q := flatS_at M i (by omega)
    rw [q.2] at hu
    rw [← Nat.add_assoc, (h i (by omega)).2]
    exact hu
/-- append of spans onto a row of one's own -/
theorem run_appS2 {B : Nat} {w : World} {v : Value} {n : Nat} {xs ys : List Sp} (ty : TypeId) (hown : OwnSp B w v n xs) (hB : B ≤ w.heap.size) (a : Option Addr) (m c : Nat) (hm : ys.length = m) (hp : 0 < m) (hx : ∃ b o, a = some ⟨b, o, none⟩ ∧ AtSp w b o ys) (hl : n + m ≤ 1000) :
    ∃ g' cap' w', (Builtin.append_ #[63, 63] ty #[v, .slice a m c]).run Tryz.prog w = .ok (.slice (some ⟨g', 0, none⟩) (n + m) cap') w' ∧
      OwnSp B w' (.slice (some ⟨g', 0, none⟩) (n + m) cap') (n + m) (xs ++ ys) ∧ w.grownBy w' v.ownBlock ∧ (v.ownBlock = some g' ∨ g' = w.heap.size) := by
  obtain ⟨i0, hi0, hz0, hz1, hz2⟩ := info_parts infoS2
  obtain ⟨b, o, rfl, hat⟩ := hx
  obtain ⟨g', cap', w', hr, h2, h3, h4, _⟩ := run_append_lies (P := Tryz.prog) w 63 ty B 34 i0 _ 2 16 Tryz.underlying63 hi0 hz0 hz1 hz2 rfl (by omega) v n (flatS xs) hown.2 ⟨b, o, none⟩ m c (flatS ys) (by rw [flatS_length, hm])
      hat.src (flatS_one _) hp (by unfold maxLen; omega) (by omega) hB w.heap.size rfl
  exact ⟨g', cap', w', hr, ⟨by rw [List.length_append, hown.1, hm], by rw [flatS_append]; exact h2⟩, h3, h4⟩
/-- ONE APPEND of spans -/
theorem wp_appS2 {o : Oper} {act : Act} {K : Act → World → Prop} {Q : Exit → Act → World → Prop} {B : Nat} {w : World} {v : Value} {n : Nat} {xs ys : List Sp}
    (s x : Operand) (ho : o.op = .call { callee := .builtin .append, args := #[s, x], argTypes := #[63, 63] })
    (hown : OwnSp B w v n xs) (hB : B ≤ w.heap.size) (hs : act.eval s = v) (a : Option Addr) (m c : Nat) (hm : ys.length = m) (hxv : act.eval x = .slice a m c) (hp : 0 < m) (hx : ∃ b o, a = some ⟨b, o, none⟩ ∧ AtSp w b o ys) (hl : n + m ≤ 1000) (r : Nat) (hr : n + m = r)
    (h : ∀ g' cap' w', OwnSp B w' (.slice (some ⟨g', 0, none⟩) r cap') r (xs ++ ys) → w.grownBy w' v.ownBlock → (v.ownBlock = some g' ∨ g' = w.heap.size) → K (act.put o.dst (.slice (some ⟨g', 0, none⟩) r cap')) w') : o.wp Tryz.prog act w K Q := by
  subst hr
  obtain ⟨g', cap', w', hrun, h2, h3, h4⟩ := run_appS2 (ys := ys) o.type hown hB a m c hm hp hx hl
  unfold Oper.wp execOp
  simp only [ho, resolve, invoke, builtin, Sem.run_bind, Sem.run_pure, Result.andThen_ok, List.map_toArray, List.map_cons, List.map_nil, hs, hxv, hrun]
  exact h g' cap' w' h2 h3 h4
theorem list_appS2 {ops : Array Oper} {rest : List Oper} {o : Oper} {act : Act} {Q : Exit → Act → World → Prop} {B : Nat} {w : World} {v : Value} {n : Nat} {xs ys : List Sp}
    (hgd : o.guard = none) (s x : Operand) (ho : o.op = .call { callee := .builtin .append, args := #[s, x], argTypes := #[63, 63] })
    (hown : OwnSp B w v n xs) (hB : B ≤ w.heap.size) (hs : act.eval s = v) (a : Option Addr) (m c : Nat) (hm : ys.length = m) (hxv : act.eval x = .slice a m c) (hp : 0 < m) (hx : ∃ b o, a = some ⟨b, o, none⟩ ∧ AtSp w b o ys) (hl : n + m ≤ 1000) (r : Nat) (hr : n + m = r)
    (h : ∀ g' cap' w', OwnSp B w' (.slice (some ⟨g', 0, none⟩) r cap') r (xs ++ ys) → w.grownBy w' v.ownBlock → (v.ownBlock = some g' ∨ g' = w.heap.size) → wpList Tryz.prog ops Q rest (act.put o.dst (.slice (some ⟨g', 0, none⟩) r cap')) w') : wpList Tryz.prog ops Q (o :: rest) act w :=
  wpList_plain hgd fun _ hK' => wp_appS2 s x ho hown hB hs a m c hm hxv hp hx hl r hr fun g' cap' w' h1 h2 h3 => hK' _ _ (h g' cap' w' h1 h2 h3)
/-- one span, laid in a block of its own -/
theorem new_span (w : World) (s : Sp) (b : Nat) (hb : b = w.heap.size) : AtSp (w.alloc (.cells #[.int .i64 s.lo, .int .i64 s.hi] 34)) b 0 [s] := fun i hi => by
  subst hb
  obtain rfl : i = 0 := by simp at hi; omega
  exact ⟨new_cells w #[.int .i64 s.lo, .int .i64 s.hi] _ _ rfl 0 _ rfl, new_cells w #[.int .i64 s.lo, .int .i64 s.hi] _ _ rfl 1 _ rfl⟩

/-- a slice of spans, of which there are some -/
structure IsSp (w : World) (v : Value) (L : List Sp) : Prop where
  pos : 0 < L.length
  lies : ∃ g c, v = .slice (some ⟨g, 0, none⟩) L.length c ∧ L.length ≤ c ∧ c ≤ maxLen ∧ g < w.heap.size ∧ AtSp w g 0 L
theorem IsSp.same {w w' : World} {v : Value} {L : List Sp} (h : IsSp w v L) (hs : w.heap.size ≤ w'.heap.size) (hb : ∀ g, v.ownBlock = some g → g < w.heap.size → w'.heap[g]? = w.heap[g]?) : IsSp w' v L := by
  obtain ⟨hp, g, c, rfl, h1, h2, h3, h4⟩ := h
  exact ⟨hp, g, c, rfl, h1, h2, Nat.lt_of_lt_of_le h3 hs, h4.same (hb g rfl h3)⟩
theorem IsSp.jk {w w' : World} {v : Value} {L : List Sp} (h : IsSp w v L) (hj : Jk w w') : IsSp w' v L := h.same hj.below.size fun g _ hg => hj.below.block g hg
theorem OwnSp.is {B : Nat} {w : World} {v : Value} {n : Nat} {L : List Sp} (h : OwnSp B w v n L) (hn : 0 < n) : IsSp w v L := by
  obtain ⟨a, c, rfl, h1, h2, h3⟩ := row_form h.2
  obtain ⟨g, rfl, _, hg⟩ := h3 hn
  refine ⟨by rw [h.1]; exact hn, g, c, by rw [h.1], by rw [h.1]; exact h1, h2, hg, h.at⟩

/-- five rows in a block of its own -/
def PrB (w : World) (h : Nat) (v : Nat → Value) : Prop := w.heap[h]? = some (.cells #[v 0, v 1, v 2, v 3, v 4] 65 (0, 0))
abbrev partsV (v : Nat → Value) : Value := .agg #[v 0, v 1, v 2, v 3, v 4]
theorem PrB.lt {w : World} {h : Nat} {v : Nat → Value} (H : PrB w h v) : h < w.heap.size := (Array.getElem?_eq_some_iff.1 H).1
theorem PrB.jk {w w' : World} {h : Nat} {v : Nat → Value} (H : PrB w h v) (hj : Jk w w') : PrB w' h v := (hj.below.block h H.lt).trans H
theorem PrB.laid (w : World) (v : Nat → Value) : PrB (w.alloc (.cells #[v 0, v 1, v 2, v 3, v 4] 65)) w.heap.size v := heap_alloc_new w _
theorem PrB.frozen {w : World} {h : Nat} {v : Nat → Value} (H : PrB w h v) (q : Nat) : w.frozen? ⟨h, q, none⟩ = false := frozen_of_row _ _ _ _ _ H
theorem PrB.at {w : World} {h : Nat} {v : Nat → Value} (H : PrB w h v) {j : Nat} (hj : j < 5) : w.cell? ⟨h, j, none⟩ = some (v j) := by
  rw [cell_of_row _ _ _ _ _ _ H]
  match j, hj with
  | 0, _ => rfl
  | 1, _ => rfl
  | 2, _ => rfl
  | 3, _ => rfl
  | 4, _ => rfl
  | j + 5, hj => omega
theorem PrB.by {w w' : World} {h g : Nat} {v : Nat → Value} (H : PrB w h v) (hg : w.grownBy w' (some g)) (hne : h ≠ g) : PrB w' h v := (hg.block h H.lt (by simpa using hne)).trans H
theorem IsSp.one {w : World} {v : Value} {L : List Sp} (h : IsSp w v L) : v.oneCell' = true := by
  obtain ⟨_, g, c, rfl, _⟩ := h
  rfl
theorem load_P {w : World} {h : Nat} {v : Nat → Value} (H : PrB w h v) : (loadVar 65 ⟨h, 0, none⟩).run Tryz.prog w = .ok (partsV v) w := run_loadVar_row w h _ _ _ _ _ H Tryz.underlying65 rfl (by kernel_rfl)
theorem list_loadP {ops : Array Oper} {rest : List Oper} {o : Oper} {act : Act} {Q : Exit → Act → World → Prop} {w : World} (hgd : o.guard = none) (x : Operand) (ho : o.op = .load 65 x) {h : Nat} {v : Nat → Value} (H : PrB w h v) (hx : act.eval x = .pointer (some ⟨h, 0, none⟩))
    (hK : wpList Tryz.prog ops Q rest (act.put o.dst (partsV v)) w) : wpList Tryz.prog ops Q (o :: rest) act w :=
  wpList_plain hgd fun _ hK' => wp_load_row 65 x ho h hx _ _ _ _ H Tryz.underlying65 rfl (by kernel_rfl) (hK' _ _ hK)
theorem PrB.putAll {w : World} {h : Nat} {u : Nat → Value} (H : PrB w h u) (v : Nat → Value) : PrB (w.setCells h 0 [v 0, v 1, v 2, v 3, v 4]) h v := by
  have e : w.setCells h 0 [v 0, v 1, v 2, v 3, v 4] = ((((w.setCell ⟨h, 0, none⟩ (v 0)).setCell ⟨h, 1, none⟩ (v 1)).setCell ⟨h, 2, none⟩ (v 2)).setCell ⟨h, 3, none⟩ (v 3)).setCell ⟨h, 4, none⟩ (v 4) := rfl
  rw [e]
  exact heap_setCell_same _ _ _ _ _ _ (heap_setCell_same _ _ _ _ _ _ (heap_setCell_same _ _ _ _ _ _ (heap_setCell_same _ _ _ _ _ _ (heap_setCell_same _ _ _ _ _ _ H))))
theorem wp_storeP {op : Oper} {a : Act} {w : World} {K : Act → World → Prop} {Q : Exit → Act → World → Prop} (x y : Operand) (ho : op.op = .store 65 x y) {h : Nat} {u : Nat → Value} (H : PrB w h u) (hx : a.eval x = .pointer (some ⟨h, 0, none⟩)) (v : Nat → Value) (h1 : ∀ i, i < 5 → (v i).oneCell' = true) (hy : a.eval y = partsV v)
    (hK : ∀ w', PrB w' h v → w.grownBy w' (some h) → K (a.put op.dst undef) w') : op.wp Tryz.prog a w K Q := by
  refine wp_store_mid (P := Tryz.prog) 65 x y ho h 0 _ hx hy ?_ (by kernel_rfl) (by simp [h1 0 (by omega), h1 1 (by omega), h1 2 (by omega), h1 3 (by omega), h1 4 (by omega)]) ?_
  · intro i hi
    have hi' : i < 5 := hi
    exact ⟨by rw [Nat.zero_add, H.at hi']; rfl, H.frozen _⟩
  · exact hK _ (H.putAll v) (((((grown_set w h 0 _).trans (grown_set _ h 1 _)).trans (grown_set _ h 2 _)).trans (grown_set _ h 3 _)).trans (grown_set _ h 4 _))
theorem list_storeP {ops : Array Oper} {rest : List Oper} {o : Oper} {act : Act} {Q : Exit → Act → World → Prop} {w : World} (hgd : o.guard = none) (x y : Operand) (ho : o.op = .store 65 x y) {h : Nat} {u : Nat → Value} (H : PrB w h u) (hx : act.eval x = .pointer (some ⟨h, 0, none⟩)) (v : Nat → Value) (h1 : ∀ i, i < 5 → (v i).oneCell' = true) (hy : act.eval y = partsV v)
    (hK : ∀ w', PrB w' h v → w.grownBy w' (some h) → wpList Tryz.prog ops Q rest (act.put o.dst undef) w') : wpList Tryz.prog ops Q (o :: rest) act w :=
  wpList_plain hgd fun _ hK' => wp_storeP x y ho H hx v h1 hy fun w' h2 h3 => hK' _ _ (hK w' h2 h3)

/-- a span stored at a place of a box -/
theorem BxB.putAt {w : World} {h : Nat} {x : Bx} (H : BxB w h x) {j : Nat} (hj : j < 5) (s : Sp) : BxB (w.setCells h (j * 2) [.int .i64 s.lo, .int .i64 s.hi]) h (x.put (j : Int) s) := by
  have e : w.setCells h (j * 2) [.int .i64 s.lo, .int .i64 s.hi] = (w.setCell ⟨h, j * 2, none⟩ (.int .i64 s.lo)).setCell ⟨h, j * 2 + 1, none⟩ (.int .i64 s.hi) := rfl
  rw [e]
  match j, hj with
  | 0, _ => exact H.putA s
  | 1, _ => exact H.putB s
  | 2, _ => exact H.putC s
  | 3, _ => exact H.putD s
  | 4, _ => exact H.putE s
  | j + 5, hj => omega
theorem BxB.cellAt {w : World} {h : Nat} {x : Bx} (H : BxB w h x) {j : Nat} (hj : j < 5) : w.cell? ⟨h, j * 2, none⟩ = some (.int .i64 (x.at (j : Int)).lo) ∧ w.cell? ⟨h, j * 2 + 1, none⟩ = some (.int .i64 (x.at (j : Int)).hi) := by
  obtain ⟨x0, x1, x2, x3, x4, x5, x6, x7, x8, x9⟩ := H.in
  match j, hj with
  | 0, _ => exact ⟨x0, x1⟩
  | 1, _ => exact ⟨x2, x3⟩
  | 2, _ => exact ⟨x4, x5⟩
  | 3, _ => exact ⟨x6, x7⟩
  | 4, _ => exact ⟨x8, x9⟩
  | j + 5, hj => omega
theorem wp_storeSp {op : Oper} {a : Act} {w : World} {K : Act → World → Prop} {Q : Exit → Act → World → Prop} (x y : Operand) (ho : op.op = .store 34 x y) {h : Nat} {q0 : Bx} (H : BxB w h q0) {j : Nat} (hj : j < 5) (hx : a.eval x = .pointer (some ⟨h, j * 2, none⟩)) (s : Sp) (hy : a.eval y = .agg #[.int .i64 s.lo, .int .i64 s.hi])
    (hK : ∀ w', BxB w' h (q0.put (j : Int) s) → w.grownBy w' (some h) → K (a.put op.dst undef) w') : op.wp Tryz.prog a w K Q := by
  obtain ⟨c0, c1⟩ := H.cellAt hj
  refine wp_store_mid (P := Tryz.prog) 34 x y ho h (j * 2) _ hx hy ?_ (by kernel_rfl) (by simp [Value.oneCell']) ?_
  · intro i hi
    refine ⟨?_, H.frozen _⟩
    have hi' : i < 2 := hi
    match i, hi' with
    | 0, _ => rw [Nat.add_zero, c0]; rfl
    | 1, _ => rw [c1]; rfl
    | i + 2, hi => omega
  · exact hK _ (H.putAt hj s) ((grown_set w h (j * 2) _).trans (grown_set _ h (j * 2 + 1) _))
theorem list_storeSp {ops : Array Oper} {rest : List Oper} {o : Oper} {act : Act} {Q : Exit → Act → World → Prop} {w : World} (hgd : o.guard = none) (x y : Operand) (ho : o.op = .store 34 x y) {h : Nat} {q0 : Bx} (H : BxB w h q0) {j : Nat} (hj : j < 5) (hx : act.eval x = .pointer (some ⟨h, j * 2, none⟩)) (s : Sp) (hy : act.eval y = .agg #[.int .i64 s.lo, .int .i64 s.hi])
    (hK : ∀ w', BxB w' h (q0.put (j : Int) s) → w.grownBy w' (some h) → wpList Tryz.prog ops Q rest (act.put o.dst undef) w') : wpList Tryz.prog ops Q (o :: rest) act w :=
  wpList_plain hgd fun _ hK' => wp_storeSp x y ho H hj hx s hy fun w' h1 h2 => hK' _ _ (hK w' h1 h2)

/-- cell number n: one part of each row -/
def cellP (P : Nat → List Sp) (n : Nat) : Bx :=
  ⟨spA (P 0) (n / (P 4).length / (P 3).length / (P 2).length / (P 1).length % (P 0).length), spA (P 1) (n / (P 4).length / (P 3).length / (P 2).length % (P 1).length), spA (P 2) (n / (P 4).length / (P 3).length % (P 2).length), spA (P 3) (n / (P 4).length % (P 3).length), spA (P 4) (n % (P 4).length)⟩
/-- a number parted by a length -/
theorem parted (n l : Nat) (h : 0 < l) : (n : Int).tmod (l : Int) = ((n % l : Nat) : Int) ∧ (n : Int).tdiv (l : Int) = ((n / l : Nat) : Int) ∧ ((l : Int) == 0) = false ∧ ¬ (l : Int) = 0 ∧ n % l < l :=
  ⟨(Int.ofNat_tmod _ _).symm, (Int.ofNat_tdiv _ _).symm, by simp; omega, by omega, Nat.mod_lt _ h⟩
/-- what is asked of a row at the digit of a number -/
structure RowD (w : World) (v : Value) (n d z : Nat) (s : Sp) : Prop where
  lies : ∃ g l c, v = .slice (some ⟨g, 0, none⟩) l c ∧ l ≤ c ∧ c ≤ maxLen ∧ g < w.heap.size ∧ d < l ∧ (n : Int).tmod (l : Int) = (d : Int) ∧ (n : Int).tdiv (l : Int) = (z : Int) ∧ (n : Int) % (l : Int) = (d : Int) ∧ (n : Int) / (l : Int) = (z : Int) ∧ w.cell? ⟨g, d * 2, none⟩ = some (.int .i64 s.lo) ∧ w.cell? ⟨g, d * 2 + 1, none⟩ = some (.int .i64 s.hi)
theorem IsSp.digit {w : World} {v : Value} {L : List Sp} (h : IsSp w v L) (n : Nat) {d z : Nat} {s : Sp} (hd : n % L.length = d) (hz : n / L.length = z) (hs : spA L d = s) : RowD w v n d z s := by
  obtain ⟨hp, g, c, rfl, h1, h2, h3, h4⟩ := h
  obtain ⟨p1, p2, _, _, p5⟩ := parted n L.length hp
  subst hd
  subst hz
  have c4 := h4 _ p5
  rw [Nat.zero_add, hs] at c4
  exact ⟨g, _, c, rfl, h1, h2, h3, p5, p1, p2, (Int.natCast_emod _ _).symm, (Int.natCast_ediv _ _).symm, c4.1, c4.2⟩

theorem RowD.jk {w w' : World} {v : Value} {n d z : Nat} {s : Sp} (h : RowD w v n d z s) (hj : Jk w w') : RowD w' v n d z s := by
  obtain ⟨g, l, c, h1, h2, h3, h4, h5, h6, h7, h8, h9, h10, h11⟩ := h.lies
  exact ⟨g, l, c, h1, h2, h3, Nat.lt_of_lt_of_le h4 hj.below.size, h5, h6, h7, h8, h9, by rw [hj.below.cell (p := ⟨g, d * 2, none⟩) h4]; exact h10, by rw [hj.below.cell (p := ⟨g, d * 2 + 1, none⟩) h4]; exact h11⟩

set_option maxRecDepth 100000 in
set_option maxHeartbeats 3200000 in
theorem cell_any {v : Nat → Value} {N : Nat → Nat} {X : Nat → Bx} (w : World) (hR : ∀ k j, k + j = 4 → ∃ d s, RowD w (v j) (N k) d (N (k + 1)) s ∧ X (k + 1) = (X k).put (j : Int) s) (hN : ∀ k, N k ≤ 1000000000000) (h0 : X 0 = Bx.nil) :
    Calls Tryz.prog 23 #[partsV v, .int .i64 (N 0 : Int)] w fun e w' => e = .returned (boxW (X 5)) ∧ Jk w w' := by
  have J := rules8
  have HR := hid hR
  obtain ⟨w0, hw0⟩ : ∃ w0, (((w.alloc (.cells #[v 0, v 1, v 2, v 3, v 4] 65)).alloc (.cells #[.int .i64 0, .int .i64 0, .int .i64 0, .int .i64 0, .int .i64 0, .int .i64 0, .int .i64 0, .int .i64 0, .int .i64 0, .int .i64 0] 36)).alloc (.cells #[.int .i64 0, .int .i64 0, .int .i64 0, .int .i64 0, .int .i64 0, .int .i64 0, .int .i64 0, .int .i64 0, .int .i64 0, .int .i64 0] 36)) = w0 := ⟨_, rfl⟩
  have HJ0 : Hid (Jk w w0) := hw0 ▸ (((Jk.refl w).alloc _).alloc _).alloc _
  have HP0 : Hid (PrB w0 w.heap.size v) := by
    rw [← hw0]
    exact hid ((PrB.laid w v).jk (((Jk.refl _).alloc _).alloc _))
  have HZ0 : Hid (BxB w0 (w.heap.size + 1) Bx.nil) := by
    rw [← hw0]
    have := (BxB.laid (w.alloc (.cells #[v 0, v 1, v 2, v 3, v 4] 65)) Bx.nil).jk ((Jk.refl _).alloc (.cells #[.int .i64 0, .int .i64 0, .int .i64 0, .int .i64 0, .int .i64 0, .int .i64 0, .int .i64 0, .int .i64 0, .int .i64 0, .int .i64 0] 36))
    rw [World.size_alloc] at this
    exact hid this
  have HB0 : Hid (BxB w0 (w.heap.size + 1 + 1) Bx.nil) := by
    rw [← hw0]
    have := BxB.laid ((w.alloc (.cells #[v 0, v 1, v 2, v 3, v 4] 65)).alloc (.cells #[.int .i64 0, .int .i64 0, .int .i64 0, .int .i64 0, .int .i64 0, .int .i64 0, .int .i64 0, .int .i64 0, .int .i64 0, .int .i64 0] 36)) Bx.nil
    rw [World.size_alloc, World.size_alloc] at this
    exact hid this
  have HSz : Hid (w0.heap.size = w.heap.size + 1 + 1 + 1) := hid (by rw [← hw0]; simp)
  clear hR
  go_enter Tryz.func23, Tryz.ntmps23
  go_upto_region 3 with fail
  go_loopg [1, 6] 5 (fun r nv jv wr => ∃ k : Nat, k + r = 5 ∧ nv = .int .i64 (N k : Int) ∧ jv = .int .i64 (4 - (k : Int)) ∧ Hid (PrB wr w.heap.size v ∧ BxB wr (w.heap.size + 1) Bx.nil ∧ BxB wr (w.heap.size + 1 + 1) (X k) ∧ Jk w wr))
  case atStart => exact ⟨0, by omega, rfl, rfl, hid ⟨HP0.out, HZ0.out, by rw [h0]; exact HB0.out, HJ0.out⟩⟩
  case round =>
    obtain ⟨k, hk, rfl, rfl, HS⟩ := hrel
    clear HP0 HB0 HJ0 HZ0 HSz
    by_cases hfuel : gk = 0
    · subst hfuel
      obtain rfl : k = 5 := by omega
      go_upto_region 7 with fail
      refine wp_region_lit ?_
      refine list_loadX rfl _ rfl HS.out.2.2.1 rfl ?_
      refine list_storeX rfl _ _ rfl HS.out.2.1 rfl (X 5) rfl fun w9 hq9 hg9 => ?_
      have HJ9 := hid (HS.out.2.2.2.grown hg9 (fun k hk => by cases hk; exact Nat.le_succ _))
      go_wp2
      exact bodyPost_ret (results_cell Tryz.results23 rfl (load_X hq9)) rfl ⟨rfl, HJ9.out⟩
    · obtain ⟨r, rfl⟩ : ∃ r, gk = r + 1 := ⟨gk - 1, by omega⟩
      obtain ⟨j, hj⟩ : ∃ j, k + j = 4 := ⟨4 - k, by omega⟩
      have hjk : (4 : Int) - (k : Int) = (j : Int) := by omega
      rw [hjk]
      have hj0 : (0 : Int) ≤ (j : Int) := by omega
      have hj5 : (j : Int) < 5 := by omega
      obtain ⟨d, s, hd, hX⟩ := HR.out k j hj
      have HX := hid hX
      obtain ⟨g, l, c, hv, e1, e2, e3, e4, e5, e6, e7, e8, e9, e10⟩ := (hd.jk HS.out.2.2.2).lies
      have kp := HS.out.1.at (j := j) (by omega)
      have kl := HS.out.1.lt
      rw [hv] at kp
      unfold maxLen at e2
      have hl0 : ((l : Int) == 0) = false := by simp; omega
      have hl1 : ¬ (l : Int) = 0 := by omega
      have hn0 := hN k
      have hn1 := hN (k + 1)
      clear hd hX
      obtain ⟨n, hn⟩ : ∃ z, N k = z := ⟨_, rfl⟩
      obtain ⟨n', hn'⟩ : ∃ z, N (k + 1) = z := ⟨_, rfl⟩
      rw [hn] at hn0 e5 e6 e7 e8
      rw [hn'] at hn1 e6 e8
      rw [hn]
      go_upto_region 5 with fail
      refine region_tail 13 #[true, true, true, true, true, true, true, true, true, true, true, true, true, false] (by kernel_rfl) (by decide) (by kernel_rfl) ?_
      dsimp only [List.take, List.drop]
      repeat (go_big_quiet_step (exact rfl))
      refine wpQuiet_nil ?_
      rintro _ ⟨Y, rfl⟩
      have HJX : Hid (Jk wr (junk wr Y)) := ⟨Y, rfl⟩
      generalize junk wr Y = wx at HJX ⊢
      refine list_storeSp rfl _ _ rfl (HS.out.2.2.1.jk HJX.out) (j := j) (by omega) rfl s rfl fun w9 hb9 hg9 => ?_
      have HP9 := hid ((HS.out.1.jk HJX.out).by hg9 (by omega))
      have HZ9 := hid ((HS.out.2.1.jk HJX.out).by hg9 (by omega))
      have HB9 := hid hb9
      have HJ9 := hid ((HS.out.2.2.2.trans HJX.out).grown hg9 (fun k hk => by cases hk; omega))
      have kp9 := (HP9.out.at (j := j) (by omega))
      clear hb9 hg9 kp e9 e10 HS HJX
      rw [hv] at kp9
      go_wp2
      go_roundg r
      case measure => omega
      case rel => exact ⟨k + 1, by omega, by rw [hn'], by go_num, hid ⟨HP9.out, HZ9.out, by rw [HX.out]; exact HB9.out, HJ9.out⟩⟩

end Go.Proofs.YtkkbeobocbgmeaaGreat

namespace Go.Proofs.YtkkbeobocbgmeaaGreat
open Go.RowKit M

theorem feat_ans (q : Qy) (k : Int) {f : Int} {b : Bool} (hf : featF q k = f) (hb : featB q k = b) : Ans 29 #[queryV q, .int .i64 k] (.tuple #[.int .i64 f, .bool b]) := fun w => by
  have J := rules8
  unfold featF at hf
  unfold featB at hb
  obtain ⟨kd, cl, ⟨⟨ra, rb⟩, ⟨rc, rd⟩, ⟨re, rf⟩, ⟨rg, rh⟩, ⟨ri, rj⟩⟩, lo, hi, f', fa, bu⟩ := q
  simp only at hf hb
  by_cases h4 : k = 4
  · subst h4
    rw [if_pos rfl] at hf hb
    subst hf
    by_cases h3 : kd = 3
    · subst h3
      obtain rfl : true = b := by simpa using hb
      go_enter Tryz.func29, Tryz.ntmps29
      go_wp2
      refine region_junk (by kernel_rfl) (by kernel_rfl) ?_
      repeat (go_big_quiet_step (exact rfl))
      refine wpQuiet_nil ?_
      rintro _ ⟨X, rfl⟩
      go_wp2
      refine bodyPost_ret (v := .tuple #[.int .i64 f', .bool true]) (by simp [results, Tryz.results29, go_sem, *]) rfl ⟨rfl, ((Jk.refl w).alloc _).junk X⟩
    · obtain rfl : false = b := by simpa [h3] using hb
      have h3' : (kd == 3) = false := by simpa using h3
      go_enter Tryz.func29, Tryz.ntmps29
      go_wp2
      refine region_junk (by kernel_rfl) (by kernel_rfl) ?_
      repeat (go_big_quiet_step (exact rfl))
      refine wpQuiet_nil ?_
      rintro _ ⟨X, rfl⟩
      go_wp2
      refine bodyPost_ret (v := .tuple #[.int .i64 f', .bool false]) (by simp [results, Tryz.results29, go_sem, *]) rfl ⟨rfl, ((Jk.refl w).alloc _).junk X⟩
  · rw [if_neg h4] at hf hb
    subst hf
    have h4' : (k == 4) = false := by simpa using h4
    by_cases h0 : 0 ≤ k
    · by_cases h3 : k < 4
      · obtain rfl : true = b := by simpa [h0, h3] using hb
        clear hb
        go_enter Tryz.func29, Tryz.ntmps29
        go_wp2
        refine bodyPost_ret (v := .tuple #[.int .i64 k, .bool true]) (by simp [results, Tryz.results29, go_sem, *]) rfl ⟨rfl, (Jk.refl w).alloc _⟩
      · obtain rfl : false = b := by simpa [h0, h3] using hb
        clear hb
        go_enter Tryz.func29, Tryz.ntmps29
        go_wp2
        refine bodyPost_ret (v := .tuple #[.int .i64 k, .bool false]) (by simp [results, Tryz.results29, go_sem, *]) rfl ⟨rfl, (Jk.refl w).alloc _⟩
    · obtain rfl : false = b := by simpa [h0] using hb
      clear hb
      go_enter Tryz.func29, Tryz.ntmps29
      go_wp2
      refine bodyPost_ret (v := .tuple #[.int .i64 k, .bool false]) (by simp [results, Tryz.results29, go_sem, *]) rfl ⟨rfl, (Jk.refl w).alloc _⟩

/-- a span in a block of its own -/
def SpB (w : World) (h : Nat) (s : Sp) : Prop := w.heap[h]? = some (.cells #[.int .i64 s.lo, .int .i64 s.hi] 34 (0, 0))
theorem SpB.lt {w : World} {h : Nat} {s : Sp} (H : SpB w h s) : h < w.heap.size := (Array.getElem?_eq_some_iff.1 H).1
theorem SpB.jk {w w' : World} {h : Nat} {s : Sp} (H : SpB w h s) (hj : Jk w w') : SpB w' h s := (hj.below.block h H.lt).trans H
theorem SpB.laid (w : World) (s : Sp) : SpB (w.alloc (.cells #[.int .i64 s.lo, .int .i64 s.hi] 34)) w.heap.size s := heap_alloc_new w _
theorem SpB.laidAt (w : World) (h : Nat) (hh : h = w.heap.size) (s : Sp) : SpB (w.alloc (.cells #[.int .i64 s.lo, .int .i64 s.hi] 34)) h s := hh ▸ SpB.laid w s
theorem SpB.frozen {w : World} {h : Nat} {s : Sp} (H : SpB w h s) (q : Nat) : w.frozen? ⟨h, q, none⟩ = false := frozen_of_row _ _ _ _ _ H
theorem SpB.in {w : World} {h : Nat} {s : Sp} (H : SpB w h s) : h < w.heap.size ∧ w.cell? ⟨h, 0, none⟩ = some (.int .i64 s.lo) ∧ w.cell? ⟨h, 1, none⟩ = some (.int .i64 s.hi) := by
  refine ⟨H.lt, ?_, ?_⟩ <;> (rw [cell_of_row _ _ _ _ _ _ H]; rfl)

/-- a model, a query and a box, each in a block of its own -/
structure In3 (w w0 : World) (m : Md) (q : Qy) (b : Bx) : Prop where
  j : Jk w w0
  m : MdB w0 w.heap.size m
  q : QyB w0 (w.heap.size + 1) q
  b : BxB w0 (w.heap.size + 1 + 1) b
  sz : w0.heap.size = w.heap.size + 1 + 1 + 1
theorem in3_laid (w : World) (d k b0 b1 b2 : Int) (ma : Option Addr) (mn mc : Nat) (ts : List Tr) (kd cl ra rb rc rd re rf rg rh ri rj lo hi f : Int) (fa : Bool) (bu xa xb xc xd xe xf xg xh xi xj : Int) :
    In3 w (((w.alloc (.cells #[.int .i64 d, .int .i64 k, .int .i64 b0, .int .i64 b1, .int .i64 b2, .slice ma mn mc] 31)).alloc (.cells #[.int .i64 kd, .int .i64 cl, .int .i64 ra, .int .i64 rb, .int .i64 rc, .int .i64 rd, .int .i64 re, .int .i64 rf, .int .i64 rg, .int .i64 rh, .int .i64 ri, .int .i64 rj, .int .i64 lo, .int .i64 hi, .int .i64 f, .bool fa, .int .i64 bu] 38)).alloc (.cells #[.int .i64 xa, .int .i64 xb, .int .i64 xc, .int .i64 xd, .int .i64 xe, .int .i64 xf, .int .i64 xg, .int .i64 xh, .int .i64 xi, .int .i64 xj] 36))
      ⟨d, k, b0, b1, b2, ma, mn, mc, ts⟩ ⟨kd, cl, ⟨⟨ra, rb⟩, ⟨rc, rd⟩, ⟨re, rf⟩, ⟨rg, rh⟩, ⟨ri, rj⟩⟩, lo, hi, f, fa, bu⟩ ⟨⟨xa, xb⟩, ⟨xc, xd⟩, ⟨xe, xf⟩, ⟨xg, xh⟩, ⟨xi, xj⟩⟩ where
  j := (((Jk.refl w).alloc _).alloc _).alloc _
  m := (MdB.laid w ⟨d, k, b0, b1, b2, ma, mn, mc, ts⟩).jk (((Jk.refl _).alloc _).alloc _)
  q := by
    have := (QyB.laid (w.alloc (.cells #[.int .i64 d, .int .i64 k, .int .i64 b0, .int .i64 b1, .int .i64 b2, .slice ma mn mc] 31)) ⟨kd, cl, ⟨⟨ra, rb⟩, ⟨rc, rd⟩, ⟨re, rf⟩, ⟨rg, rh⟩, ⟨ri, rj⟩⟩, lo, hi, f, fa, bu⟩).jk ((Jk.refl _).alloc (.cells #[.int .i64 xa, .int .i64 xb, .int .i64 xc, .int .i64 xd, .int .i64 xe, .int .i64 xf, .int .i64 xg, .int .i64 xh, .int .i64 xi, .int .i64 xj] 36))
    rwa [World.size_alloc] at this
  b := by
    have := BxB.laid ((w.alloc (.cells #[.int .i64 d, .int .i64 k, .int .i64 b0, .int .i64 b1, .int .i64 b2, .slice ma mn mc] 31)).alloc (.cells #[.int .i64 kd, .int .i64 cl, .int .i64 ra, .int .i64 rb, .int .i64 rc, .int .i64 rd, .int .i64 re, .int .i64 rf, .int .i64 rg, .int .i64 rh, .int .i64 ri, .int .i64 rj, .int .i64 lo, .int .i64 hi, .int .i64 f, .bool fa, .int .i64 bu] 38)) ⟨⟨xa, xb⟩, ⟨xc, xd⟩, ⟨xe, xf⟩, ⟨xg, xh⟩, ⟨xi, xj⟩⟩
    rwa [World.size_alloc, World.size_alloc] at this
  sz := by simp

theorem IsI.nil (w : World) : IsI w none 0 0 [] := ⟨rfl, Nat.le_refl _, by unfold maxLen; omega, fun i hi => by omega, fun h => by omega⟩
/-- an own row of ints is a slice of ints -/
theorem own_isI {B : Nat} {w : World} {v : Value} {n : Nat} {L : List Int} (h : OwnI B w v n L) (hb : ∀ x, x ∈ L → -9223372036854775808 ≤ x ∧ x ≤ 9223372036854775807) : ∃ a c, v = .slice a n c ∧ IsI w a n c L := by
  obtain ⟨a, c, rfl, h1, h2, h3⟩ := row_form h.2
  refine ⟨a, c, rfl, h.1, h1, h2, fun i hi => hb _ (wd_mem (by rw [h.1]; exact hi)), fun h0 => ?_⟩
  obtain ⟨g, rfl, _, hg⟩ := h3 h0
  exact ⟨g, 0, rfl, hg, h.at⟩
theorem IsI.mem {w : World} {a : Option Addr} {n c : Nat} {L : List Int} (h : IsI w a n c L) {x : Int} (hx : x ∈ L) : -9223372036854775808 ≤ x ∧ x ≤ 9223372036854775807 := by
  obtain ⟨i, hi, rfl⟩ := mem_wd hx
  exact h.bd i (by rw [← h.len]; exact hi)

/-- a row of ints that the call made -/
def GotCu (w : World) (zs : List Int) (e : Ending) (w' : World) : Prop := ∃ a n c, e = .returned (.slice a n c) ∧ IsI w' a n c zs ∧ (0 < n → ∃ g, a = some ⟨g, 0, none⟩ ∧ w.heap.size ≤ g) ∧ Jk w w'
theorem own_isF {B : Nat} {w : World} {v : Value} {n : Nat} {L : List Int} (h : OwnI B w v n L) (hb : ∀ x, x ∈ L → -9223372036854775808 ≤ x ∧ x ≤ 9223372036854775807) : ∃ a c, v = .slice a n c ∧ IsI w a n c L ∧ (0 < n → ∃ g, a = some ⟨g, 0, none⟩ ∧ B ≤ g) := by
  obtain ⟨a, c, rfl, h1, h2, h3⟩ := row_form h.2
  refine ⟨a, c, rfl, ⟨h.1, h1, h2, fun i hi => hb _ (wd_mem (by rw [h.1]; exact hi)), fun h0 => ?_⟩, fun h0 => ?_⟩
  · obtain ⟨g, rfl, _, hg⟩ := h3 h0
    exact ⟨g, 0, rfl, hg, h.at⟩
  · obtain ⟨g, rfl, hb, _⟩ := h3 h0
    exact ⟨g, rfl, hb⟩

set_option maxRecDepth 100000 in
set_option maxHeartbeats 3200000 in
theorem cuts_any {m : Md} {q : Qy} {b : Bx} {k : Int} {ww : World} (hm : m.ok ww) (hr : RightM m) (w : World) (hjw : Jk ww w) : Calls Tryz.prog 14 #[modelV m, queryV q, boxV b, .int .i64 k] w fun e w' => GotCu w (cutsI m q b k) e w' := by
  have J := rules8
  have HF := hid (feat_ans q k (f := featF q k) (b := featB q k) rfl rfl)
  have HT : Hid (∀ w', Jk w w' → Calls Tryz.prog 30 #[modelV m, .int .i64 (featF q k)] w' fun e w'' => GotZ w' (thrM m (featF q k)) e w'') := fun w' hj => by
    have := thr_yes (f := featF q k) w' (hm.jk (hjw.trans hj)) hr
    rwa [← hm.is.len] at this
  have HT8 := thrM_len hr (featF q k)
  have HC1 : featB q k = true → cutsI m q b k = cutS (b.at k) (thrM m (featF q k)) := fun h => by unfold cutsI; rw [if_pos h]
  have HC0 : featB q k = false → cutsI m q b k = [] := fun h => by unfold cutsI; rw [h]; rfl
  have hk : featB q k = true → k = 0 ∨ k = 1 ∨ k = 2 ∨ k = 3 ∨ k = 4 := fun h => by
    unfold featB at h
    split at h
    · omega
    · simp at h; omega
  obtain ⟨fb, hfb⟩ : ∃ z, featB q k = z := ⟨_, rfl⟩
  obtain ⟨F, hF⟩ : ∃ z, featF q k = z := ⟨_, rfl⟩
  obtain ⟨C, hC⟩ : ∃ z, cutsI m q b k = z := ⟨_, rfl⟩
  rw [hfb] at HF HC1 HC0 hk
  rw [hF] at HF HT HT8 HC1
  rw [hC] at HC1 HC0 ⊢
  obtain ⟨T, hT⟩ : ∃ z, thrM m F = z := ⟨_, rfl⟩
  rw [hT] at HT HT8 HC1
  clear hm hr hjw hfb hF hC hT
  obtain ⟨d, k', b0, b1, b2, ma, mn, mc, ts⟩ := m
  obtain ⟨kd, cl, ⟨⟨ra, rb⟩, ⟨rc, rd⟩, ⟨re, rf⟩, ⟨rg, rh⟩, ⟨ri, rj⟩⟩, lo, hi, f, fa, bu⟩ := q
  obtain ⟨⟨xa, xb⟩, ⟨xc, xd⟩, ⟨xe, xf⟩, ⟨xg, xh⟩, ⟨xi, xj⟩⟩ := b
  have hin := in3_laid w d k' b0 b1 b2 ma mn mc ts kd cl ra rb rc rd re rf rg rh ri rj lo hi f fa bu xa xb xc xd xe xf xg xh xi xj
  simp only [modelV, queryV, boxV] at HF HT ⊢
  obtain ⟨w0, hw0⟩ : ∃ w0, (((w.alloc (.cells #[.int .i64 d, .int .i64 k', .int .i64 b0, .int .i64 b1, .int .i64 b2, .slice ma mn mc] 31)).alloc (.cells #[.int .i64 kd, .int .i64 cl, .int .i64 ra, .int .i64 rb, .int .i64 rc, .int .i64 rd, .int .i64 re, .int .i64 rf, .int .i64 rg, .int .i64 rh, .int .i64 ri, .int .i64 rj, .int .i64 lo, .int .i64 hi, .int .i64 f, .bool fa, .int .i64 bu] 38)).alloc (.cells #[.int .i64 xa, .int .i64 xb, .int .i64 xc, .int .i64 xd, .int .i64 xe, .int .i64 xf, .int .i64 xg, .int .i64 xh, .int .i64 xi, .int .i64 xj] 36)) = w0 := ⟨_, rfl⟩
  rw [hw0] at hin
  have H3 := hid hin
  clear hin
  cases fb
  · obtain rfl := HC0 rfl
    go_enter Tryz.func14, Tryz.ntmps14
    go_upto_region 1 with fail
    refine wp_region_lit ?_
    refine list_loadQ rfl _ rfl H3.out.q rfl ?_
    go_wp2_with (first | (go_at_call 29; refine (HF.out.on _).mono ?_; rintro e w1 ⟨rfl, X1, rfl⟩))
    go_ret
    exact ⟨none, 0, 0, rfl, IsI.nil _, fun h => absurd h (Nat.lt_irrefl _), H3.out.j.junk X1⟩
  · have hk5 := hid (hk rfl)
    have HC := hid (HC1 rfl)
    clear hk
    clear HC0 HC1
    obtain ⟨s, hs⟩ : ∃ z, Bx.at ⟨⟨xa, xb⟩, ⟨xc, xd⟩, ⟨xe, xf⟩, ⟨xg, xh⟩, ⟨xi, xj⟩⟩ k = z := ⟨_, rfl⟩
    rw [hs] at HC
    have HS := hid hs
    clear hs
    obtain ⟨x0, x1, x2, x3, x4, x5, x6, x7, x8, x9⟩ := H3.out.b.in
    simp only at x0 x1 x2 x3 x4 x5 x6 x7 x8 x9
    have xl := H3.out.b.lt
    go_enter Tryz.func14, Tryz.ntmps14
    go_upto_region 1 with fail
    refine wp_region_lit ?_
    refine list_loadQ rfl _ rfl H3.out.q rfl ?_
    go_upto_region 4 with (first | (go_at_call 29; refine (HF.out.on _).mono ?_; rintro e w1 ⟨rfl, X1, rfl⟩))
    go_cut [11] (fun v wc => ∃ g, v = .pointer (some ⟨g, 0, none⟩) ∧ SpB wc g s ∧ Jk w0 wc)
    case first =>
      rcases hk5.out with rfl | rfl | rfl | rfl | rfl
      all_goals
        obtain rfl := HS.out
        go_wp2
        go_meet
        case rel => exact ⟨_, rfl, SpB.laidAt (junk w0 X1) _ (by rw [junk_size]) ⟨_, _⟩, ((Jk.refl w0).junk X1).alloc _⟩
    case rest =>
    obtain ⟨g, rfl, hS, hj⟩ := hcut
    obtain ⟨w1, rfl⟩ : ∃ z, z = wc := ⟨_, rfl⟩
    have HSp := hid hS
    have HJ1 := hid hj
    clear hS hj x0 x1 x2 x3 x4 x5 x6 x7 x8 x9 HF HS hk5
    go_upto_region 6 with fail
    refine wp_region_lit ?_
    refine list_loadM rfl _ rfl (H3.out.m.jk HJ1.out) rfl ?_
    go_wp2_with (first | (go_at_call 30; refine (HT.out _ (H3.out.j.trans HJ1.out)).mono ?_; rintro e w2 ⟨a2, n2, c2, rfl, hI, hj2⟩; have HI := hid hI; have HJ2 := hid hj2; clear hI hj2))
    have hcap2 := HI.out.cap
    have hmax2 := HI.out.max
    have HL := hid HI.out.len
    have hn2 : n2 ≤ 248 := by have := HL.out; omega
    unfold maxLen at hmax2
    go_loopg [12, 30] n2 (fun r v i wr => ∃ x q2 : Nat, x + r = n2 ∧ i = .int .i64 (x : Int) ∧ OwnI w2.heap.size wr v q2 (cutN s T x) ∧ Hid (Jk w2 wr))
    case atStart => exact ⟨0, 0, by omega, rfl, ⟨rfl, World.ownsRow_nil _ _ _ _⟩, hid (Jk.refl w2)⟩
    case round =>
      obtain ⟨x, q2, hx, rfl, hO2, HJ⟩ := hrel
      have HO := hid hO2
      clear hO2
      obtain ⟨s0, s1, s2⟩ := ((HSp.out.jk HJ2.out).jk HJ.out).in
      by_cases hfuel : gk = 0
      · subst hfuel
        obtain rfl : x = n2 := by omega
        go_wp2
        go_ret
        obtain ⟨a, c, rfl, hI, hF⟩ := own_isF HO.out (fun y hy => by
          have hy1 := (cutS_mem.1 (show y ∈ cutS s (T.take x) from hy)).1
          exact HI.out.mem (List.mem_of_mem_take hy1))
        refine ⟨a, q2, c, rfl, ?_, fun h0 => ?_, ((H3.out.j.trans HJ1.out).trans HJ2.out).trans HJ.out⟩
        case refine_2 =>
          obtain ⟨g, e, hg⟩ := hF h0
          exact ⟨g, e, Nat.le_trans ((H3.out.j.trans HJ1.out).trans HJ2.out).below.size hg⟩
        rw [HC.out, ← cutN_all, HL.out]
        exact hI
      · obtain ⟨r, rfl⟩ : ∃ r, gk = r + 1 := ⟨gk - 1, by omega⟩
        have hxn : (x : Int) < (n2 : Int) := by omega
        obtain ⟨g2, o2, rfl, hg2, hat2⟩ := HI.out.lies (by omega)
        have hgr2 : g2 < wr.heap.size := Nat.lt_of_lt_of_le hg2 HJ.out.below.size
        have k2 : wr.cell? ⟨g2, o2 + x, none⟩ = some (.int .i64 (wd T x)) := (hat2.jk HJ.out hg2) x (by rw [HL.out]; omega)
        have HSt := hid (cutN_step s T (j := x) (by rw [HL.out]; omega))
        have hq2 : q2 ≤ 248 := by
          have := HO.out.1
          have := cutN_len s T x
          omega
        have hsz2 := HJ.out.below.size
        obtain ⟨y, hy⟩ : ∃ y, wd T x = y := ⟨_, rfl⟩
        rw [hy] at k2 HSt
        clear hy hat2
        obtain ⟨sl, sh⟩ := s
        simp only at s1 s2 HSt
        by_cases h1 : sl ≤ y
        · by_cases h2 : y < sh
          · rw [if_pos ⟨h1, h2⟩] at HSt
            go_wp2_with (first | (at_builtin; refine list_appI rfl _ _ rfl (HO.out.jk ((Jk.refl wr).alloc _)) (by rw [World.size_alloc]; omega) rfl _ 0 1 _ [y] rfl (by decide) rfl (fun i hi => new_cells _ #[.int .i64 y] _ _ rfl (0 + i) _ (by simp at hi; subst hi; rfl)) (by omega) ?_; intro g3 c3 w3 hO3 hG3; have HO3 := hid hO3; have HG3 := hid hG3; clear hO3 hG3))
            go_roundg r
            case measure => omega
            case rel =>
              refine ⟨x + 1, q2 + 1, by omega, by go_num, ?_, hid ?_⟩
              · rw [HSt.out]
                exact HO3.out
              · exact (HJ.out.alloc _).grown HG3.out (fun k hk => HO.out.base k hk)
          · rw [if_neg (by omega), List.append_nil] at HSt
            go_wp2
            go_roundg r
            case measure => omega
            case rel => exact ⟨x + 1, q2, by omega, by go_num, by rw [HSt.out]; exact HO.out, HJ⟩
        · rw [if_neg (by omega), List.append_nil] at HSt
          go_wp2
          go_roundg r
          case measure => omega
          case rel => exact ⟨x + 1, q2, by omega, by go_num, by rw [HSt.out]; exact HO.out, HJ⟩

/-- a row of numbers, in every world that grew from w -/
def AnsZ (w : World) (f : Nat) (args : Array Value) (zs : List Int) : Prop := ∀ w1 : World, Jk w w1 → Calls Tryz.prog f args w1 fun e w' => GotCu w1 zs e w'
theorem AnsZ.on {w : World} {f : Nat} {args : Array Value} {zs : List Int} (h : AnsZ w f args zs) (w1 : World) (hj : Jk w w1) : Calls Tryz.prog f args w1 fun e w' => GotCu w1 zs e w' := h w1 hj
theorem AnsZ.up {w w1 : World} {f : Nat} {args : Array Value} {zs : List Int} (h : AnsZ w f args zs) (hj : Jk w w1) : AnsZ w1 f args zs := fun w2 h2 => h w2 (hj.trans h2)
theorem cuts_ans {m : Md} (q : Qy) (b : Bx) (k : Int) {ww : World} (hm : m.ok ww) (hr : RightM m) {zs : List Int} (hz : cutsI m q b k = zs) : AnsZ ww 14 #[modelV m, queryV q, boxV b, .int .i64 k] zs := fun w hj => hz ▸ cuts_any hm hr w hj

/-- the product over the first j places -/
def prodN (l : Nat → Nat) : Nat → Nat
  | 0 => 1
  | j + 1 => prodN l j * (l j + 1)
theorem prodN_bd {l : Nat → Nat} (h : ∀ i, l i ≤ 248) : ∀ j, prodN l j ≤ 249 ^ j
  | 0 => Nat.le_refl _
  | j + 1 => by
    rw [prodN, Nat.pow_succ]
    exact Nat.mul_le_mul (prodN_bd h j) (by have := h j; omega)
theorem prodN_small {l : Nat → Nat} (h : ∀ i, l i ≤ 248) {j : Nat} (hj : j ≤ 5) : prodN l j ≤ 957186876249 := by
  refine Nat.le_trans (prodN_bd h j) ?_
  have hc : j = 0 ∨ j = 1 ∨ j = 2 ∨ j = 3 ∨ j = 4 ∨ j = 5 := by omega
  rcases hc with rfl | rfl | rfl | rfl | rfl | rfl <;> decide
theorem prodN_all (K : Int → List Int) : prodN (fun i => (K i).length) 5 = cntX K := by
  simp only [prodN, Nat.one_mul, cntX]
  rfl

set_option maxRecDepth 100000 in
set_option maxHeartbeats 3200000 in
theorem count_any {m : Md} (q : Qy) (b : Bx) (most : Int) {ww : World} (hm : m.ok ww) (hr : RightM m) (w : World) (hjw : Jk ww w) : Calls Tryz.prog 10 #[modelV m, queryV q, boxV b, .int .i64 most] w fun e w' => e = .returned (.tuple #[.int .i64 (if (cntX (cutsI m q b) : Int) ≤ most then cntX (cutsI m q b) else 0), .bool (decide ((cntX (cutsI m q b) : Int) ≤ most))]) ∧ Jk w w' := by
  have J := rules8
  have HC : Hid (∀ k, AnsZ w 14 #[modelV m, queryV q, boxV b, .int .i64 k] (cutsI m q b k)) := fun k => (cuts_ans q b k hm hr rfl).up hjw
  obtain ⟨l, hl⟩ : ∃ l : Nat → Nat, (fun i : Nat => (cutsI m q b i).length) = l := ⟨_, rfl⟩
  have HL : Hid (∀ i : Nat, (cutsI m q b i).length = l i) := fun i => by rw [← hl]
  have hN : prodN l 5 = cntX (cutsI m q b) := by rw [← hl]; exact prodN_all _
  have HB : Hid (∀ j, j ≤ 5 → prodN l j ≤ 957186876249) := fun j hj => prodN_small (fun i => by rw [← HL.out i]; exact cutsI_len hr q b _) hj
  have H24 : Hid (∀ i : Nat, l i ≤ 248) := fun i => by rw [← HL.out i]; exact cutsI_len hr q b _
  obtain ⟨K, hK⟩ : ∃ K, cutsI m q b = K := ⟨_, rfl⟩
  rw [hK] at HC HL hN
  rw [hK]
  obtain ⟨N, hN2⟩ : ∃ N, cntX K = N := ⟨_, rfl⟩
  rw [hN2] at hN ⊢
  clear hK hN2 hl hm hr hjw
  obtain ⟨d, k', b0, b1, b2, ma, mn, mc, ts⟩ := m
  obtain ⟨kd, cl, ⟨⟨ra, rb⟩, ⟨rc, rd⟩, ⟨re, rf⟩, ⟨rg, rh⟩, ⟨ri, rj⟩⟩, lo, hi, f, fa, bu⟩ := q
  obtain ⟨⟨xa, xb⟩, ⟨xc, xd⟩, ⟨xe, xf⟩, ⟨xg, xh⟩, ⟨xi, xj⟩⟩ := b
  have hin := in3_laid w d k' b0 b1 b2 ma mn mc ts kd cl ra rb rc rd re rf rg rh ri rj lo hi f fa bu xa xb xc xd xe xf xg xh xi xj
  simp only [modelV, queryV, boxV] at HC ⊢
  obtain ⟨w0, hw0⟩ : ∃ w0, (((w.alloc (.cells #[.int .i64 d, .int .i64 k', .int .i64 b0, .int .i64 b1, .int .i64 b2, .slice ma mn mc] 31)).alloc (.cells #[.int .i64 kd, .int .i64 cl, .int .i64 ra, .int .i64 rb, .int .i64 rc, .int .i64 rd, .int .i64 re, .int .i64 rf, .int .i64 rg, .int .i64 rh, .int .i64 ri, .int .i64 rj, .int .i64 lo, .int .i64 hi, .int .i64 f, .bool fa, .int .i64 bu] 38)).alloc (.cells #[.int .i64 xa, .int .i64 xb, .int .i64 xc, .int .i64 xd, .int .i64 xe, .int .i64 xf, .int .i64 xg, .int .i64 xh, .int .i64 xi, .int .i64 xj] 36)) = w0 := ⟨_, rfl⟩
  rw [hw0] at hin
  have H3 := hid hin
  clear hin
  go_enter Tryz.func10, Tryz.ntmps10
  go_upto_region 3 with fail
  go_loopg [10, 12] 5 (fun r v i wr => ∃ j : Nat, j + r = 5 ∧ i = .int .i64 (j : Int) ∧ v = .int .i64 (prodN l j : Int) ∧ Hid (Jk w0 wr))
  case atStart => exact ⟨0, by omega, rfl, rfl, hid (Jk.refl w0)⟩
  case round =>
    obtain ⟨j, hj, rfl, rfl, HJ⟩ := hrel
    by_cases hfuel : gk = 0
    · subst hfuel
      obtain rfl : j = 5 := by omega
      rw [hN]
      have hN9 := HB.out 5 (Nat.le_refl _)
      rw [hN] at hN9
      by_cases hmost : (N : Int) ≤ most
      · go_wp2
        refine bodyPost_ret (v := .tuple #[.int .i64 (N : Int), .bool true]) (by simp [results, Tryz.results10, go_sem]) rfl ⟨rfl, H3.out.j.trans HJ.out⟩
      · go_wp2
        refine bodyPost_ret (v := .tuple #[.int .i64 0, .bool false]) (by simp [results, Tryz.results10, go_sem]) rfl ⟨rfl, H3.out.j.trans HJ.out⟩
    · obtain ⟨r, rfl⟩ : ∃ r, gk = r + 1 := ⟨gk - 1, by omega⟩
      have hj5 : (j : Int) < 5 := by omega
      have hp0 := HB.out j (by omega)
      have hp1 := HB.out (j + 1) (by omega)
      have hl1 := H24.out j
      have hpe : (prodN l (j + 1) : Int) = (prodN l j : Int) * ((l j : Int) + 1) := by simp only [prodN]; push_cast; rfl
      go_upto_region 5 with fail
      refine wp_region_lit ?_
      refine wpList_one rfl fun K' hK' => ?_
      go_simp
      refine hK' _ _ ?_
      clear hK' K'
      refine list_loadM rfl _ rfl (H3.out.m.jk HJ.out) rfl ?_
      refine list_loadQ rfl _ rfl (H3.out.q.jk HJ.out) rfl ?_
      refine list_loadX rfl _ rfl (H3.out.b.jk HJ.out) rfl ?_
      go_wp2_with (first | (go_at_call 14; refine ((HC.out (j : Int)).on _ (H3.out.j.trans HJ.out)).mono ?_; rintro e w2 ⟨a2, n2, c2, rfl, hI, hfr, hj2⟩; clear hfr; have HJ2 := hid hj2; obtain rfl : l j = n2 := (HL.out j).symm.trans hI.len; clear hI hj2))
      go_roundg r
      case measure => omega
      case rel => exact ⟨j + 1, by omega, by go_num, by rw [hpe], hid (HJ.out.trans HJ2.out)⟩

end Go.Proofs.YtkkbeobocbgmeaaGreat

namespace Go.Proofs.YtkkbeobocbgmeaaGreat
open Go.RowKit M

/-- what is left of a span behind x cuts; the parts ahead of it -/
def rstS (s : Sp) (L : List Int) (x : Nat) : Sp := ⟨if x = 0 then s.lo else wd L (x - 1) + 1, s.hi⟩
def lowsL (s : Sp) (L : List Int) (x : Nat) : List Sp := (List.range x).map (prt s L)
def partsL (s : Sp) (L : List Int) : List Sp := lowsL s L (L.length + 1)
theorem lowsL_len (s : Sp) (L : List Int) (x : Nat) : (lowsL s L x).length = x := by simp [lowsL]
theorem lowsL_succ (s : Sp) (L : List Int) (x : Nat) : lowsL s L (x + 1) = lowsL s L x ++ [prt s L x] := by simp [lowsL, List.range_succ]
theorem lowsL_at {s : Sp} {L : List Int} {x i : Nat} (h : i < x) : spA (lowsL s L x) i = prt s L i := by simp [spA, lowsL, h]
theorem rst_zero (s : Sp) (L : List Int) : rstS s L 0 = s := rfl
theorem rst_last (s : Sp) (L : List Int) : rstS s L L.length = prt s L L.length := by simp [rstS, prt]
theorem rst_low {s : Sp} {L : List Int} (h : UpIn s L) {x : Nat} (hx : x < L.length) : (rstS s L x).low (wd L x) = prt s L x := by
  have h1 := h.in hx
  have h2 : (rstS s L x).lo ≤ wd L x := by
    unfold rstS
    simp only
    split
    · exact h1.1
    · have := h.lt (i := x - 1) (j := x) (by omega) hx; omega
  unfold Sp.low lLo lHi
  have e : min (rstS s L x).hi (wd L x) = wd L x := by simp only [rstS]; omega
  rw [e, if_neg (by omega), if_neg (by omega)]
  simp only [prt, rstS, hx, if_true]
theorem rst_upp {s : Sp} {L : List Int} (h : UpIn s L) {x : Nat} (hx : x < L.length) : (rstS s L x).upp (wd L x) = rstS s L (x + 1) := by
  have h1 := h.in hx
  have h2 : (rstS s L x).lo ≤ wd L x := by
    unfold rstS
    simp only
    split
    · exact h1.1
    · have := h.lt (i := x - 1) (j := x) (by omega) hx; omega
  unfold Sp.upp uLo uHi
  have e : max (rstS s L x).lo (wd L x + 1) = wd L x + 1 := by omega
  have e2 : (rstS s L x).hi = s.hi := rfl
  rw [e, e2, if_neg (by omega), if_neg (by omega)]
  simp only [rstS, Nat.add_sub_cancel, Nat.succ_ne_zero, if_false]
theorem rst_ok {s : Sp} {L : List Int} (h : UpIn s L) (hs : s.ok) {x : Nat} (hx : x ≤ L.length) : (rstS s L x).ok := by
  obtain ⟨⟨a, b⟩, c, d⟩ := hs
  refine ⟨⟨?_, ?_⟩, c, d⟩ <;> (unfold rstS; simp only; split)
  · exact a
  · have := (h.in (i := x - 1) (by omega)).1; omega
  · exact b
  · have := (h.in (i := x - 1) (by omega)).2; omega
theorem Bx.at_put {b : Bx} {j : Nat} (hj : j < 5) (s : Sp) : (b.put (j : Int) s).at (j : Int) = s := by
  match j, hj with
  | 0, _ => rfl
  | 1, _ => rfl
  | 2, _ => rfl
  | 3, _ => rfl
  | 4, _ => rfl
  | j + 5, hj => omega
theorem Bx.put_put {b : Bx} {j : Nat} (hj : j < 5) (s t : Sp) : (b.put (j : Int) s).put (j : Int) t = b.put (j : Int) t := by
  match j, hj with
  | 0, _ => rfl
  | 1, _ => rfl
  | 2, _ => rfl
  | 3, _ => rfl
  | 4, _ => rfl
  | j + 5, hj => omega
theorem Bx.put_same {b : Bx} {j : Nat} (hj : j < 5) : b.put (j : Int) (b.at (j : Int)) = b := by
  match j, hj with
  | 0, _ => rfl
  | 1, _ => rfl
  | 2, _ => rfl
  | 3, _ => rfl
  | 4, _ => rfl
  | j + 5, hj => omega
theorem Bx.put_ok {b : Bx} (hb : b.ok) {s : Sp} (hs : s.ok) {j : Nat} (hj : j < 5) : (b.put (j : Int) s).ok := by
  obtain ⟨h0, h1, h2, h3, h4⟩ := hb
  match j, hj with
  | 0, _ => exact ⟨hs, h1, h2, h3, h4⟩
  | 1, _ => exact ⟨h0, hs, h2, h3, h4⟩
  | 2, _ => exact ⟨h0, h1, hs, h3, h4⟩
  | 3, _ => exact ⟨h0, h1, h2, hs, h4⟩
  | 4, _ => exact ⟨h0, h1, h2, h3, hs⟩
  | j + 5, hj => omega
theorem Bx.at_ok {b : Bx} (hb : b.ok) {j : Nat} (hj : j < 5) : (b.at (j : Int)).ok := by
  obtain ⟨h0, h1, h2, h3, h4⟩ := hb
  match j, hj with
  | 0, _ => exact h0
  | 1, _ => exact h1
  | 2, _ => exact h2
  | 3, _ => exact h3
  | 4, _ => exact h4
  | j + 5, hj => omega

/-- a value in the row of parts: written anew -/
def setV (v : Nat → Value) (j : Nat) (u : Value) : Nat → Value := fun i => if i = j then u else v i
theorem setV_at (v : Nat → Value) (j : Nat) (u : Value) : setV v j u j = u := by simp [setV]
theorem setV_ne {v : Nat → Value} {i j : Nat} {u : Value} (h : i ≠ j) : setV v j u i = v i := by simp [setV, h]
theorem setV_set (v : Nat → Value) (j : Nat) (u t : Value) : setV (setV v j u) j t = setV v j t := by funext i; simp only [setV]; split <;> rfl
theorem setV_same {v : Nat → Value} {j : Nat} {u : Value} (h : v j = u) : setV v j u = v := by funext i; simp only [setV]; split <;> simp_all
theorem PrB.put {w : World} {h : Nat} {v : Nat → Value} (H : PrB w h v) {j : Nat} (hj : j < 5) (u : Value) : PrB (w.setCell ⟨h, j, none⟩ u) h (setV v j u) := by
  match j, hj with
  | 0, _ => exact heap_setCell_same _ _ _ _ _ _ H
  | 1, _ => exact heap_setCell_same _ _ _ _ _ _ H
  | 2, _ => exact heap_setCell_same _ _ _ _ _ _ H
  | 3, _ => exact heap_setCell_same _ _ _ _ _ _ H
  | 4, _ => exact heap_setCell_same _ _ _ _ _ _ H
  | j + 5, hj => omega

/-- the worlds of the loop over one place's cuts: the row of parts, the zero one, the box that is left, the row that grows -/
structure Inn (w0 w2 wi : World) (h6 hp g9 : Nat) (v : Nat → Value) (u : Value) (x : Nat) (rest : Bx) (lows : List Sp) : Prop where
  pr : PrB wi hp v
  pz : PrB wi h6 (fun _ => .slice none 0 0)
  ow : OwnSp w2.heap.size wi u x lows
  bx : BxB wi g9 rest
  j : Jk w0 wi
  sz : w2.heap.size ≤ wi.heap.size
  bt : ∀ k, k < w2.heap.size → k ≠ hp → k ≠ g9 → wi.heap[k]? = w2.heap[k]?
  c1 : w0.heap.size ≤ h6
  c2 : h6 < hp
  c3 : hp < g9
  c4 : g9 < w2.heap.size
section
variable {w0 w2 wi : World} {h6 hp g9 : Nat} {v : Nat → Value} {u : Value} {x : Nat} {rest : Bx} {lows : List Sp}
theorem Inn.jk (H : Inn w0 w2 wi h6 hp g9 v u x rest lows) {w' : World} (hj : Jk wi w') : Inn w0 w2 w' h6 hp g9 v u x rest lows :=
  ⟨H.pr.jk hj, H.pz.jk hj, H.ow.jk hj, H.bx.jk hj, H.j.trans hj, Nat.le_trans H.sz hj.below.size, fun k h1 h2 h3 => (hj.below.block k (Nat.lt_of_lt_of_le h1 H.sz)).trans (H.bt k h1 h2 h3), H.c1, H.c2, H.c3, H.c4⟩
theorem Inn.box (H : Inn w0 w2 wi h6 hp g9 v u x rest lows) {w' : World} {r' : Bx} (hg : wi.grownBy w' (some g9)) (hb : BxB w' g9 r') : Inn w0 w2 w' h6 hp g9 v u x r' lows := by
  have c1 := H.c1; have c2 := H.c2; have c3 := H.c3; have c4 := H.c4; have sz := H.sz
  refine ⟨H.pr.by hg (by omega), H.pz.by hg (by omega), H.ow.kept hg (.inr fun e => ?_), hb, H.j.grown hg (fun k hk => by cases hk; omega), Nat.le_trans H.sz hg.size, fun k h1 h2 h3 => (hg.block k (by omega) (by simpa using h3)).trans (H.bt k h1 h2 h3), c1, c2, c3, c4⟩
  have := H.ow.base _ e
  omega
theorem Inn.app (H : Inn w0 w2 wi h6 hp g9 v u x rest lows) {w' : World} {u' : Value} {x' : Nat} {l' : List Sp} (hg : wi.grownBy w' u.ownBlock) (ho : OwnSp w2.heap.size w' u' x' l') : Inn w0 w2 w' h6 hp g9 v u' x' rest l' := by
  have c1 := H.c1; have c2 := H.c2; have c3 := H.c3; have c4 := H.c4; have sz := H.sz
  have hb : ∀ k, k < w2.heap.size → w'.heap[k]? = wi.heap[k]? := fun k hk => hg.block k (by omega) (fun e => by have := H.ow.base k e.symm; omega)
  refine ⟨(hb hp (by omega)).trans H.pr, (hb h6 (by omega)).trans H.pz, ho, (hb g9 (by omega)).trans H.bx, H.j.grown hg (fun k hk => by have := H.ow.base k hk; omega), Nat.le_trans H.sz hg.size, fun k h1 h2 h3 => (hb k h1).trans (H.bt k h1 h2 h3), c1, c2, c3, c4⟩
theorem Inn.set (H : Inn w0 w2 wi h6 hp g9 v u x rest lows) {j : Nat} (hj : j < 5) (t : Value) : Inn w0 w2 (wi.setCell ⟨hp, j, none⟩ t) h6 hp g9 (setV v j t) u x rest lows := by
  have c1 := H.c1; have c2 := H.c2; have c3 := H.c3; have c4 := H.c4; have sz := H.sz
  have hg : wi.grownBy (wi.setCell ⟨hp, j, none⟩ t) (some hp) := grown_set wi hp j t
  refine ⟨H.pr.put hj t, H.pz.by hg (by omega), H.ow.kept hg (.inr fun e => ?_), H.bx.by hg (by omega), H.j.grown hg (fun k hk => by cases hk; omega), Nat.le_trans H.sz hg.size, fun k h1 h2 h3 => (hg.block k (by omega) (by simpa using h2)).trans (H.bt k h1 h2 h3), c1, c2, c3, c4⟩
  have := H.ow.base _ e
  omega
end

/-- the rows of parts that the call hands back -/
def GotP (w : World) (P : Nat → List Sp) (e : Ending) (w' : World) : Prop := ∃ v : Nat → Value, e = .returned (partsV v) ∧ (∀ i, i < 5 → IsSp w' (v i) (P i)) ∧ Jk w w'
/-- the loop over the places: the rows of those behind -/
structure Out (w0 wr : World) (h6 hp : Nat) (v : Nat → Value) (P : Nat → List Sp) (j : Nat) : Prop where
  pr : PrB wr hp v
  pz : PrB wr h6 (fun _ => .slice none 0 0)
  rows : ∀ i, i < j → IsSp wr (v i) (P i) ∧ ∀ g, (v i).ownBlock = some g → hp < g
  nil : ∀ i, j ≤ i → v i = .slice none 0 0
  j : Jk w0 wr
  c1 : w0.heap.size ≤ h6
  c2 : h6 < hp
theorem Out.start {w0 wr w2 : World} {h6 hp g9 : Nat} {v : Nat → Value} {P : Nat → List Sp} {j : Nat} (H : Out w0 wr h6 hp v P j) (hj : Jk wr w2) {b : Bx} (hb : BxB w2 g9 b) (hg : wr.heap.size ≤ g9) {s : Sp} {L : List Int} : Inn w0 w2 w2 h6 hp g9 (setV v j (.slice none 0 0)) (.slice none 0 0) 0 b (lowsL s L 0) := by
  rw [setV_same (H.nil j (Nat.le_refl _))]
  exact ⟨H.pr.jk hj, H.pz.jk hj, OwnSp.nil _ _, hb, H.j.trans hj, Nat.le_refl _, fun _ _ _ _ => rfl, H.c1, H.c2, by have := H.pr.lt; omega, hb.lt⟩
theorem Inn.out {w0 wr w2 wi : World} {h6 hp g9 : Nat} {v : Nat → Value} {P : Nat → List Sp} {j : Nat} (H : Out w0 wr h6 hp v P j) (hw : Jk wr w2) (hg : wr.heap.size ≤ g9) {u : Value} {x : Nat} {rest : Bx} {l : List Sp} (I : Inn w0 w2 wi h6 hp g9 (setV v j u) u x rest l) (hx : 0 < x) (hl : l = P j) : Out w0 wi h6 hp (setV v j u) P (j + 1) := by
  subst hl
  refine ⟨I.pr, I.pz, fun i hi => ?_, fun i hi => ?_, I.j, H.c1, H.c2⟩
  · by_cases e : i = j
    · subst e
      rw [setV_at]
      refine ⟨I.ow.is hx, fun g hg' => ?_⟩
      have := I.ow.base g hg'
      have := I.c3
      have := I.c4
      omega
    · rw [setV_ne e]
      obtain ⟨h1, h2⟩ := H.rows i (by omega)
      refine ⟨(h1.jk hw).same I.sz fun g hg1 hg2 => I.bt g hg2 (fun e => by have := h2 g hg1; omega) (fun e => ?_), h2⟩
      obtain ⟨_, g', c, hv, _, _, h5, _⟩ := h1
      rw [hv] at hg1
      simp [Value.ownBlock] at hg1
      omega
  · rw [setV_ne (by omega)]
    exact H.nil i (by omega)
/-- the worlds of a region that appends to a row of parts -/
structure Wd (hp g : Nat) (v : Nat → Value) (y : Bx) (n : Nat) where
  z : World
  pr : PrB z hp v
  bx : BxB z g y
  sz : n ≤ z.heap.size

set_option maxRecDepth 100000 in
set_option maxHeartbeats 6400000 in
theorem parts_any {m : Md} {q : Qy} {b : Bx} {ww : World} (hm : m.ok ww) (hr : RightM m) (hb : b.ok) (w : World) (hjw : Jk ww w) : Calls Tryz.prog 22 #[modelV m, queryV q, boxV b] w fun e w' => GotP w (fun i => partsL (b.at (i : Int)) (cutsI m q b (i : Int))) e w' := by
  have J := rules8
  have HC : Hid (∀ k, AnsZ w 14 #[modelV m, queryV q, boxV b, .int .i64 k] (cutsI m q b k)) := fun k => (cuts_ans q b k hm hr rfl).up hjw
  have HU : Hid (∀ k, UpIn (b.at k) (cutsI m q b k)) := cutsI_up m q b
  have HL : Hid (∀ k, (cutsI m q b k).length ≤ 248) := cutsI_len hr q b
  have HOk := hid hb
  obtain ⟨K, hK⟩ : ∃ K, cutsI m q b = K := ⟨_, rfl⟩
  rw [hK] at HC HU HL ⊢
  obtain ⟨P, hP⟩ : ∃ P : Nat → List Sp, (fun i : Nat => partsL (b.at (i : Int)) (K (i : Int))) = P := ⟨_, rfl⟩
  have HP : Hid (∀ j : Nat, lowsL (b.at (j : Int)) (K (j : Int)) ((K (j : Int)).length + 1) = P j) := fun j => by rw [← hP]; rfl
  rw [hP]
  clear hm hr hjw hb hK hP
  have hin := in3_laid w m.d m.k m.b0 m.b1 m.b2 m.a m.n m.c m.ts q.kd q.cl q.rg.a.lo q.rg.a.hi q.rg.b.lo q.rg.b.hi q.rg.c.lo q.rg.c.hi q.rg.d.lo q.rg.d.hi q.rg.e.lo q.rg.e.hi q.lo q.hi q.f q.fa q.bu b.a.lo b.a.hi b.b.lo b.b.hi b.c.lo b.c.hi b.d.lo b.d.hi b.e.lo b.e.hi
  simp only [modelV, queryV, boxV] at HC ⊢
  obtain ⟨w0, hw0⟩ : ∃ w0, ((w.alloc (.cells #[.int .i64 m.d, .int .i64 m.k, .int .i64 m.b0, .int .i64 m.b1, .int .i64 m.b2, .slice m.a m.n m.c] 31)).alloc (.cells #[.int .i64 q.kd, .int .i64 q.cl, .int .i64 q.rg.a.lo, .int .i64 q.rg.a.hi, .int .i64 q.rg.b.lo, .int .i64 q.rg.b.hi, .int .i64 q.rg.c.lo, .int .i64 q.rg.c.hi, .int .i64 q.rg.d.lo, .int .i64 q.rg.d.hi, .int .i64 q.rg.e.lo, .int .i64 q.rg.e.hi, .int .i64 q.lo, .int .i64 q.hi, .int .i64 q.f, .bool q.fa, .int .i64 q.bu] 38)).alloc (.cells #[.int .i64 b.a.lo, .int .i64 b.a.hi, .int .i64 b.b.lo, .int .i64 b.b.hi, .int .i64 b.c.lo, .int .i64 b.c.hi, .int .i64 b.d.lo, .int .i64 b.d.hi, .int .i64 b.e.lo, .int .i64 b.e.hi] 36) = w0 := ⟨_, rfl⟩
  rw [hw0] at hin
  have H3 : Hid (In3 w w0 m q b) := hin
  have hsz := H3.out.sz
  clear hin
  obtain ⟨w1, hw1⟩ : ∃ w1, (w0.alloc (.cells #[.slice none 0 0, .slice none 0 0, .slice none 0 0, .slice none 0 0, .slice none 0 0] 65)).alloc (.cells #[.slice none 0 0, .slice none 0 0, .slice none 0 0, .slice none 0 0, .slice none 0 0] 65) = w1 := ⟨_, rfl⟩
  have HJ1 : Hid (Jk w0 w1) := hw1 ▸ ((Jk.refl w0).alloc _).alloc _
  have HO1 : Hid (Out w0 w1 w0.heap.size (w0.heap.size + 1) (fun _ => .slice none 0 0) P 0) := by
    refine ⟨?_, ?_, fun i hi => absurd hi (Nat.not_lt_zero _), fun _ _ => rfl, HJ1.out, Nat.le_refl _, Nat.lt_succ_self _⟩
    · rw [← hw1]
      have := PrB.laid (w0.alloc (.cells #[.slice none 0 0, .slice none 0 0, .slice none 0 0, .slice none 0 0, .slice none 0 0] 65)) (fun _ => .slice none 0 0)
      rwa [World.size_alloc] at this
    · rw [← hw1]
      exact (PrB.laid w0 (fun _ => .slice none 0 0)).jk ((Jk.refl _).alloc _)
  rw [hsz] at HO1
  go_enter Tryz.func22, Tryz.ntmps22
  go_upto_region 3 with fail
  go_loopg [13] 5 (fun r i wr => ∃ j v, j + r = 5 ∧ i = .int .i64 (j : Int) ∧ Hid (Out w0 wr (w.heap.size + 1 + 1 + 1) (w.heap.size + 1 + 1 + 1 + 1) v P j))
  case atStart => exact ⟨0, _, by omega, rfl, HO1⟩
  case round =>
    obtain ⟨j, v, hj, rfl, HO⟩ := hrel
    clear HO1 HJ1 hw1
    by_cases hfuel : gk = 0
    · subst hfuel
      obtain rfl : j = 5 := by omega
      go_upto_region 15 with fail
      refine wp_region_lit ?_
      refine list_loadP rfl _ rfl HO.out.pr rfl ?_
      refine list_storeP rfl _ _ rfl HO.out.pz rfl v (fun i hi => IsSp.one (HO.out.rows i hi).1) rfl fun w9 hq9 hg9 => ?_
      have HJ9 := hid ((H3.out.j.trans HO.out.j).grown hg9 (fun k hk => by cases hk; omega))
      have hrw : ∀ i, i < 5 → IsSp w9 (v i) (P i) := fun i hi => (HO.out.rows i hi).1.same hg9.size fun g h1 h2 => hg9.block g h2 (fun e => by cases e; have := (HO.out.rows i hi).2 _ h1; omega)
      go_wp2
      exact bodyPost_ret (results_cell Tryz.results22 rfl (load_P hq9)) rfl ⟨v, rfl, hrw, HJ9.out⟩
    · obtain ⟨r, rfl⟩ : ∃ r, gk = r + 1 := ⟨gk - 1, by omega⟩
      have hj5 : (j : Int) < 5 := by omega
      have hj0 : (0 : Int) ≤ (j : Int) := by omega
      obtain ⟨wo, rfl⟩ : ∃ z, z = wr := ⟨_, rfl⟩
      have HJr := hid HO.out.j
      obtain ⟨x0, x1, x2, x3, x4, x5, x6, x7, x8, x9⟩ := (H3.out.b.jk HJr.out).in
      go_upto_region 5 with fail
      go_cut [9] (fun p wc => ∃ g, p = .pointer (some ⟨g, 0, none⟩) ∧ wo.heap.size ≤ g ∧ BxB wc g b ∧ Jk wo wc)
      case first =>
        go_wp2
        go_meet
        case rel => exact ⟨_, rfl, Nat.le_refl _, BxB.laid wo b, (Jk.refl wo).alloc _⟩
      case rest =>
      obtain ⟨g, rfl, hg, hB, hjc⟩ := hcut
      obtain ⟨wb, rfl⟩ : ∃ z, z = wc := ⟨_, rfl⟩
      have HB := hid hB
      have HJc := hid hjc
      clear x0 x1 x2 x3 x4 x5 x6 x7 x8 x9 hB hjc
      go_upto_region 6 with fail
      refine wp_region_lit ?_
      refine list_loadM rfl _ rfl (H3.out.m.jk (HJr.out.trans HJc.out)) rfl ?_
      refine list_loadQ rfl _ rfl (H3.out.q.jk (HJr.out.trans HJc.out)) rfl ?_
      refine list_loadX rfl _ rfl (H3.out.b.jk (HJr.out.trans HJc.out)) rfl ?_
      obtain ⟨L, hLd⟩ : ∃ L, K (j : Int) = L := ⟨_, rfl⟩
      obtain ⟨s, hs⟩ : ∃ s, b.at (j : Int) = s := ⟨_, rfl⟩
      have HCj := hid (HC.out (j : Int))
      have HUj := hid (HU.out (j : Int))
      have HLj := HL.out (j : Int)
      have HPj := hid (HP.out j)
      have hsok : s.ok := hs ▸ Bx.at_ok HOk.out (j := j) (by omega)
      rw [hLd] at HCj HUj HLj HPj
      rw [hs] at HUj HPj
      go_wp2_with (first | (go_at_call 14; refine (HCj.out.on _ ((H3.out.j.trans HJr.out).trans HJc.out)).mono ?_; rintro e w2 ⟨a2, n2, c2, rfl, hI, hfr, hj2⟩; have HI := hid hI; have HF := hid hfr; have HJ2 := hid hj2; clear hI hfr hj2))
      have HLn := hid HI.out.len
      have hcap2 := HI.out.cap
      have hmax2 := HI.out.max
      unfold maxLen at hmax2
      have hn2 : n2 ≤ 248 := by have := HLn.out; omega
      obtain ⟨h6, hh6⟩ : ∃ h6, w.heap.size + 1 + 1 + 1 = h6 := ⟨_, rfl⟩
      simp only [hh6] at HO ⊢
      obtain ⟨hp, hhp⟩ : ∃ hp, h6 + 1 = hp := ⟨_, rfl⟩
      simp only [hhp] at HO ⊢
      have HI0 : Hid (Inn w0 w2 w2 h6 hp g (setV v j (.slice none 0 0)) (.slice none 0 0) 0 b (lowsL s L 0)) := HO.out.start (HJc.out.trans HJ2.out) (HB.out.jk HJ2.out) hg
      go_loopg [23] n2 (fun r2 i2 wr => ∃ x u, x + r2 = n2 ∧ i2 = .int .i64 (x : Int) ∧ Hid (Inn w0 w2 wr h6 hp g (setV v j u) u x (b.put (j : Int) (rstS s L x)) (lowsL s L x)))
      case atStart => exact ⟨0, _, by omega, rfl, by rw [rst_zero, ← hs, Bx.put_same (by omega)]; exact hs ▸ HI0⟩
      case round =>
        obtain ⟨x, u, hx, rfl, HN⟩ := hrel
        clear HI0
        by_cases hfuel2 : gk = 0
        · subst hfuel2
          obtain rfl : x = n2 := by omega
          obtain ⟨R, hR⟩ : ∃ R, b.put (j : Int) (rstS s L x) = R := ⟨_, rfl⟩
          obtain ⟨sp, hsp⟩ : ∃ z, prt s L x = z := ⟨_, rfl⟩
          have hRa : R.at (j : Int) = sp := by
            rw [← hR, ← hsp, Bx.at_put (by omega)]
            have := rst_last s L
            rwa [HLn.out] at this
          rw [hR] at HN
          have HBR := hid HN.out.bx
          have hpl := HN.out.c3
          have hgl := HN.out.c4
          have hng : u.ownBlock ≠ some g := fun e => by have := HN.out.ow.base _ e; omega
          go_upto_region 13 with fail
          have kp : ∀ X : Wd hp g (setV v j u) R wr.heap.size, X.z.cell? ⟨hp, j, none⟩ = some u := fun X => by
            have := X.pr.at (j := j) (by omega)
            rwa [setV_at] at this
          have k1 : ∀ X : Wd hp g (setV v j u) R wr.heap.size, X.z.cell? ⟨g, j * 2, none⟩ = some (.int .i64 sp.lo) := fun X => by
            have := (X.bx.cellAt (j := j) (by omega)).1
            rwa [hRa] at this
          have k2 : ∀ X : Wd hp g (setV v j u) R wr.heap.size, X.z.cell? ⟨g, j * 2 + 1, none⟩ = some (.int .i64 sp.hi) := fun X => by
            have := (X.bx.cellAt (j := j) (by omega)).2
            rwa [hRa] at this
          have k3 : ∀ X : Wd hp g (setV v j u) R wr.heap.size, hp < X.z.heap.size := fun X => X.pr.lt
          have k4 : ∀ X : Wd hp g (setV v j u) R wr.heap.size, g < X.z.heap.size := fun X => X.bx.lt
          have hJd : Jk wr wr.drew := (Jk.refl wr).drew
          refine region_midS (T := Wd hp g (setV v j u) R wr.heap.size) (fun X => X.z) 10 [0, 1, 2, 3, 4, 5, 6] [7, 8, 9] #[true, true, true, true, true, true, true, true, true, true, false] (by kernel_rfl) (by kernel_rfl) (fun _ _ d _ _ h => by cases d <;> exact h) ⟨⟨wr.drew, HN.out.pr.jk hJd, HBR.out.jk hJd, hJd.below.size⟩, rfl⟩ ?_
          dsimp only [opersAt, List.getElem?_cons_zero, List.getElem?_cons_succ]
          repeat (go_big_quiet_step (first | exact rfl))
          refine wpQuiet_nil ?_
          have hJa : Jk wr (wr.drew.alloc (.cells #[.int .i64 sp.lo, .int .i64 sp.hi] 34)) := hJd.alloc _
          intro K1 hK1
          go_simp
          refine hK1 _ _ ⟨⟨_, HN.out.pr.jk hJa, HBR.out.jk hJa, hJa.below.size⟩, rfl⟩ ?_
          clear hK1 K1 kp k1 k2 k3 k4
          intro K2 hK2
          refine wp_appS2 (B := w2.heap.size) (ys := [sp]) (.tmp 48) (.tmp 52) rfl (HN.out.ow.jk hJa) (Nat.le_trans HN.out.sz hJa.below.size) rfl (some ⟨wr.heap.size, 0, none⟩) 1 1 rfl rfl (by decide) ⟨_, _, rfl, new_span wr.drew sp _ rfl⟩ (by omega) (x + 1) rfl ?_
          intro g1 c1 wA hOA hGA hgA
          have HIA := hid ((HN.out.jk hJa).app hGA hOA)
          have hBA : BxB wA g R := (hGA.block g (Nat.lt_of_lt_of_le HBR.out.lt hJa.below.size) (fun e => hng e.symm)).trans (HBR.out.jk hJa)
          have hsA : wr.heap.size ≤ wA.heap.size := Nat.le_trans hJa.below.size hGA.size
          refine hK2 _ _ ⟨⟨wA, HIA.out.pr, hBA, hsA⟩, rfl⟩ ?_
          clear hK2 K2 hJa hJd hOA hGA hgA
          have kq := HIA.out.pr.at (j := j) (by omega)
          rw [setV_at] at kq
          have kf := HIA.out.pr.frozen j
          have kl := HIA.out.pr.lt
          have HIB := hid (HIA.out.set (j := j) (by omega) (.slice (some ⟨g1, 0, none⟩) (x + 1) c1))
          rw [setV_set] at HIB
          intro K3 hK3
          go_simp
          refine hK3 _ _ ⟨⟨wA, HIA.out.pr, hBA, hsA⟩, rfl⟩ ?_
          clear hK3 K3 hBA hsA
          refine wpList_one rfl fun K4 hK4 => ?_
          go_simp
          refine hK4 _ _ ?_
          clear hK4 K4
          go_wp2
          clear kq kf kl HIA
          subst hhp
          subst hh6
          go_roundg r
          case measure => omega
          case rel => exact ⟨j + 1, _, by omega, by go_num, hid (HIB.out.out HO.out (HJc.out.trans HJ2.out) hg (by omega) (by rw [← HPj.out, HLn.out, lowsL_succ, hsp]))⟩
        · obtain ⟨r2, rfl⟩ : ∃ r2, gk = r2 + 1 := ⟨gk - 1, by omega⟩
          have hxn : (x : Int) < (n2 : Int) := by omega
          have hxL : x < L.length := by have := HLn.out; omega
          obtain ⟨gl, e1, hgl⟩ := HF.out (by omega)
          subst e1
          obtain ⟨gl', ol, e2, hgl2, hat2⟩ := HI.out.lies (by omega)
          simp only [Option.some.injEq, Addr.mk.injEq, and_true] at e2
          obtain ⟨rfl, rfl⟩ := e2
          have hpl := HN.out.c3
          have hg9 := HN.out.c4
          have hgb := HB.out.lt
          have hsw := HN.out.sz
          have k2 : wr.cell? ⟨gl, 0 + x, none⟩ = some (.int .i64 (wd L x)) := by
            rw [cell_blk (HN.out.bt gl hgl2 (by omega) (by omega))]
            exact hat2 x hxL
          rw [Nat.zero_add] at k2
          have hgr2 : gl < wr.heap.size := by omega
          obtain ⟨t, ht⟩ : ∃ t, wd L x = t := ⟨_, rfl⟩
          obtain ⟨R, hR⟩ : ∃ R, b.put (j : Int) (rstS s L x) = R := ⟨_, rfl⟩
          obtain ⟨R', hR'⟩ : ∃ R, b.put (j : Int) (rstS s L (x + 1)) = R := ⟨_, rfl⟩
          obtain ⟨sp, hsp⟩ : ∃ z, prt s L x = z := ⟨_, rfl⟩
          obtain ⟨y, hy⟩ : ∃ z, b.put (j : Int) sp = z := ⟨_, rfl⟩
          have hya : y.at (j : Int) = sp := by rw [← hy, Bx.at_put (by omega)]
          have hCu : Hid (Ans 34 #[boxV R, .int .i64 (j : Int), .int .i64 t] (.tuple #[boxV y, boxV R'])) := by
            have e1 : R.low (j : Int) t = y := by
              rw [← hR, Bx.low, Bx.at_put (by omega), Bx.put_put (by omega), ← ht, rst_low HUj.out hxL, hsp, hy]
            have e2 : R.upp (j : Int) t = R' := by
              rw [← hR, Bx.upp, Bx.at_put (by omega), Bx.put_put (by omega), ← ht, rst_upp HUj.out hxL, hR']
            have hRo : R.ok := hR ▸ Bx.put_ok HOk.out (rst_ok HUj.out hsok (Nat.le_of_lt hxL)) (by omega)
            have ht2 := HI.out.mem (wd_mem hxL)
            rw [ht] at ht2
            exact hid fun w => by
              have := bcut_any R (j : Int) t w hRo ht2.1 ht2.2
              rwa [e1, e2] at this
          rw [hR] at HN
          rw [ht] at k2
          simp only [boxV] at hCu
          go_upto_region 10 with fail
          obtain ⟨wa, hwa⟩ : ∃ wa, wr.alloc (.cells #[.int .i64 0, .int .i64 0, .int .i64 0, .int .i64 0, .int .i64 0, .int .i64 0, .int .i64 0, .int .i64 0, .int .i64 0, .int .i64 0] 36) = wa := ⟨_, rfl⟩
          have hZ : Hid (BxB wa wr.heap.size Bx.nil) := hwa ▸ hid (BxB.laid wr Bx.nil)
          have hJw : Hid (Jk wr wa) := hwa ▸ hid ((Jk.refl wr).alloc _)
          rw [hwa]
          clear hwa k2
          refine wp_region_lit ?_
          refine list_loadX rfl _ rfl (HN.out.jk hJw.out).bx rfl ?_
          refine wpList_one rfl fun K' hK' => ?_
          go_simp
          refine hK' _ _ ?_
          clear hK' K'
          refine wpList_one rfl fun K' hK' => ?_
          go_simp
          refine hK' _ _ ?_
          clear hK' K'
          refine wpList_one rfl fun K' hK' => ?_
          go_simp
          go_at_call 34
          refine (hCu.out.on _).mono ?_
          rintro e w3 ⟨rfl, hj3⟩
          have HJ3 := hid (hJw.out.trans hj3)
          have HZ3 := hid (hZ.out.jk hj3)
          go_simp
          refine hK' _ _ ?_
          clear hK' K' hj3 hZ hJw
          refine wpList_one rfl fun K' hK' => ?_
          go_simp
          refine hK' _ _ ?_
          clear hK' K'
          refine wpList_one rfl fun K' hK' => ?_
          go_simp
          refine hK' _ _ ?_
          clear hK' K'
          refine wpList_one rfl fun K' hK' => ?_
          go_simp
          refine hK' _ _ ?_
          clear hK' K'
          refine list_storeX rfl _ _ rfl HZ3.out rfl y rfl fun w4 hq4 hg4 => ?_
          have HJ4 := hid (HJ3.out.grown hg4 (fun k hk => by cases hk; exact Nat.le_refl _))
          have HN4 := hid (HN.out.jk HJ4.out)
          refine list_storeX rfl _ _ rfl HN4.out.bx rfl R' rfl fun w5 hq5 hg5 => ?_
          have HN5 := hid (HN4.out.box hg5 hq5)
          have HY5 : Hid (BxB w5 wr.heap.size y) := hid (hq4.by hg5 (by omega))
          have hng : u.ownBlock ≠ some wr.heap.size := fun e => by have := (World.ownsRow.lt HN.out.ow.2 _ e).2; omega
          clear hg4 hg5 hq4 hq5 HJ3 HZ3 HN4 HJ4
          simp only [Act.put]
          go_upto_region 11 with fail
          have kp : ∀ X : Wd hp wr.heap.size (setV v j u) y w5.heap.size, X.z.cell? ⟨hp, j, none⟩ = some u := fun X => by
            have := X.pr.at (j := j) (by omega)
            rwa [setV_at] at this
          have k1 : ∀ X : Wd hp wr.heap.size (setV v j u) y w5.heap.size, X.z.cell? ⟨wr.heap.size, j * 2, none⟩ = some (.int .i64 sp.lo) := fun X => by
            have := (X.bx.cellAt (j := j) (by omega)).1
            rwa [hya] at this
          have k2 : ∀ X : Wd hp wr.heap.size (setV v j u) y w5.heap.size, X.z.cell? ⟨wr.heap.size, j * 2 + 1, none⟩ = some (.int .i64 sp.hi) := fun X => by
            have := (X.bx.cellAt (j := j) (by omega)).2
            rwa [hya] at this
          have k3 : ∀ X : Wd hp wr.heap.size (setV v j u) y w5.heap.size, hp < X.z.heap.size := fun X => X.pr.lt
          have k4 : ∀ X : Wd hp wr.heap.size (setV v j u) y w5.heap.size, wr.heap.size < X.z.heap.size := fun X => X.bx.lt
          have hJd : Jk w5 w5.drew := (Jk.refl w5).drew
          refine region_midS (T := Wd hp wr.heap.size (setV v j u) y w5.heap.size) (fun X => X.z) 10 [0, 1, 2, 3, 4, 5, 6] [7, 8, 9] #[true, true, true, true, true, true, true, true, true, true, false] (by kernel_rfl) (by kernel_rfl) (fun _ _ d _ _ h => by cases d <;> exact h) ⟨⟨w5.drew, HN5.out.pr.jk hJd, HY5.out.jk hJd, hJd.below.size⟩, rfl⟩ ?_
          dsimp only [opersAt, List.getElem?_cons_zero, List.getElem?_cons_succ]
          repeat (go_big_quiet_step (first | exact rfl))
          refine wpQuiet_nil ?_
          have hJa : Jk w5 (w5.drew.alloc (.cells #[.int .i64 sp.lo, .int .i64 sp.hi] 34)) := hJd.alloc _
          intro K1 hK1
          go_simp
          refine hK1 _ _ ⟨⟨_, HN5.out.pr.jk hJa, HY5.out.jk hJa, hJa.below.size⟩, rfl⟩ ?_
          clear hK1 K1 kp k1 k2 k3 k4
          intro K2 hK2
          refine wp_appS2 (B := w2.heap.size) (ys := [sp]) (.tmp 37) (.tmp 41) rfl (HN5.out.ow.jk hJa) (Nat.le_trans HN5.out.sz hJa.below.size) rfl (some ⟨w5.heap.size, 0, none⟩) 1 1 rfl rfl (by decide) ⟨_, _, rfl, new_span w5.drew sp _ rfl⟩ (by omega) (x + 1) rfl ?_
          intro g1 c1 wA hOA hGA hgA
          have HIA := hid ((HN5.out.jk hJa).app hGA hOA)
          have hBA : BxB wA wr.heap.size y := (hGA.block wr.heap.size (Nat.lt_of_lt_of_le HY5.out.lt hJa.below.size) (fun e => hng e.symm)).trans (HY5.out.jk hJa)
          have hsA : w5.heap.size ≤ wA.heap.size := Nat.le_trans hJa.below.size hGA.size
          refine hK2 _ _ ⟨⟨wA, HIA.out.pr, hBA, hsA⟩, rfl⟩ ?_
          clear hK2 K2 hJa hJd hOA hGA hgA
          have kq := HIA.out.pr.at (j := j) (by omega)
          rw [setV_at] at kq
          have kf := HIA.out.pr.frozen j
          have kl := HIA.out.pr.lt
          have HIB := hid (HIA.out.set (j := j) (by omega) (.slice (some ⟨g1, 0, none⟩) (x + 1) c1))
          rw [setV_set] at HIB
          intro K3 hK3
          go_simp
          refine hK3 _ _ ⟨⟨wA, HIA.out.pr, hBA, hsA⟩, rfl⟩ ?_
          clear hK3 K3 hBA hsA
          refine wpList_one rfl fun K4 hK4 => ?_
          go_simp
          refine hK4 _ _ ?_
          clear hK4 K4
          go_wp2
          clear kq kf kl HIA
          go_roundg r2
          case measure => omega
          case rel => exact ⟨x + 1, _, by omega, by go_num, by rw [lowsL_succ, hsp, hR']; exact HIB⟩

end Go.Proofs.YtkkbeobocbgmeaaGreat

namespace Go.Proofs.YtkkbeobocbgmeaaGreat
open Go.RowKit M

def nqN (P : Nat → List Sp) (n : Nat) : Nat → Nat
  | 0 => n
  | k + 1 => nqN P n k / (P (4 - k)).length
def bxN (P : Nat → List Sp) (n : Nat) : Nat → Bx
  | 0 => Bx.nil
  | k + 1 => (bxN P n k).put ((4 - k : Nat) : Int) (spA (P (4 - k)) (nqN P n k % (P (4 - k)).length))
theorem nqN_le (P : Nat → List Sp) (n : Nat) : ∀ k, nqN P n k ≤ n
  | 0 => Nat.le_refl _
  | k + 1 => Nat.le_trans (Nat.div_le_self _ _) (nqN_le P n k)
theorem bxN_all (P : Nat → List Sp) (n : Nat) : bxN P n 5 = cellP P n := rfl
theorem cell_ans {v : Nat → Value} {P : Nat → List Sp} {ww : World} (hv : ∀ i, i < 5 → IsSp ww (v i) (P i)) {n : Nat} (hn : n ≤ 1000000000000) {c : Bx} (hc : cellP P n = c) : AnsW ww 23 #[partsV v, .int .i64 (n : Int)] (boxW c) := fun w hj => by
  have h := cell_any (v := v) (N := nqN P n) (X := bxN P n) w (fun k j hk => by
    obtain rfl : j = 4 - k := by omega
    exact ⟨_, _, ((hv (4 - k) (by omega)).jk hj).digit (nqN P n k) rfl rfl rfl, rfl⟩) (fun k => Nat.le_trans (nqN_le P n k) hn) rfl
  rw [bxN_all, hc] at h
  exact h
theorem partsL_len (s : Sp) (L : List Int) : (partsL s L).length = L.length + 1 := lowsL_len _ _ _
theorem partsL_at (s : Sp) (L : List Int) (n : Nat) : spA (partsL s L) (n % (L.length + 1)) = prt s L (n % (L.length + 1)) := lowsL_at (Nat.mod_lt _ (Nat.succ_pos _))
theorem cellP_is (b : Bx) (K : Int → List Int) (n : Nat) : cellP (fun i => partsL (b.at (i : Int)) (K (i : Int))) n = cellX b K n := by
  unfold cellP
  simp only [partsL_len, partsL_at]
  rfl

theorem quiet_loadM {ops : Array Oper} {rest : List Oper} {C : World → Prop} {Q : Act → Prop} {a : Act} {o : Oper} {h : Nat} {m : Md} (hC : ∀ z, C z → MdB z h m) (hgd : o.guard = none) (x : Operand) (ho : o.op = .load 31 x) (hx : a.eval x = .pointer (some ⟨h, 0, none⟩))
    (hh : ∀ K : Act → Prop, (∀ a, wpQuiet Tryz.prog ops C Q rest a → K a) → K (a.put o.dst (modelV m))) : wpQuiet Tryz.prog ops C Q (o :: rest) a := by
  refine wpQuiet_step fun K hK' => ?_
  have hw : Region.wanted o (yielded ops a.tmps) = true := by simp [Region.wanted, hgd]
  rw [if_pos hw]
  refine ⟨modelV m, fun w hw => ?_, hh K hK'⟩
  unfold Oper.quietAt execOp
  have hl : (loadVar 31 ⟨h, 0, none⟩).run Tryz.prog w = .ok (modelV m) w := run_loadVar_row w h _ _ _ _ _ (hC w hw) Tryz.underlying31 rfl (by kernel_rfl)
  simp only [ho, hx, Instr.loadAt, Instr.sureAddr, Sem.run_bind, Sem.run_pure, Result.andThen_ok, hl]
  exact ⟨rfl, rfl⟩
theorem quiet_loadX {ops : Array Oper} {rest : List Oper} {C : World → Prop} {Q : Act → Prop} {a : Act} {o : Oper} {h : Nat} {x : Bx} (hC : ∀ z, C z → BxB z h x) (hgd : o.guard = none) (y : Operand) (ho : o.op = .load 36 y) (hx : a.eval y = .pointer (some ⟨h, 0, none⟩))
    (hh : ∀ K : Act → Prop, (∀ a, wpQuiet Tryz.prog ops C Q rest a → K a) → K (a.put o.dst (boxW x))) : wpQuiet Tryz.prog ops C Q (o :: rest) a := by
  refine wpQuiet_step fun K hK' => ?_
  have hw : Region.wanted o (yielded ops a.tmps) = true := by simp [Region.wanted, hgd]
  rw [if_pos hw]
  refine ⟨boxW x, fun w hw => ?_, hh K hK'⟩
  unfold Oper.quietAt execOp
  simp only [ho, hx, Instr.loadAt, Instr.sureAddr, Sem.run_bind, Sem.run_pure, Result.andThen_ok, load_X (hC w hw)]
  exact ⟨rfl, rfl⟩

/-- rows of parts, in every world that grew from w -/
theorem count_yes {m : Md} (q : Qy) (b : Bx) (most : Int) {ww : World} (hm : m.ok ww) (hr : RightM m) {N : Nat} (hN : cntX (cutsI m q b) = N) {c : Int} {ok : Bool} (hc : (if (N : Int) ≤ most then (N : Int) else 0) = c) (ho : decide ((N : Int) ≤ most) = ok) : AnsW ww 10 #[modelV m, queryV q, boxV b, .int .i64 most] (.tuple #[.int .i64 c, .bool ok]) := fun w hj => by
  have := count_any q b most hm hr w hj
  rw [hN, hc, ho] at this
  exact this

set_option maxRecDepth 100000 in
set_option maxHeartbeats 6400000 in
theorem holds_any {m : Md} (q : Qy) (most : Int) {ww : World} (hm : m.ok ww) (hr : RightM m) (hs : (startI q).ok) {H : Bool} (hH : H = true ↔ CellsHold m q) {N : Nat} (hN : cntX (cutsI m q (startI q)) = N) (w : World) (hjw : Jk ww w) : Calls Tryz.prog 11 #[modelV m, queryV q, .int .i64 most] w fun e w' => e = .returned (.tuple #[.bool (decide ((N : Int) ≤ most) && H), .bool (decide ((N : Int) ≤ most))]) ∧ Jk w w' := by
  have J := rules8
  have HSt : Hid (Ans 6 #[queryV q] (boxW (startI q))) := start_ans q
  have hN9 : N ≤ 1000000000000 := by
    have := cntI_small hr q (startI q)
    omega
  have HNx : Hid (∀ w', Jk w w' → Calls Tryz.prog 22 #[modelV m, queryV q, boxV (startI q)] w' fun e w'' => GotP w' (fun i => partsL ((startI q).at (i : Int)) (cutsI m q (startI q) (i : Int))) e w'') := fun w' hj => parts_any hm hr hs w' (hjw.trans hj)
  have HBk : Hid (∀ (c : Bx) (b : Bool), (b = true ↔ BreaksP m q (lowF c) c.e.hi) → AnsW w 24 #[modelV m, queryV q, ptV c.lowest, .int .i64 c.e.hi] (.bool b)) := fun c b hb => (show AnsW ww 24 #[modelV m, queryV q, pointV (lowF c), .int .i64 c.e.hi] (.bool b) from breaks_ans (lowF c) c.e.hi hm hb).up hjw
  obtain ⟨cc, hcc⟩ : ∃ z, (if (N : Int) ≤ most then (N : Int) else 0) = z := ⟨_, rfl⟩
  obtain ⟨ok, hok⟩ : ∃ z, decide ((N : Int) ≤ most) = z := ⟨_, rfl⟩
  have HCt := hid ((count_yes q (startI q) most hm hr hN hcc hok).up hjw)
  have HBool : Hid (∀ c : Bx, ∃ b : Bool, b = true ↔ BreaksP m q (lowF c) c.e.hi) := hid fun c => breaks_bool m q (lowF c) c.e.hi
  have HCell : Hid (∀ n, cellP (fun i => partsL ((startI q).at (i : Int)) (cutsI m q (startI q) (i : Int))) n = cellX (startI q) (cutsI m q (startI q)) n) := hid fun n => cellP_is _ _ n
  have HH : Hid (H = true ↔ ∀ n, n < N → ¬ BreaksP m q (lowF (cellX (startI q) (cutsI m q (startI q)) n)) (cellX (startI q) (cutsI m q (startI q)) n).e.hi) := by
    rw [← hN]
    exact hid hH
  obtain ⟨X, hX⟩ : ∃ X, cellX (startI q) (cutsI m q (startI q)) = X := ⟨_, rfl⟩
  obtain ⟨P, hP⟩ : ∃ P : Nat → List Sp, (fun i : Nat => partsL ((startI q).at (i : Int)) (cutsI m q (startI q) (i : Int))) = P := ⟨_, rfl⟩
  rw [hX] at HH HCell
  rw [hP] at HCell HNx
  obtain ⟨b, hb⟩ : ∃ b, startI q = b := ⟨_, rfl⟩
  rw [hb] at HSt HNx HCt
  rw [hok]
  clear hm hr hjw hs hH hN hX hP hb
  obtain ⟨w0, hw0⟩ : ∃ w0, (w.alloc (.cells #[.int .i64 m.d, .int .i64 m.k, .int .i64 m.b0, .int .i64 m.b1, .int .i64 m.b2, .slice m.a m.n m.c] 31)).alloc (.cells #[.int .i64 q.kd, .int .i64 q.cl, .int .i64 q.rg.a.lo, .int .i64 q.rg.a.hi, .int .i64 q.rg.b.lo, .int .i64 q.rg.b.hi, .int .i64 q.rg.c.lo, .int .i64 q.rg.c.hi, .int .i64 q.rg.d.lo, .int .i64 q.rg.d.hi, .int .i64 q.rg.e.lo, .int .i64 q.rg.e.hi, .int .i64 q.lo, .int .i64 q.hi, .int .i64 q.f, .bool q.fa, .int .i64 q.bu] 38) = w0 := ⟨_, rfl⟩
  have HJ0 : Hid (Jk w w0) := hw0 ▸ hid (((Jk.refl w).alloc _).alloc _)
  have HM : Hid (MdB w0 w.heap.size m) := hw0 ▸ hid ((MdB.laid w m).jk ((Jk.refl _).alloc _))
  have HQ : Hid (QyB w0 (w.heap.size + 1) q) := by
    rw [← hw0]
    have := QyB.laid (w.alloc (.cells #[.int .i64 m.d, .int .i64 m.k, .int .i64 m.b0, .int .i64 m.b1, .int .i64 m.b2, .slice m.a m.n m.c] 31)) q
    rw [World.size_alloc] at this
    exact hid this
  simp only [modelV, queryV, boxV] at HSt HNx HBk HCt ⊢
  go_enter Tryz.func11, Tryz.ntmps11
  go_upto_region 1 with fail
  go_cut [8] (fun p wc => ∃ g, p = .pointer (some ⟨g, 0, none⟩) ∧ BxB wc g b ∧ Jk w0 wc)
  case first =>
    refine wp_region_lit ?_
    refine list_loadQ rfl _ rfl HQ.out rfl ?_
    go_wp2_with (first | (go_at_call 6; refine (HSt.out.on _).mono ?_; rintro e w1 ⟨rfl, X1, rfl⟩))
    go_meet
    case rel => exact ⟨_, rfl, by have := BxB.laid (junk w0 X1) b; rwa [junk_size] at this, ((Jk.refl w0).junk X1).alloc _⟩
  case rest =>
  obtain ⟨g, rfl, hB, hj1⟩ := hcut
  obtain ⟨w1, rfl⟩ : ∃ z, z = wc := ⟨_, rfl⟩
  have HB := hid hB
  have HJ1 := hid hj1
  clear hB hj1 HSt
  go_upto_region 2 with fail
  refine wp_region_lit ?_
  refine list_loadM rfl _ rfl (HM.out.jk HJ1.out) rfl ?_
  refine list_loadQ rfl _ rfl (HQ.out.jk HJ1.out) rfl ?_
  refine list_loadX rfl _ rfl HB.out rfl ?_
  cases ok
  · go_wp2_with (first | (go_at_call 10; refine (HCt.out.on _ (HJ0.out.trans HJ1.out)).mono ?_; rintro e w2 ⟨rfl, hj2⟩; have HJ2 := hid hj2; clear hj2))
    exact bodyPost_ret (v := .tuple #[.bool false, .bool false]) (by simp [results, Tryz.results11, go_sem]) rfl ⟨rfl, (HJ0.out.trans HJ1.out).trans HJ2.out⟩
  · have hle : (N : Int) ≤ most := by simpa using hok
    rw [if_pos hle] at hcc
    subst hcc
    go_upto_region 5 with (first | (go_at_call 10; refine (HCt.out.on _ (HJ0.out.trans HJ1.out)).mono ?_; rintro e w2 ⟨rfl, hj2⟩; have HJ2 := hid hj2; clear hj2))
    have HJa := hid ((HJ0.out.trans HJ1.out).trans HJ2.out)
    have HMa := hid (HM.out.jk (HJ1.out.trans HJ2.out))
    have HQa := hid (HQ.out.jk (HJ1.out.trans HJ2.out))
    have HBa := hid (HB.out.jk HJ2.out)
    clear HM HQ HB HJ0 HJ1 HJ2 HCt hw0
    go_cut [11] (fun p wc => ∃ h v, p = .pointer (some ⟨h, 0, none⟩) ∧ PrB wc h v ∧ (∀ i, i < 5 → IsSp wc (v i) (P i)) ∧ Jk w2 wc)
    case first =>
      refine wp_region_lit ?_
      refine list_loadM rfl _ rfl HMa.out rfl ?_
      refine list_loadQ rfl _ rfl HQa.out rfl ?_
      refine list_loadX rfl _ rfl HBa.out rfl ?_
      refine wpList_one rfl fun K1 hK1 => ?_
      go_simp
      go_at_call 22
      refine (HNx.out _ HJa.out).mono ?_
      rintro e w3 ⟨v, rfl, hv, hj3⟩
      have HV := hid hv
      have HJ3 := hid hj3
      clear hv hj3
      go_simp
      refine hK1 _ _ ?_
      clear hK1 K1
      refine wpList_one rfl fun K1 hK1 => ?_
      go_simp
      refine hK1 _ _ ?_
      clear hK1 K1
      refine list_storeP rfl _ _ rfl (PrB.laid w3 (fun _ => .slice none 0 0)) rfl v (fun i hi => (HV.out i hi).one) rfl fun w4 hq4 hg4 => ?_
      have HJ4 := hid (((Jk.refl w3).alloc (.cells #[.slice none 0 0, .slice none 0 0, .slice none 0 0, .slice none 0 0, .slice none 0 0] 65)).grown hg4 (fun k hk => by cases hk; exact Nat.le_refl _))
      go_wp2
      go_meet
      case rel => exact ⟨_, v, rfl, hq4, fun i hi => (HV.out i hi).jk HJ4.out, HJ3.out.trans HJ4.out⟩
    case rest =>
    obtain ⟨h, v, rfl, hP, hv, hj3⟩ := hcut
    obtain ⟨w3, rfl⟩ : ∃ z, z = wc := ⟨_, rfl⟩
    have HP := hid hP
    have HJ3 := hid hj3
    have HCl : Hid (∀ (n : Nat) (c : Bx), n ≤ 1000000000000 → X n = c → AnsW w3 23 #[partsV v, .int .i64 (n : Int)] (boxW c)) := hid fun n c hn hc => cell_ans hv hn ((HCell.out n).trans hc)
    clear hP hv hj3 HNx
    go_upto_region 7 with fail
    go_loopg [31] N (fun r i wr => ∃ n, n + r = N ∧ i = .int .i64 (n : Int) ∧ Hid ((∀ k, k < n → ¬ BreaksP m q (lowF (X k)) (X k).e.hi) ∧ Jk w3 wr))
    case atStart => exact ⟨0, by omega, rfl, hid ⟨fun k hk => absurd hk (Nat.not_lt_zero _), Jk.refl w3⟩⟩
    case round =>
      obtain ⟨n, hn, rfl, HS⟩ := hrel
      by_cases hfuel : gk = 0
      · subst hfuel
        obtain rfl : n = N := by omega
        obtain rfl : H = true := HH.out.2 HS.out.1
        go_wp2
        exact bodyPost_ret (v := .tuple #[.bool true, .bool true]) (by simp [results, Tryz.results11, go_sem]) rfl ⟨rfl, (HJa.out.trans HJ3.out).trans HS.out.2⟩
      · obtain ⟨r, rfl⟩ : ∃ r, gk = r + 1 := ⟨gk - 1, by omega⟩
        have hnN : (n : Int) < (N : Int) := by omega
        obtain ⟨c, hc⟩ : ∃ c, X n = c := ⟨_, rfl⟩
        have HCn := hid (HCl.out n c (by omega) hc)
        obtain ⟨bk, hbk⟩ := HBool.out c
        have HBn := hid (HBk.out c bk hbk)
        have HBi := hid hbk
        go_upto_region 9 with fail
        go_cut [13] (fun p wc => ∃ g, p = .pointer (some ⟨g, 0, none⟩) ∧ BxB wc g c ∧ Jk wr wc)
        case first =>
          refine wp_region_lit ?_
          refine list_loadP rfl _ rfl (HP.out.jk HS.out.2) rfl ?_
          go_wp2_with (first | (go_at_call 23; refine (HCn.out.on _ HS.out.2).mono ?_; rintro e w4 ⟨rfl, hj4⟩; have HJ4 := hid hj4; clear hj4))
          go_meet
          case rel => exact ⟨_, rfl, BxB.laid w4 c, HJ4.out.alloc _⟩
        case rest =>
        obtain ⟨g2, rfl, hB2, hj4⟩ := hcut
        obtain ⟨w4, rfl⟩ : ∃ z, z = wc := ⟨_, rfl⟩
        have HB2 := hid hB2
        have HJ4 := hid hj4
        clear hB2 hj4
        obtain ⟨x0, x1, x2, x3, x4, x5, x6, x7, x8, x9⟩ := HB2.out.in
        have xl := HB2.out.lt
        have HM4 := hid (HMa.out.jk ((HJ3.out.trans HS.out.2).trans HJ4.out))
        have HQ4 := hid (HQa.out.jk ((HJ3.out.trans HS.out.2).trans HJ4.out))
        have HL4 : Hid (Ans 25 #[boxV c] (ptV c.lowest)) := hid (a_low rfl)
        have HB4 := hid (HBn.out.up (((HJa.out.trans HJ3.out).trans HS.out.2).trans HJ4.out))
        simp only [boxV] at HL4
        go_upto_region 10 with fail
        refine region_junk (by kernel_rfl) (by kernel_rfl) ?_
        refine quiet_loadM (by rintro _ ⟨X, rfl⟩; exact HM4.out.jk ⟨X, rfl⟩) rfl _ rfl rfl ?_
        intro K hK
        simp only [Act.put, List.setIfInBounds_toArray, List.set_cons_succ, List.set_cons_zero]
        go_big_quiet_on
        refine quiet_loadQ (by rintro _ ⟨X, rfl⟩; exact HQ4.out.jk ⟨X, rfl⟩) rfl _ rfl rfl ?_
        intro K hK
        simp only [Act.put, List.setIfInBounds_toArray, List.set_cons_succ, List.set_cons_zero]
        go_big_quiet_on
        refine quiet_loadX (by rintro _ ⟨X, rfl⟩; exact HB2.out.jk ⟨X, rfl⟩) rfl _ rfl rfl ?_
        intro K hK
        simp only [Act.put, List.setIfInBounds_toArray, List.set_cons_succ, List.set_cons_zero]
        go_big_quiet_on
        repeat (go_big_quiet_step (first | (go_at_call 25; exact on_junk HL4.out _) | (go_at_call 24; exact AnsW.junk (by with_reducible exact HB4.out) _) | exact rfl))
        refine wpQuiet_nil ?_
        rintro _ ⟨Y, rfl⟩
        cases bk
        · go_wp2
          go_roundg r
          case measure => omega
          case rel =>
            refine ⟨n + 1, by omega, by go_num, hid ⟨fun k hk => ?_, (HS.out.2.trans HJ4.out).junk Y⟩⟩
            by_cases e : k = n
            · subst e
              rw [hc]
              exact fun hb => by have := HBi.out.2 hb; cases this
            · exact HS.out.1 k (by omega)
        · obtain rfl : H = false := by
            cases H
            · rfl
            · exact absurd (HBi.out.1 rfl) (hc ▸ HH.out.1 rfl n (by omega))
          go_wp2
          exact bodyPost_ret (v := .tuple #[.bool false, .bool true]) (by simp [results, Tryz.results11, go_sem]) rfl ⟨rfl, ((HJa.out.trans HJ3.out).trans HS.out.2).trans (HJ4.out.junk Y)⟩
theorem holds_ans {m : Md} (q : Qy) (most : Int) {ww : World} (hm : m.ok ww) (hr : RightM m) (hs : (startI q).ok) {H : Bool} (hH : H = true ↔ CellsHold m q) {N : Nat} (hN : cntX (cutsI m q (startI q)) = N) {x y : Bool} (hx : (decide ((N : Int) ≤ most) && H) = x) (hy : decide ((N : Int) ≤ most) = y) : AnsW ww 11 #[modelV m, queryV q, .int .i64 most] (.tuple #[.bool x, .bool y]) := fun w hj => by
  have := holds_any q most hm hr hs hH hN w hj
  rw [hx, hy] at this
  exact this

end Go.Proofs.YtkkbeobocbgmeaaGreat
