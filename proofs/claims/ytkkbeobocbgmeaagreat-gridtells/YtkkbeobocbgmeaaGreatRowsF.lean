/- Rows of trees of the call's own; what 'append' onto one leaves. A model that lies in a block of its own and is written to.
   The numbers of which a model is made (copsekeep.Forest), in memory.
   One tree that was laid in a block of its own. -/
import Derived.Test.YtkkbeobocbgmeaaGreatModelE
import Derived.Test.YtkkbeobocbgmeaaGreatTreeA
import Derived.Test.YtkkbeobocbgmeaaGreatNodesA
namespace Go.Proofs.YtkkbeobocbgmeaaGreat
open Go.RowKit M

def flatT : List Tr → List Value
  | [] => []
  | t :: L => .int .i64 t.cl :: .slice t.a t.n t.c :: flatT L
theorem flatT_append (L M : List Tr) : flatT (L ++ M) = flatT L ++ flatT M := by
  induction L with
  | nil => rfl
  | cons x L ih => simp [flatT, ih]
theorem flatT_length (L : List Tr) : (flatT L).length = L.length * 2 := by
  induction L with
  | nil => rfl
  | cons x L ih => simp [flatT, ih]; omega
theorem flatT_at (L : List Tr) (i : Nat) (h : i < L.length) : (flatT L)[i * 2]? = some (.int .i64 (tA L i).cl) ∧ (flatT L)[i * 2 + 1]? = some (.slice (tA L i).a (tA L i).n (tA L i).c) := by
  induction L generalizing i with
  | nil => simp at h
  | cons x L ih =>
    cases i with
    | zero => exact ⟨rfl, rfl⟩
    | succ i =>
      have := ih i (by simp at h; omega)
      have e : (i + 1) * 2 = i * 2 + 1 + 1 := by omega
      rw [e]
      simpa [flatT, tA] using this
theorem flatT_one (L : List Tr) : ∀ u ∈ flatT L, u.oneCell' = true := by
  induction L with
  | nil => simp [flatT]
  | cons x L ih =>
    intro u hu
    simp only [flatT, List.mem_cons] at hu
    rcases hu with rfl | rfl | hu
    · rfl
    · rfl
    · exact ih u hu
/-- a row of the call's own: trees -/
def OwnT (B : Nat) (w : World) (v : Value) (n : Nat) (L : List Tr) : Prop := L.length = n ∧ w.ownsRow B 60 2 v n (flatT L)
theorem infoT : (Tryz.prog.info? 60).map (fun i => (i.zero, i.size, i.bytes)) = some (some (.agg #[.int .i64 0, .slice none 0 0]), 2, 32) := by kernel_rfl
theorem OwnT.jk {B : Nat} {w w' : World} {v : Value} {n : Nat} {L : List Tr} (h : OwnT B w v n L) (hj : Jk w w') : OwnT B w' v n L := ⟨h.1, row_below h.2 hj⟩
theorem OwnT.kept {B : Nat} {w w' : World} {v : Value} {n : Nat} {L : List Tr} (h : OwnT B w v n L) {row : Option Nat} (hg : w.grownBy w' row) (hne : v.ownBlock = none ∨ v.ownBlock ≠ row) : OwnT B w' v n L := ⟨h.1, h.2.kept hg hne⟩
theorem OwnT.base {B : Nat} {w : World} {v : Value} {n : Nat} {L : List Tr} (h : OwnT B w v n L) : ∀ k, v.ownBlock = some k → B ≤ k := fun k hk => (World.ownsRow.lt h.2 k hk).1
theorem OwnT.nil (B : Nat) (w : World) : OwnT B w (.slice none 0 0) 0 [] := ⟨rfl, World.ownsRow_nil _ _ _ _⟩
theorem OwnT.mono {B B' : Nat} {w : World} {v : Value} {n : Nat} {L : List Tr} (h : OwnT B w v n L) (hb : B' ≤ B) : OwnT B' w v n L := ⟨h.1, row_mono h.2 hb⟩
theorem OwnT.at {B : Nat} {w : World} {g c n : Nat} {L : List Tr} (h : OwnT B w (.slice (some ⟨g, 0, none⟩) n c) n L) : AtT w g 0 L := fun i hi => by
  have q := flatT_at L i hi
  have h1 := World.ownsRow.cells h.2 (g := g) rfl (i * 2) _ q.1
  have h2 := World.ownsRow.cells h.2 (g := g) rfl (i * 2 + 1) _ q.2
  rw [add_at] at h1 h2
  exact ⟨h1, by rw [Nat.add_assoc]; exact h2⟩
theorem OwnT.isT {B : Nat} {w : World} {a : Option Addr} {c n : Nat} {L : List Tr} (h : OwnT B w (.slice a n c) n L) (hb : ∀ i, i < n → (tA L i).ok w) : IsT w a n c L := by
  obtain ⟨a', c', e, h1, h2, h3⟩ := row_form h.2
  simp only [Value.slice.injEq, true_and] at e
  obtain ⟨rfl, rfl⟩ := e
  refine ⟨h.1, h1, h2, hb, fun h0 => ?_⟩
  obtain ⟨g, rfl, hg1, hg2⟩ := h3 h0
  exact ⟨g, 0, rfl, hg2, h.at⟩
theorem AtT.src {w : World} {b o : Nat} {M : List Tr} (h : AtT w b o M) : ∀ j u, (flatT M)[j]? = some u → w.cell? ((⟨b, o, none⟩ : Addr).add j) = some u := fun j u hu => by
  rw [add_at]
  have hj : j < M.length * 2 := by rw [← flatT_length]; exact (List.getElem?_eq_some_iff.1 hu).1
  obtain ⟨i, e⟩ : ∃ i, j = i * 2 ∨ j = i * 2 + 1 := ⟨j / 2, by omega⟩
  rcases e with rfl | rfl
  · have q := flatT_at M i (by omega)
    rw [q.1] at hu
    rw [(h i (by omega)).1]
    exact hu
  · have q := flatT_at M i (by omega)
    rw [q.2] at hu
    rw [← Nat.add_assoc, (h i (by omega)).2]
    exact hu
/-- append of trees onto a row of one's own, whatever comes behind (nothing, too, where there is a block) -/
theorem run_appT {B : Nat} {w : World} {v : Value} {n : Nat} {xs ys : List Tr} (ty : TypeId) (hown : OwnT B w v n xs) (hB : B ≤ w.heap.size) (a : Option Addr) (m c : Nat) (hm : ys.length = m) (hp : 0 < m) (hx : ∃ b o, a = some ⟨b, o, none⟩ ∧ AtT w b o ys) (hl : n + m ≤ 1000) :
    ∃ g' cap' w', (Builtin.append_ #[29, 29] ty #[v, .slice a m c]).run Tryz.prog w = .ok (.slice (some ⟨g', 0, none⟩) (n + m) cap') w' ∧
      OwnT B w' (.slice (some ⟨g', 0, none⟩) (n + m) cap') (n + m) (xs ++ ys) ∧ w.grownBy w' v.ownBlock ∧ (v.ownBlock = some g' ∨ g' = w.heap.size) := by
  obtain ⟨i0, hi0, hz0, hz1, hz2⟩ := info_parts infoT
  obtain ⟨b, o, rfl, hat⟩ := hx
  obtain ⟨g', cap', w', hr, h2, h3, h4, _⟩ := run_append_lies (P := Tryz.prog) w 29 ty B 60 i0 _ 2 32 Tryz.underlying29 hi0 hz0 hz1 hz2 rfl (by omega) v n (flatT xs) hown.2 ⟨b, o, none⟩ m c (flatT ys) (by rw [flatT_length, hm])
      hat.src (flatT_one _) hp (by unfold maxLen; omega) (by omega) hB w.heap.size rfl
  exact ⟨g', cap', w', hr, ⟨by rw [List.length_append, hown.1, hm], by rw [flatT_append]; exact h2⟩, h3, h4⟩
/-- nothing is appended onto an empty row that has a block -/
theorem run_appT0 {w : World} (ty : TypeId) (g : Nat) (a : Option Addr) (c : Nat) :
    (Builtin.append_ #[29, 29] ty #[.slice (some ⟨g, 0, none⟩) 0 0, .slice a 0 c]).run Tryz.prog w = .ok (.slice (some ⟨g, 0, none⟩) 0 0) w := by
  obtain ⟨i0, hi0, hz0, hz1, hz2⟩ := info_parts infoT
  have hsrc : Src Tryz.prog i0.size 29 (.slice a 0 c) 0 [] w := by
    cases a with
    | none => exact Src.ofNil w Tryz.underlying29 c
    | some ad => exact Src.ofSlice w Tryz.underlying29 ad 0 c [] (by simp) (by simp) (by simp)
  have h := run_append_room_src (P := Tryz.prog) w 29 29 ty 60 i0 Tryz.underlying29 hi0 g 0 0 0 (.slice a 0 c) 0 [] hsrc (by omega) (by simp) (by simp)
  simpa [World.setCells] using h
/-- ONE APPEND of trees, at a step of a region that draws its order -/
theorem step_appT {ops : Array Oper} {o : Oper} {act : Act} {K : Act → World → Prop} {Q : Exit → Act → World → Prop} {E : Prop} {B : Nat} {w : World} {v : Value} {n : Nat} {xs ys : List Tr}
    (hgd : o.guard = none) (s x : Operand) (ho : o.op = .call { callee := .builtin .append, args := #[s, x], argTypes := #[29, 29] })
    (hown : OwnT B w v n xs) (hB : B ≤ w.heap.size) (hs : act.eval s = v) (a : Option Addr) (m c : Nat) (hm : ys.length = m) (hxv : act.eval x = .slice a m c) (hp : 0 < m) (hx : ∃ b o, a = some ⟨b, o, none⟩ ∧ AtT w b o ys) (hl : n + m ≤ 1000) (r : Nat) (hr : n + m = r)
    (h : ∀ g' cap' w', OwnT B w' (.slice (some ⟨g', 0, none⟩) r cap') r (xs ++ ys) → w.grownBy w' v.ownBlock → (v.ownBlock = some g' ∨ g' = w.heap.size) → K (act.put o.dst (.slice (some ⟨g', 0, none⟩) r cap')) w') :
    if Region.wanted o (yielded ops act.tmps) = true then Oper.wp Tryz.prog o act w K Q else E := by
  subst hr
  have hw : Region.wanted o (yielded ops act.tmps) = true := by simp [Region.wanted, hgd]
  rw [if_pos hw]
  obtain ⟨g', cap', w', hrun, h2, h3, h4⟩ := run_appT (ys := ys) o.type hown hB a m c hm hp hx hl
  unfold Oper.wp execOp
  simp only [ho, resolve, invoke, builtin, Sem.run_bind, Sem.run_pure, Result.andThen_ok, List.map_toArray, List.map_cons, List.map_nil, hs, hxv, hrun]
  exact h g' cap' w' h2 h3 h4

/-- the same, in a plain list of operations -/
theorem list_appT {ops : Array Oper} {rest : List Oper} {o : Oper} {act : Act} {Q : Exit → Act → World → Prop} {B : Nat} {w : World} {v : Value} {n : Nat} {xs ys : List Tr}
    (hgd : o.guard = none) (s x : Operand) (ho : o.op = .call { callee := .builtin .append, args := #[s, x], argTypes := #[29, 29] })
    (hown : OwnT B w v n xs) (hB : B ≤ w.heap.size) (hs : act.eval s = v) (a : Option Addr) (m c : Nat) (hm : ys.length = m) (hxv : act.eval x = .slice a m c) (hp : 0 < m) (hx : ∃ b o, a = some ⟨b, o, none⟩ ∧ AtT w b o ys) (hl : n + m ≤ 1000) (r : Nat) (hr : n + m = r)
    (h : ∀ g' cap' w', OwnT B w' (.slice (some ⟨g', 0, none⟩) r cap') r (xs ++ ys) → w.grownBy w' v.ownBlock → (v.ownBlock = some g' ∨ g' = w.heap.size) → wpList Tryz.prog ops Q rest (act.put o.dst (.slice (some ⟨g', 0, none⟩) r cap')) w') :
    wpList Tryz.prog ops Q (o :: rest) act w := by
  subst hr
  refine wpList_plain hgd fun K' hK' => ?_
  obtain ⟨g', cap', w', hrun, h2, h3, h4⟩ := run_appT (ys := ys) o.type hown hB a m c hm hp hx hl
  unfold Oper.wp execOp
  simp only [ho, resolve, invoke, builtin, Sem.run_bind, Sem.run_pure, Result.andThen_ok, List.map_toArray, List.map_cons, List.map_nil, hs, hxv, hrun]
  exact hK' _ _ (h g' cap' w' h2 h3 h4)

/-- a model in a block of its own that may be written to -/
def MdB (w : World) (h : Nat) (m : Md) : Prop := w.heap[h]? = some (.cells #[.int .i64 m.d, .int .i64 m.k, .int .i64 m.b0, .int .i64 m.b1, .int .i64 m.b2, .slice m.a m.n m.c] 31 (0, 0))
theorem MdB.lt {w : World} {h : Nat} {m : Md} (H : MdB w h m) : h < w.heap.size := (Array.getElem?_eq_some_iff.1 H).1
theorem MdB.in {w : World} {h : Nat} {m : Md} (H : MdB w h m) : MdIn w h m := by
  refine ⟨H.lt, ?_, ?_, ?_, ?_, ?_, ?_⟩ <;> (rw [cell_of_row _ _ _ _ _ _ H]; rfl)
theorem MdB.frozen {w : World} {h : Nat} {m : Md} (H : MdB w h m) (q : Nat) : w.frozen? ⟨h, q, none⟩ = false := frozen_of_row _ _ _ _ _ H
theorem MdB.jk {w w' : World} {h : Nat} {m : Md} (H : MdB w h m) (hj : Jk w w') : MdB w' h m := (hj.below.block h H.lt).trans H
theorem MdB.laid (w : World) (m : Md) : MdB (w.alloc (.cells #[.int .i64 m.d, .int .i64 m.k, .int .i64 m.b0, .int .i64 m.b1, .int .i64 m.b2, .slice m.a m.n m.c] 31)) w.heap.size m := heap_alloc_new w _
theorem MdB.setD {w : World} {h : Nat} {m : Md} (H : MdB w h m) (x : Int) : MdB (w.setCell ⟨h, 0, none⟩ (.int .i64 x)) h { m with d := x } := heap_setCell_same _ _ _ _ _ _ H
theorem MdB.setK {w : World} {h : Nat} {m : Md} (H : MdB w h m) (x : Int) : MdB (w.setCell ⟨h, 1, none⟩ (.int .i64 x)) h { m with k := x } := heap_setCell_same _ _ _ _ _ _ H
theorem MdB.setB0 {w : World} {h : Nat} {m : Md} (H : MdB w h m) (x : Int) : MdB (w.setCell ⟨h, 2, none⟩ (.int .i64 x)) h { m with b0 := x } := heap_setCell_same _ _ _ _ _ _ H
theorem MdB.setB1 {w : World} {h : Nat} {m : Md} (H : MdB w h m) (x : Int) : MdB (w.setCell ⟨h, 3, none⟩ (.int .i64 x)) h { m with b1 := x } := heap_setCell_same _ _ _ _ _ _ H
theorem MdB.setB2 {w : World} {h : Nat} {m : Md} (H : MdB w h m) (x : Int) : MdB (w.setCell ⟨h, 4, none⟩ (.int .i64 x)) h { m with b2 := x } := heap_setCell_same _ _ _ _ _ _ H
theorem MdB.setT {w : World} {h : Nat} {m : Md} (H : MdB w h m) (a : Option Addr) (n c : Nat) (ts : List Tr) : MdB (w.setCell ⟨h, 5, none⟩ (.slice a n c)) h { m with a := a, n := n, c := c, ts := ts } := heap_setCell_same _ _ _ _ _ _ H

theorem cell_same {w w' : World} {b o : Nat} (h : w'.heap[b]? = w.heap[b]?) : w'.cell? ⟨b, o, none⟩ = w.cell? ⟨b, o, none⟩ := by simp [World.cell?, h]
theorem IsW.kept {w w' : World} {a : Option Addr} {n c : Nat} {ws : List Int} (h : IsW w a n c ws) {row : Option Nat} (hg : w.grownBy w' row) (hne : ∀ g o, a = some ⟨g, o, none⟩ → row ≠ some g) : IsW w' a n c ws :=
  ⟨h.len, h.cap, h.max, h.bd, fun h0 => by
    obtain ⟨g, o, h1, h2, h3⟩ := h.lies h0
    exact ⟨g, o, h1, Nat.lt_of_lt_of_le h2 hg.size, fun i hi => (cell_same (hg.block g h2 (fun e => hne g o h1 e.symm))).trans (h3 i hi)⟩⟩
/-- trees of the call's own, whose words are the call's own, too -/
structure FRow (B : Nat) (w : World) (v : Value) (n : Nat) (ts : List Tr) : Prop where
  own : OwnT B w v n ts
  each : ∀ i, i < n → ∃ g, (tA ts i).a = some ⟨g, 0, none⟩ ∧ B ≤ g ∧ g < w.heap.size ∧ v.ownBlock ≠ some g
  ok : ∀ i, i < n → (tA ts i).ok w
  small : ∀ i, i < n → (tA ts i).n ≤ 15
theorem FRow.jk {B : Nat} {w w' : World} {v : Value} {n : Nat} {ts : List Tr} (h : FRow B w v n ts) (hj : Jk w w') : FRow B w' v n ts :=
  ⟨h.own.jk hj, fun i hi => by
    obtain ⟨g, h1, h2, h3, h4⟩ := h.each i hi
    exact ⟨g, h1, h2, Nat.lt_of_lt_of_le h3 hj.below.size, h4⟩, fun i hi => (h.ok i hi).jk hj, h.small⟩
theorem FRow.mono {B B' : Nat} {w : World} {v : Value} {n : Nat} {ts : List Tr} (h : FRow B w v n ts) (hb : B' ≤ B) : FRow B' w v n ts :=
  ⟨h.own.mono hb, fun i hi => by
    obtain ⟨g, h1, h2, h3, h4⟩ := h.each i hi
    exact ⟨g, h1, Nat.le_trans hb h2, h3, h4⟩, h.ok, h.small⟩
theorem FRow.nil (B : Nat) (w : World) : FRow B w (.slice none 0 0) 0 [] := ⟨OwnT.nil B w, fun i hi => by omega, fun i hi => by omega, fun i hi => by omega⟩
/-- a block that is none of theirs is written to -/
theorem FRow.kept {B : Nat} {w w' : World} {v : Value} {n : Nat} {ts : List Tr} (h : FRow B w v n ts) {b : Nat} (hb : b < B) (hg : w.grownBy w' (some b)) : FRow B w' v n ts := by
  refine ⟨h.own.kept hg ?_, fun i hi => ?_, fun i hi => ?_, h.small⟩
  · cases hv : v.ownBlock with
    | none => exact .inl rfl
    | some k =>
      right
      intro e
      have := h.own.base k hv
      simp at e
      omega
  · obtain ⟨g, h1, h2, h3, h4⟩ := h.each i hi
    exact ⟨g, h1, h2, Nat.lt_of_lt_of_le h3 hg.size, h4⟩
  · obtain ⟨g, h1, h2, h3, h4⟩ := h.each i hi
    refine ⟨(h.ok i hi).fit, (h.ok i hi).is.kept hg fun g' o e => ?_⟩
    rw [h1] at e
    simp at e
    intro e2
    simp at e2
    omega
theorem FRow.set {B : Nat} {w : World} {v : Value} {n : Nat} {ts : List Tr} (h : FRow B w v n ts) {b : Nat} (hb : b < B) (q : Nat) (u : Value) : FRow B (w.setCell ⟨b, q, none⟩ u) v n ts := h.kept hb (grown_set w b q u)
theorem FRow.app {B : Nat} {w w' : World} {v : Value} {n : Nat} {ts : List Tr} {t : Tr} {g' c' : Nat} (h : FRow B w v n ts) (ho : OwnT B w' (.slice (some ⟨g', 0, none⟩) (n + 1) c') (n + 1) (ts ++ [t])) (hg : w.grownBy w' v.ownBlock) (hg' : v.ownBlock = some g' ∨ g' = w.heap.size)
    (ht : t.ok w) (ha : ∃ g, t.a = some ⟨g, 0, none⟩ ∧ B ≤ g ∧ g < w.heap.size ∧ v.ownBlock ≠ some g) (hs : t.n ≤ 15) : FRow B w' (.slice (some ⟨g', 0, none⟩) (n + 1) c') (n + 1) (ts ++ [t]) := by
  have hl := h.own.1
  have hat : ∀ i, i < n + 1 → (tA (ts ++ [t]) i = tA ts i ∧ i < n) ∨ tA (ts ++ [t]) i = t := fun i hi => by
    by_cases e : i < n
    · exact .inl ⟨tA_append_left _ _ _ (by omega), e⟩
    · right
      rw [tA_append_right _ _ _ (by omega)]
      have : i - ts.length = 0 := by omega
      rw [this]
      rfl
  have hall : ∀ i, i < n + 1 → (∃ g, (tA (ts ++ [t]) i).a = some ⟨g, 0, none⟩ ∧ B ≤ g ∧ g < w.heap.size ∧ v.ownBlock ≠ some g) ∧ (tA (ts ++ [t]) i).ok w ∧ (tA (ts ++ [t]) i).n ≤ 15 := fun i hi => by
    rcases hat i hi with ⟨e, h1⟩ | e
    · rw [e]; exact ⟨h.each i h1, h.ok i h1, h.small i h1⟩
    · rw [e]; exact ⟨ha, ht, hs⟩
  refine ⟨ho, fun i hi => ?_, fun i hi => ?_, fun i hi => (hall i hi).2.2⟩
  · obtain ⟨⟨g, h1, h2, h3, h4⟩, _⟩ := hall i hi
    refine ⟨g, h1, h2, Nat.lt_of_lt_of_le h3 hg.size, fun e => ?_⟩
    simp [Value.ownBlock] at e
    rcases hg' with e2 | e2
    · rw [e] at e2; exact h4 e2
    · omega
  · obtain ⟨⟨g, h1, h2, h3, h4⟩, h5, _⟩ := hall i hi
    refine ⟨h5.fit, h5.is.kept hg fun g2 o e => ?_⟩
    rw [h1] at e
    simp at e
    intro e2
    exact h4 (by rw [e2, e.1])

end Go.Proofs.YtkkbeobocbgmeaaGreat

namespace Go.Proofs.YtkkbeobocbgmeaaGreat
open Go.RowKit M

/-- a slice of trees' numbers -/
structure IsSd (w : World) (a : Option Addr) (n c : Nat) (ss : Nat → Seed) : Prop where
  cap : n ≤ c
  max : c ≤ maxLen
  all : ∀ i, i < n → (ss i).ok w
  lies : 0 < n → ∃ g o, a = some ⟨g, o, none⟩ ∧ g < w.heap.size ∧ ∀ i, i < n → w.cell? ⟨g, o + i * 5, none⟩ = some (.int .i64 (ss i).cl) ∧ w.cell? ⟨g, o + i * 5 + 1, none⟩ = some (.slice (ss i).a1 (ss i).n1 (ss i).c1) ∧ w.cell? ⟨g, o + i * 5 + 2, none⟩ = some (.slice (ss i).a2 (ss i).n2 (ss i).c2) ∧ w.cell? ⟨g, o + i * 5 + 3, none⟩ = some (.slice (ss i).a3 (ss i).n3 (ss i).c3) ∧ w.cell? ⟨g, o + i * 5 + 4, none⟩ = some (.slice (ss i).a4 (ss i).n4 (ss i).c4)
theorem IsSd.jk {w w' : World} {a : Option Addr} {n c : Nat} {ss : Nat → Seed} (h : IsSd w a n c ss) (hj : Jk w w') : IsSd w' a n c ss :=
  ⟨h.cap, h.max, fun i hi => (h.all i hi).jk hj, fun h0 => by
    obtain ⟨g, o, h1, h2, h3⟩ := h.lies h0
    refine ⟨g, o, h1, Nat.lt_of_lt_of_le h2 hj.below.size, fun i hi => ?_⟩
    have q := h3 i hi
    have e := fun j => hj.below.cell (p := ⟨g, j, none⟩) h2
    rw [e, e, e, e, e]
    exact q⟩
structure Fo where
  d : Int
  k : Int
  ba : Option Addr
  bn : Nat
  bc : Nat
  bz : List Int
  sa : Option Addr
  sn : Nat
  sc : Nat
  ss : Nat → Seed
abbrev forestV (f : Fo) : Value := .agg #[.int .i64 f.d, .int .i64 f.k, .slice f.ba f.bn f.bc, .slice f.sa f.sn f.sc]
structure Fo.ok (w : World) (f : Fo) : Prop where
  fd : FitI f.d
  fk : FitI f.k
  bias : IsI w f.ba f.bn f.bc f.bz
  seeds : IsSd w f.sa f.sn f.sc f.ss
theorem Fo.ok.jk {w w' : World} {f : Fo} (h : f.ok w) (hj : Jk w w') : f.ok w' := ⟨h.fd, h.fk, h.bias.jk hj, h.seeds.jk hj⟩
/-- a model of the call's own: right; three features, four trees at most -/
def GotM (w : World) (e : Ending) (w' : World) : Prop :=
  ∃ m : Md, e = .returned (modelV m) ∧ RightM m ∧ m.d ≤ 3 ∧ m.n ≤ 4 ∧ FRow w.heap.size w' (.slice m.a m.n m.c) m.n m.ts ∧ Jk w w'
theorem fit_small {n : Int} (h1 : -4294967296 ≤ n) (h2 : n ≤ 4294967296) : FitI n := ⟨by omega, by omega⟩
theorem FRow.mdok {B : Nat} {w : World} {m : Md} (h : FRow B w (.slice m.a m.n m.c) m.n m.ts) (h1 : FitI m.d) (h2 : FitI m.k) (h3 : FitI m.b0) (h4 : FitI m.b1) (h5 : FitI m.b2) : m.ok w := ⟨h1, h2, h3, h4, h5, h.own.isT h.ok⟩
theorem RightM.mdok {B : Nat} {w : World} {m : Md} (hr : RightM m) (h : FRow B w (.slice m.a m.n m.c) m.n m.ts) : m.ok w := by
  obtain ⟨⟨f0, f1, f2⟩, _⟩ := hr.bias
  simp [fit32] at f0 f1 f2
  have := hr.d1; have := hr.d4; have := hr.k1; have := hr.k3
  exact h.mdok ⟨by omega, by omega⟩ ⟨by omega, by omega⟩ ⟨by omega, by omega⟩ ⟨by omega, by omega⟩ ⟨by omega, by omega⟩
/-- the biases of the first j classes are set -/
def BiasTo (j : Nat) (b0 b1 b2 : Int) : Prop := (-500 ≤ b0 ∧ b0 ≤ 500) ∧ (-500 ≤ b1 ∧ b1 ≤ 500) ∧ (-500 ≤ b2 ∧ b2 ≤ 500) ∧ (j ≤ 0 → b0 = 0) ∧ (j ≤ 1 → b1 = 0) ∧ (j ≤ 2 → b2 = 0)
theorem BiasTo.right {K : Nat} {b0 b1 b2 : Int} (h : BiasTo K b0 b1 b2) : BiasP K b0 b1 b2 := by
  obtain ⟨h1, h2, h3, h4, h5, h6⟩ := h
  refine ⟨⟨?_, ?_, ?_⟩, fun h => h4 (by omega), fun h => h5 (by omega), fun h => h6 (by omega)⟩ <;> simp [fit32] <;> omega

end Go.Proofs.YtkkbeobocbgmeaaGreat

namespace Go.Proofs.YtkkbeobocbgmeaaGreat
open Go.RowKit M

theorem new_tree (w : World) (x : Int) (s : Option Addr) (n c : Nat) (ws : List Int) {b : Nat} (hb : b = w.heap.size) : AtT (w.alloc (.cells #[.int .i64 x, .slice s n c] 60)) b 0 [⟨x, s, n, c, ws⟩] := fun i hi => by
  simp at hi
  subst hi
  exact ⟨new_cells w #[.int .i64 x, .slice s n c] _ _ hb 0 _ rfl, new_cells w #[.int .i64 x, .slice s n c] _ _ hb 1 _ rfl⟩

end Go.Proofs.YtkkbeobocbgmeaaGreat
