/- Rows of words, of ints, of nodes in memory; what 'append' onto a row of the call's own leaves. No conditions on a program but how its types are laid out. -/
import Derived.Test.YtkkbeobocbgmeaaGreatNodeD
import Derived.Test.YtkkbeobocbgmeaaGreatMathT
import Derived.Deep.AppendLies
import Derived.Deep.AppendSrc
import Derived.Deep.RegionLaw
import Derived.Laws.OwnMore
import Derived.Laws.MakeOwn
namespace Go.Proofs.YtkkbeobocbgmeaaGreat
open Go.RowKit M

/-- the call answers v in every world that has grown from w -/
def AnsW (w : World) (f : Nat) (args : Array Value) (v : Value) : Prop := ∀ w1 : World, Jk w w1 → Calls Tryz.prog f args w1 fun e w' => e = .returned v ∧ Jk w1 w'
theorem AnsW.on {w : World} {f : Nat} {args : Array Value} {v : Value} (h : AnsW w f args v) (w1 : World) (hj : Jk w w1) : Calls Tryz.prog f args w1 fun e w' => e = .returned v ∧ Jk w1 w' := h w1 hj
theorem AnsW.junk {w : World} {f : Nat} {args : Array Value} {v : Value} (h : AnsW w f args v) (X : Junk) : Calls Tryz.prog f args (junk w X) fun e w' => e = .returned v ∧ ∃ Y : Junk, w' = junk w Y :=
  (h (Go.Proofs.YtkkbeobocbgmeaaGreat.junk w X) ⟨X, rfl⟩).mono fun _ _ ⟨e, h⟩ => ⟨e, ((Jk.refl w).junk X).trans h⟩
theorem Ans.ansW {f : Nat} {args : Array Value} {v : Value} (h : Ans f args v) (w : World) : AnsW w f args v := fun w1 _ => h w1

/-- from place 'off' of block g on, the words ws, each an int of the kind k -/
def AtK (k : IntKind) (w : World) (g off : Nat) (ws : List Int) : Prop := ∀ i, i < ws.length → w.cell? ⟨g, off + i, none⟩ = some (.int k (wd ws i))
theorem AtK.jk {k : IntKind} {w w' : World} {g off : Nat} {ws : List Int} (h : AtK k w g off ws) (hj : Jk w w') (hg : g < w.heap.size) : AtK k w' g off ws :=
  fun i hi => (hj.below.cell (p := ⟨g, off + i, none⟩) hg).trans (h i hi)
theorem AtK.left {k : IntKind} {w : World} {g off : Nat} {xs ys : List Int} (h : AtK k w g off (xs ++ ys)) : AtK k w g off xs := fun i hi => by
  have := h i (by simp; omega)
  rwa [wd_append_left _ _ _ hi] at this
theorem AtK.take {k : IntKind} {w : World} {g off : Nat} {xs : List Int} (h : AtK k w g off xs) (m : Nat) : AtK k w g off (xs.take m) := fun i hi => by
  simp at hi
  rw [wd_take _ _ _ (by omega)]
  exact h i (by omega)
theorem AtK.drop {k : IntKind} {w : World} {g off : Nat} {xs : List Int} (h : AtK k w g off xs) (m : Nat) : AtK k w g (off + m) (xs.drop m) := fun i hi => by
  simp at hi
  rw [wd_drop, Nat.add_assoc]
  exact h (m + i) (by omega)

/-- a slice of words -/
structure IsW (w : World) (a : Option Addr) (n c : Nat) (ws : List Int) : Prop where
  len : ws.length = n
  cap : n ≤ c
  max : c ≤ maxLen
  bd : ∀ i, i < n → 0 ≤ wd ws i ∧ wd ws i ≤ 18446744073709551615
  lies : 0 < n → ∃ g o, a = some ⟨g, o, none⟩ ∧ g < w.heap.size ∧ AtK .u64 w g o ws
theorem IsW.jk {w w' : World} {a : Option Addr} {n c : Nat} {ws : List Int} (h : IsW w a n c ws) (hj : Jk w w') : IsW w' a n c ws :=
  ⟨h.len, h.cap, h.max, h.bd, fun h0 => by
    obtain ⟨g, o, h1, h2, h3⟩ := h.lies h0
    exact ⟨g, o, h1, Nat.lt_of_lt_of_le h2 hj.below.size, h3.jk hj h2⟩⟩
theorem IsW.take {w : World} {a : Option Addr} {n c : Nat} {ws : List Int} (h : IsW w a n c ws) (m : Nat) (hm : m ≤ n) : IsW w a m c (ws.take m) :=
  ⟨by have := h.len; simp; omega, by have := h.cap; omega, h.max, fun i hi => by rw [wd_take _ _ _ hi]; exact h.bd i (by omega), fun h0 => by
    obtain ⟨g, o, h1, h2, h3⟩ := h.lies (by omega)
    exact ⟨g, o, h1, h2, h3.take m⟩⟩

def cellsN (x : Nd) : List Value := [.bool x.leaf, .int .i64 x.v, .int .i64 x.f, .int .i64 x.a, .int .i64 x.l, .int .i64 x.r]
def flatN : List Nd → List Value
  | [] => []
  | x :: L => cellsN x ++ flatN L
theorem flatN_append (L M : List Nd) : flatN (L ++ M) = flatN L ++ flatN M := by
  induction L with
  | nil => rfl
  | cons x L ih => simp [flatN, ih]
theorem flatN_length (L : List Nd) : (flatN L).length = L.length * 6 := by
  induction L with
  | nil => rfl
  | cons x L ih => simp [flatN, cellsN, ih]; omega
theorem flatN_at (L : List Nd) (i c : Nat) (u : Value) (h : i < L.length) (hu : (cellsN (nA L i))[c]? = some u) : (flatN L)[i * 6 + c]? = some u := by
  induction L generalizing i with
  | nil => simp at h
  | cons x L ih =>
    have hc : c < 6 := by
      have := (List.getElem?_eq_some_iff.1 hu).1
      simpa [cellsN] using this
    cases i with
    | zero =>
      simp only [flatN]
      rw [List.getElem?_append_left (by simp [cellsN]; omega), Nat.zero_mul, Nat.zero_add]
      simpa [nA] using hu
    | succ i =>
      simp only [flatN]
      rw [List.getElem?_append_right (by simp [cellsN]; omega)]
      have e : (i + 1) * 6 + c - (cellsN x).length = i * 6 + c := by simp [cellsN]; omega
      rw [e]
      refine ih i (by simp at h; omega) ?_
      simpa [nA] using hu
theorem flatN_one (L : List Nd) : ∀ u ∈ flatN L, u.oneCell' = true := by
  induction L with
  | nil => simp [flatN]
  | cons x L ih =>
    intro u hu
    simp only [flatN, List.mem_append] at hu
    rcases hu with hu | hu
    · simp [cellsN] at hu
      rcases hu with rfl | rfl | rfl | rfl | rfl | rfl <;> rfl
    · exact ih u hu
theorem flatN_set (L : List Nd) (k : Nat) (x : Nd) (h : k < L.length) : flatN (L.set k x) = (((((((flatN L).set (k * 6) (.bool x.leaf)).set (k * 6 + 1) (.int .i64 x.v)).set (k * 6 + 2) (.int .i64 x.f)).set (k * 6 + 3) (.int .i64 x.a)).set (k * 6 + 4) (.int .i64 x.l)).set (k * 6 + 5) (.int .i64 x.r)) := by
  induction L generalizing k with
  | nil => simp at h
  | cons y L ih =>
    cases k with
    | zero => simp [flatN, cellsN]
    | succ k =>
      have e0 : (k + 1) * 6 = k * 6 + 1 + 1 + 1 + 1 + 1 + 1 := by omega
      simp only [flatN, cellsN, List.set_cons_succ, e0, List.cons_append, List.nil_append]
      rw [ih k (by simp at h; omega)]

/-- a row of the call's own: nodes -/
def OwnN (B : Nat) (w : World) (v : Value) (n : Nat) (L : List Nd) : Prop := L.length = n ∧ w.ownsRow B 77 6 v n (flatN L)
/-- ints of the kind k -/
def OwnK (k : IntKind) (e : TypeId) (B : Nat) (w : World) (v : Value) (n : Nat) (zs : List Int) : Prop := zs.length = n ∧ w.ownsRow B e 1 v n (zs.map (Value.int k))
abbrev OwnI := OwnK .i64 3
abbrev OwnU := OwnK .u64 75

theorem infoI : (Tryz.prog.info? 3).map (fun i => (i.zero, i.size, i.bytes)) = some (some (.int .i64 0), 1, 8) := by kernel_rfl
theorem infoU : (Tryz.prog.info? 75).map (fun i => (i.zero, i.size, i.bytes)) = some (some (.int .u64 0), 1, 8) := by kernel_rfl
theorem infoN : (Tryz.prog.info? 77).map (fun i => (i.zero, i.size, i.bytes)) = some (some (nodeV Nd.nil), 6, 48) := by kernel_rfl

theorem add_at (g o i : Nat) : (⟨g, o, none⟩ : Addr).add i = ⟨g, o + i, none⟩ := by unfold Addr.add; split <;> simp_all
theorem row_below {B : Nat} {e : TypeId} {k : Nat} {v : Value} {n : Nat} {xs : List Value} {w w' : World} (h : w.ownsRow B e k v n xs) (hb : Jk w w') : w'.ownsRow B e k v n xs :=
  h.kept (row := none) ⟨hb.below.os, hb.below.tape, hb.below.output, hb.below.size, fun j hj _ => hb.below.block j hj⟩ (by cases hv : v.ownBlock <;> simp)
theorem OwnN.jk {B : Nat} {w w' : World} {v : Value} {n : Nat} {L : List Nd} (h : OwnN B w v n L) (hj : Jk w w') : OwnN B w' v n L := ⟨h.1, row_below h.2 hj⟩
theorem OwnK.jk {k : IntKind} {e : TypeId} {B : Nat} {w w' : World} {v : Value} {n : Nat} {L : List Int} (h : OwnK k e B w v n L) (hj : Jk w w') : OwnK k e B w' v n L := ⟨h.1, row_below h.2 hj⟩
theorem OwnN.kept {B : Nat} {w w' : World} {v : Value} {n : Nat} {L : List Nd} (h : OwnN B w v n L) {row : Option Nat} (hg : w.grownBy w' row) (hne : v.ownBlock = none ∨ v.ownBlock ≠ row) : OwnN B w' v n L := ⟨h.1, h.2.kept hg hne⟩
theorem OwnK.kept {k : IntKind} {e : TypeId} {B : Nat} {w w' : World} {v : Value} {n : Nat} {L : List Int} (h : OwnK k e B w v n L) {row : Option Nat} (hg : w.grownBy w' row) (hne : v.ownBlock = none ∨ v.ownBlock ≠ row) : OwnK k e B w' v n L := ⟨h.1, h.2.kept hg hne⟩
theorem row_form {B : Nat} {e : TypeId} {k : Nat} {v : Value} {n : Nat} {xs : List Value} {w : World} (h : w.ownsRow B e k v n xs) : ∃ a c, v = .slice a n c ∧ n ≤ c ∧ c ≤ maxLen ∧ (0 < n → ∃ g, a = some ⟨g, 0, none⟩ ∧ B ≤ g ∧ g < w.heap.size) := by
  rcases h.2 with ⟨rfl, rfl⟩ | ⟨g, cap, cur, rfl, hb, hg, h1, h2, _⟩
  · exact ⟨none, 0, rfl, Nat.le_refl _, by unfold maxLen; omega, fun h => by omega⟩
  · exact ⟨_, cap, rfl, h1, h2, fun _ => ⟨g, rfl, hb, (Array.getElem?_eq_some_iff.1 hg).1⟩⟩
theorem OwnK.at {k : IntKind} {e : TypeId} {B : Nat} {w : World} {g c : Nat} {n : Nat} {zs : List Int} (h : OwnK k e B w (.slice (some ⟨g, 0, none⟩) n c) n zs) : AtK k w g 0 zs := fun i hi => by
  have := World.ownsRow.cells h.2 (g := g) rfl i (.int k (wd zs i)) (by simp [wd, hi])
  rwa [add_at] at this
theorem OwnN.at {B : Nat} {w : World} {g c : Nat} {n : Nat} {L : List Nd} (h : OwnN B w (.slice (some ⟨g, 0, none⟩) n c) n L) {i : Nat} (hi : i < n) (j : Nat) (u : Value) (hu : (cellsN (nA L i))[j]? = some u) : w.cell? ⟨g, i * 6 + j, none⟩ = some u := by
  have := World.ownsRow.cells h.2 (g := g) rfl (i * 6 + j) u (flatN_at L i j u (by rw [h.1]; exact hi) hu)
  rwa [add_at, Nat.zero_add] at this
theorem OwnN.cells {B : Nat} {w : World} {g c : Nat} {n : Nat} {L : List Nd} (h : OwnN B w (.slice (some ⟨g, 0, none⟩) n c) n L) {i : Nat} (hi : i < n) :
    w.cell? ⟨g, i * 6, none⟩ = some (.bool (nA L i).leaf) ∧ w.cell? ⟨g, i * 6 + 1, none⟩ = some (.int .i64 (nA L i).v) ∧ w.cell? ⟨g, i * 6 + 2, none⟩ = some (.int .i64 (nA L i).f) ∧ w.cell? ⟨g, i * 6 + 3, none⟩ = some (.int .i64 (nA L i).a) ∧ w.cell? ⟨g, i * 6 + 4, none⟩ = some (.int .i64 (nA L i).l) ∧ w.cell? ⟨g, i * 6 + 5, none⟩ = some (.int .i64 (nA L i).r) :=
  ⟨h.at hi 0 _ rfl, h.at hi 1 _ rfl, h.at hi 2 _ rfl, h.at hi 3 _ rfl, h.at hi 4 _ rfl, h.at hi 5 _ rfl⟩
theorem OwnK.isW {B : Nat} {w : World} {a : Option Addr} {c : Nat} {n : Nat} {zs : List Int} (h : OwnU B w (.slice a n c) n zs) (hb : ∀ i, i < n → 0 ≤ wd zs i ∧ wd zs i ≤ 18446744073709551615) : IsW w a n c zs := by
  obtain ⟨a', c', e, h1, h2, h3⟩ := row_form h.2
  simp only [Value.slice.injEq, true_and] at e
  obtain ⟨rfl, rfl⟩ := e
  refine ⟨h.1, h1, h2, hb, fun h0 => ?_⟩
  obtain ⟨g, rfl, hg1, hg2⟩ := h3 h0
  exact ⟨g, 0, rfl, hg2, h.at⟩
theorem ints_one (k : IntKind) (zs : List Int) : ∀ u ∈ zs.map (Value.int k), u.oneCell' = true := by
  intro u hu
  obtain ⟨z, _, rfl⟩ := List.mem_map.1 hu
  rfl

/-- ONE APPEND of nodes, in a plain region -/
theorem list_appN {ops : Array Oper} {rest : List Oper} {o : Oper} {act : Act} {Q : Exit → Act → World → Prop} {B : Nat} {w : World} {v : Value} {n : Nat} {L : List Nd}
    (hgd : o.guard = none) (s x : Operand) (ho : o.op = .call { callee := .builtin .append, args := #[s, x], argTypes := #[80, 80] })
    (hown : OwnN B w v n L) (hB : B ≤ w.heap.size) (hs : act.eval s = v) (b m c : Nat) (M : List Nd) (hm : M.length = m) (h0 : 0 < m) (hxv : act.eval x = .slice (some ⟨b, 0, none⟩) m c) (hx : ∀ j u, (flatN M)[j]? = some u → w.cell? ⟨b, j, none⟩ = some u) (hl : n + m ≤ 1000)
    (h : ∀ g' c' w', OwnN B w' (.slice (some ⟨g', 0, none⟩) (n + m) c') (n + m) (L ++ M) → w.grownBy w' v.ownBlock → wpList Tryz.prog ops Q rest (act.put o.dst (.slice (some ⟨g', 0, none⟩) (n + m) c')) w') :
    wpList Tryz.prog ops Q (o :: rest) act w := by
  obtain ⟨i0, hi0, hz0, hz1, hz2⟩ := info_parts infoN
  refine wpList_append_lies (P := Tryz.prog) w hgd s x 80 ho B 77 i0 _ 6 48 Tryz.underlying80 hi0 hz0 hz1 hz2 rfl (by omega) v n (flatN L) hs hown.2 ⟨b, 0, none⟩ m c (flatN M) hxv (by rw [flatN_length, hm]) ?_ (flatN_one M) h0 (by unfold maxLen; omega) (by omega) hB _ rfl ?_
  · intro j u hu
    rw [add_at, Nat.zero_add]
    exact hx j u hu
  · intro g c' w' h1 h2 _ _
    exact h g c' w' ⟨by rw [List.length_append, hown.1, hm], by rw [flatN_append]; exact h1⟩ h2

/-- ONE APPEND of ints, in a plain region: there is something behind it -/
theorem list_appI {ops : Array Oper} {rest : List Oper} {o : Oper} {act : Act} {Q : Exit → Act → World → Prop} {B : Nat} {w : World} {v : Value} {n : Nat} {L : List Int}
    (hgd : o.guard = none) (s x : Operand) (ho : o.op = .call { callee := .builtin .append, args := #[s, x], argTypes := #[22, 22] })
    (hown : OwnI B w v n L) (hB : B ≤ w.heap.size) (hs : act.eval s = v) (b off m c : Nat) (M : List Int) (hm : M.length = m) (h0 : 0 < m) (hxv : act.eval x = .slice (some ⟨b, off, none⟩) m c) (hx : AtK .i64 w b off M) (hl : n + m ≤ 1000)
    (h : ∀ g' c' w', OwnI B w' (.slice (some ⟨g', 0, none⟩) (n + m) c') (n + m) (L ++ M) → w.grownBy w' v.ownBlock → wpList Tryz.prog ops Q rest (act.put o.dst (.slice (some ⟨g', 0, none⟩) (n + m) c')) w') :
    wpList Tryz.prog ops Q (o :: rest) act w := by
  obtain ⟨i0, hi0, hz0, hz1, hz2⟩ := info_parts infoI
  refine wpList_append_lies (P := Tryz.prog) w hgd s x 22 ho B 3 i0 _ 1 8 Tryz.underlying22 hi0 hz0 hz1 hz2 rfl (by omega) v n (L.map (Value.int .i64)) hs hown.2 ⟨b, off, none⟩ m c (M.map (Value.int .i64)) hxv (by simp [hm]) ?_ (ints_one _ M) h0 (by unfold maxLen; omega) (by omega) hB _ rfl ?_
  · intro j u hu
    rw [add_at]
    have hj : j < M.length := by
      have := (List.getElem?_eq_some_iff.1 hu).1
      simpa using this
    rw [hx j hj]
    simp [hj] at hu
    simp [wd, hj, hu]
  · intro g c' w' h1 h2 _ _
    exact h g c' w' ⟨by rw [List.length_append, hown.1, hm], by rw [List.map_append]; exact h1⟩ h2
/-- ONE APPEND of words, in a plain region -/
theorem list_appU {ops : Array Oper} {rest : List Oper} {o : Oper} {act : Act} {Q : Exit → Act → World → Prop} {B : Nat} {w : World} {v : Value} {n : Nat} {L : List Int}
    (hgd : o.guard = none) (s x : Operand) (ho : o.op = .call { callee := .builtin .append, args := #[s, x], argTypes := #[57, 57] })
    (hown : OwnU B w v n L) (hB : B ≤ w.heap.size) (hs : act.eval s = v) (b off m c : Nat) (M : List Int) (hm : M.length = m) (h0 : 0 < m) (hxv : act.eval x = .slice (some ⟨b, off, none⟩) m c) (hx : AtK .u64 w b off M) (hl : n + m ≤ 1000)
    (h : ∀ g' c' w', OwnU B w' (.slice (some ⟨g', 0, none⟩) (n + m) c') (n + m) (L ++ M) → w.grownBy w' v.ownBlock → wpList Tryz.prog ops Q rest (act.put o.dst (.slice (some ⟨g', 0, none⟩) (n + m) c')) w') :
    wpList Tryz.prog ops Q (o :: rest) act w := by
  obtain ⟨i0, hi0, hz0, hz1, hz2⟩ := info_parts infoU
  refine wpList_append_lies (P := Tryz.prog) w hgd s x 57 ho B 75 i0 _ 1 8 Tryz.underlying57 hi0 hz0 hz1 hz2 rfl (by omega) v n (L.map (Value.int .u64)) hs hown.2 ⟨b, off, none⟩ m c (M.map (Value.int .u64)) hxv (by simp [hm]) ?_ (ints_one _ M) h0 (by unfold maxLen; omega) (by omega) hB _ rfl ?_
  · intro j u hu
    rw [add_at]
    have hj : j < M.length := by
      have := (List.getElem?_eq_some_iff.1 hu).1
      simpa using this
    rw [hx j hj]
    simp [hj] at hu
    simp [wd, hj, hu]
  · intro g c' w' h1 h2 _ _
    exact h g c' w' ⟨by rw [List.length_append, hown.1, hm], by rw [List.map_append]; exact h1⟩ h2
theorem i64_in {n : Int} (h1 : -9223372036854775808 ≤ n) (h2 : n ≤ 9223372036854775807) : IntKind.i64.wrap n = n := by
  simp [IntKind.wrap, IntKind.signed, IntKind.bits]
  omega

/-- append of ints, whatever comes behind (nothing, too) -/
theorem run_appI {B : Nat} {w : World} {g cap n : Nat} {xs ys : List Int} (ty : TypeId) (hown : OwnI B w (.slice (some ⟨g, 0, none⟩) n cap) n xs) (hB : B ≤ w.heap.size) (a : Option Addr) (m c : Nat) (hm : ys.length = m) (hx : 0 < m → ∃ b o, a = some ⟨b, o, none⟩ ∧ AtK .i64 w b o ys) (hl : n + m ≤ 1000) :
    ∃ g' cap' w', (Builtin.append_ #[22, 22] ty #[.slice (some ⟨g, 0, none⟩) n cap, .slice a m c]).run Tryz.prog w = .ok (.slice (some ⟨g', 0, none⟩) (n + m) cap') w' ∧
      OwnI B w' (.slice (some ⟨g', 0, none⟩) (n + m) cap') (n + m) (xs ++ ys) ∧ w.grownBy w' (some g) ∧ (g' = g ∨ g' = w.heap.size) := by
  obtain ⟨i0, hi0, hz0, hz1, hz2⟩ := info_parts infoI
  by_cases hp : 0 < m
  · obtain ⟨b, o, rfl, hat⟩ := hx hp
    obtain ⟨g', cap', w', hr, h2, h3, h4, _⟩ := run_append_lies (P := Tryz.prog) w 22 ty B 3 i0 _ 1 8 Tryz.underlying22 hi0 hz0 hz1 hz2 rfl (by omega) _ n (xs.map (Value.int .i64)) hown.2 ⟨b, o, none⟩ m c (ys.map (Value.int .i64)) (by simp [hm])
      (fun j u hu => by
        rw [add_at]
        have hj : j < ys.length := by
          have := (List.getElem?_eq_some_iff.1 hu).1
          simpa using this
        rw [hat j hj]
        simp [hj] at hu
        simp [wd, hj, hu]) (ints_one _ _) hp (by unfold maxLen; omega) (by omega) hB w.heap.size rfl
    refine ⟨g', cap', w', hr, ⟨by rw [List.length_append, hown.1, hm], by rw [List.map_append]; exact h2⟩, h3, ?_⟩
    rcases h4 with h4 | h4
    · left; simpa [Value.ownBlock] using h4.symm
    · exact .inr h4
  · have hm0 : m = 0 := by omega
    subst hm0
    obtain rfl : ys = [] := List.eq_nil_of_length_eq_zero hm
    refine ⟨g, cap, w, ?_, by rw [List.append_nil]; exact hown, ⟨rfl, rfl, rfl, Nat.le_refl _, fun _ _ _ => rfl⟩, .inl rfl⟩
    obtain ⟨_, _, e, hc1, hc2, _⟩ := row_form hown.2
    simp only [Value.slice.injEq, true_and] at e
    obtain ⟨_, rfl⟩ := e
    have hsrc : Src Tryz.prog i0.size 22 (.slice a 0 c) 0 [] w := by
      cases a with
      | none => exact Src.ofNil w Tryz.underlying22 c
      | some ad => exact Src.ofSlice w Tryz.underlying22 ad 0 c [] (by simp) (by simp) (by simp)
    have h := run_append_room_src (P := Tryz.prog) w 22 22 ty 3 i0 Tryz.underlying22 hi0 g 0 n cap (.slice a 0 c) 0 [] hsrc (by omega) (by simp) (by simp)
    simpa [World.setCells] using h
/-- the same, at a step of a region that draws its order -/
theorem step_appI {ops : Array Oper} {o : Oper} {act : Act} {K : Act → World → Prop} {Q : Exit → Act → World → Prop} {E : Prop} {B : Nat} {w : World} {g cap n : Nat} {xs ys : List Int}
    (hgd : o.guard = none) (s x : Operand) (ho : o.op = .call { callee := .builtin .append, args := #[s, x], argTypes := #[22, 22] })
    (hown : OwnI B w (.slice (some ⟨g, 0, none⟩) n cap) n xs) (hB : B ≤ w.heap.size) (hs : act.eval s = .slice (some ⟨g, 0, none⟩) n cap) (a : Option Addr) (m c : Nat) (hm : ys.length = m) (hxv : act.eval x = .slice a m c) (hx : 0 < m → ∃ b o, a = some ⟨b, o, none⟩ ∧ AtK .i64 w b o ys) (hl : n + m ≤ 1000) (r : Nat) (hr : n + m = r)
    (h : ∀ g' cap' w', OwnI B w' (.slice (some ⟨g', 0, none⟩) r cap') r (xs ++ ys) → w.grownBy w' (some g) → (g' = g ∨ g' = w.heap.size) → K (act.put o.dst (.slice (some ⟨g', 0, none⟩) r cap')) w') :
    if Region.wanted o (yielded ops act.tmps) = true then Oper.wp Tryz.prog o act w K Q else E := by
  subst hr
  have hw : Region.wanted o (yielded ops act.tmps) = true := by simp [Region.wanted, hgd]
  rw [if_pos hw]
  obtain ⟨g', cap', w', hrun, h2, h3, h4⟩ := run_appI (ys := ys) o.type hown hB a m c hm hx hl
  unfold Oper.wp execOp
  simp only [ho, resolve, invoke, builtin, Sem.run_bind, Sem.run_pure, Result.andThen_ok, List.map_toArray, List.map_cons, List.map_nil, hs, hxv, hrun]
  exact h g' cap' w' h2 h3 h4
theorem new_cells (w : World) (cs : Array Value) (e : TypeId) (b : Nat) (hb : b = w.heap.size) : ∀ j u, cs.toList[j]? = some u → (w.alloc (.cells cs e)).cell? ⟨b, j, none⟩ = some u := by
  subst hb
  intro j u hu
  have := World.news_of_block (heap_alloc_new w (.cells cs e)) j u hu
  rwa [add_at, Nat.zero_add] at this
theorem Jk.grown {a w w' : World} (h : Jk a w) {row : Option Nat} (hg : w.grownBy w' row) (hr : ∀ k, row = some k → a.heap.size ≤ k) : Jk a w' :=
  Jk.of_below (h.below.grown hg h.below.size hr)
theorem OwnN.base {B : Nat} {w : World} {v : Value} {n : Nat} {L : List Nd} (h : OwnN B w v n L) : ∀ k, v.ownBlock = some k → B ≤ k := fun k hk => (World.ownsRow.lt h.2 k hk).1
theorem OwnK.base {k : IntKind} {e : TypeId} {B : Nat} {w : World} {v : Value} {n : Nat} {L : List Int} (h : OwnK k e B w v n L) : ∀ k, v.ownBlock = some k → B ≤ k := fun k hk => (World.ownsRow.lt h.2 k hk).1

end Go.Proofs.YtkkbeobocbgmeaaGreat
