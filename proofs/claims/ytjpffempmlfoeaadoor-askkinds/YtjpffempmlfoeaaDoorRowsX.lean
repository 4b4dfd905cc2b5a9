/- Rows of texts in memory, and rows of bytes of any length; what 'append' onto one of the call's own leaves. No conditions on a program but how its types are laid out. -/
import Derived.Test.YtjpffempmlfoeaaDoorRowsT
import Derived.Test.YtjpffempmlfoeaaDoorDec1
import Derived.Test.YtjpffempmlfoeaaDoorMathX
import Derived.Lib.AppendStr
import Derived.Lib.Join
import Derived.Test.YtjpffempmlfoeaaDoorTreeA
namespace Go.Proofs.YtjpffempmlfoeaaDoor
open Go.RowKit M

/-- a text's value -/
abbrev tx (t : Txt) : Value := .string ⟨t.toArray⟩
def xA (L : List Txt) (i : Nat) : Txt := L.getD i []
theorem xA_of {L : List Txt} {i : Nat} (h : i < L.length) : L[i]? = some (xA L i) := by simp [xA, h]
/-- from place o of block g on, the texts L -/
def AtS (w : World) (g o : Nat) (L : List Txt) : Prop := ∀ i, i < L.length → w.cell? ⟨g, o + i, none⟩ = some (tx (xA L i))
theorem AtS.jk {w w' : World} {g o : Nat} {L : List Txt} (h : AtS w g o L) (hj : Jk w w') (hg : g < w.heap.size) : AtS w' g o L :=
  fun i hi => (hj.below.cell (p := ⟨g, o + i, none⟩) hg).trans (h i hi)
/-- a row of the call's own: texts -/
def OwnS (B : Nat) (w : World) (v : Value) (n : Nat) (L : List Txt) : Prop := L.length = n ∧ w.ownsRow B 9 1 v n (L.map tx)
theorem infoS : (Tryd.prog.info? 9).map (fun i => (i.zero, i.size, i.bytes)) = some (some (.string ⟨#[]⟩), 1, 16) := by kernel_rfl
theorem OwnS.jk {B : Nat} {w w' : World} {v : Value} {n : Nat} {L : List Txt} (h : OwnS B w v n L) (hj : Jk w w') : OwnS B w' v n L := ⟨h.1, row_below h.2 hj⟩
theorem OwnS.base {B : Nat} {w : World} {v : Value} {n : Nat} {L : List Txt} (h : OwnS B w v n L) : ∀ k, v.ownBlock = some k → B ≤ k := fun k hk => (World.ownsRow.lt h.2 k hk).1
theorem OwnS.nil (B : Nat) (w : World) : OwnS B w (.slice none 0 0) 0 [] := ⟨rfl, World.ownsRow_nil _ _ _ _⟩
theorem txs_one (L : List Txt) : ∀ u ∈ L.map tx, u.oneCell' = true := by
  intro u hu
  obtain ⟨z, _, rfl⟩ := List.mem_map.1 hu
  rfl
theorem OwnS.at {B : Nat} {w : World} {g c : Nat} {n : Nat} {L : List Txt} (h : OwnS B w (.slice (some ⟨g, 0, none⟩) n c) n L) : AtS w g 0 L := fun i hi => by
  have := World.ownsRow.cells h.2 (g := g) rfl i (tx (xA L i)) (by simp [xA, hi])
  rwa [add_at] at this
/-- ONE APPEND of texts, in a plain list of operations -/
theorem list_appS {ops : Array Oper} {rest : List Oper} {o : Oper} {act : Act} {Q : Exit → Act → World → Prop} {B : Nat} {w : World} {v : Value} {n : Nat} {L : List Txt}
    (hgd : o.guard = none) (s x : Operand) (ho : o.op = .call { callee := .builtin .append, args := #[s, x], argTypes := #[54, 54] })
    (hown : OwnS B w v n L) (hB : B ≤ w.heap.size) (hs : act.eval s = v) (b off m c : Nat) (M : List Txt) (hm : M.length = m) (h0 : 0 < m) (hxv : act.eval x = .slice (some ⟨b, off, none⟩) m c) (hx : AtS w b off M) (hl : n + m ≤ 1000)
    (h : ∀ g' c' w', OwnS B w' (.slice (some ⟨g', 0, none⟩) (n + m) c') (n + m) (L ++ M) → w.grownBy w' v.ownBlock → wpList Tryd.prog ops Q rest (act.put o.dst (.slice (some ⟨g', 0, none⟩) (n + m) c')) w') :
    wpList Tryd.prog ops Q (o :: rest) act w := by
  obtain ⟨i0, hi0, hz0, hz1, hz2⟩ := info_parts infoS
  refine wpList_append_lies (P := Tryd.prog) w hgd s x 54 ho B 9 i0 _ 1 16 Tryd.underlying54 hi0 hz0 hz1 hz2 rfl (by omega) v n (L.map tx) hs hown.2 ⟨b, off, none⟩ m c (M.map tx) hxv (by simp [hm]) ?_ (txs_one M) h0 (by unfold maxLen; omega) (by omega) hB _ rfl ?_
  · intro j u hu
    rw [add_at]
    have hj : j < M.length := by
      have := (List.getElem?_eq_some_iff.1 hu).1
      simpa using this
    rw [hx j hj]
    simp [hj] at hu
    simp [xA, hj, hu]
  · intro g c' w' h1 h2 _ _
    exact h g c' w' ⟨by rw [List.length_append, hown.1, hm], by rw [List.map_append]; exact h1⟩ h2
/-- blocks of other things than bytes stay -/
def NB (w w' : World) : Prop := ∀ (b : Nat) (cs : Array Value) (e : TypeId) (f : Nat × Nat), w.heap[b]? = some (.cells cs e f) → e ≠ 5 → w'.heap[b]? = some (.cells cs e f)
theorem NB.refl (w : World) : NB w w := fun _ _ _ _ h _ => h
theorem NB.trans {a b c : World} (h : NB a b) (k : NB b c) : NB a c := fun i cs e f hi he => k i cs e f (h i cs e f hi he) he
theorem NB.of_jk {w w' : World} (h : Jk w w') : NB w w' := fun i _ _ _ hi _ => (h.below.block i (Array.getElem?_eq_some_iff.1 hi).1).trans hi
theorem OwnB.nb {B : Nat} {w w' : World} {v : Value} {xs : Txt} (h : OwnB B w v xs) (hg : w.grownBy w' v.ownBlock) : NB w w' := fun b cs e f hb he => by
  refine (hg.block b (Array.getElem?_eq_some_iff.1 hb).1 (fun e2 => ?_)).trans hb
  rcases h.2 with ⟨rfl, _⟩ | ⟨g, cap, cur, rfl, _, hg2, _⟩
  · simp [Value.ownBlock] at e2
  · simp [Value.ownBlock] at e2
    subst e2
    rw [hg2] at hb
    simp at hb
    exact he hb.2.1.symm
theorem strCells_of (t : Txt) : Lib.strCells ⟨t.toArray⟩ = Lib.byteCells t := rfl
theorem text_size (t : Txt) : (⟨t.toArray⟩ : ByteArray).size = t.length := by
  show t.toArray.size = _
  simp
/-- A TEXT APPENDED onto a row of bytes, in a plain list of operations -/
theorem list_text {ops : Array Oper} {rest : List Oper} {o : Oper} {act : Act} {Q : Exit → Act → World → Prop} {B : Nat} {w : World} {v : Value} {xs : Txt}
    (hgd : o.guard = none) (s x : Operand) (ho : o.op = .call { callee := .builtin .append, args := #[s, x], argTypes := #[46, 9] })
    (hown : OwnB B w v xs) (hB : B ≤ w.heap.size) (hs : act.eval s = v) (t : Txt) (hx : act.eval x = tx t) (hl : xs.length + t.length ≤ 1000000)
    (h : ∀ v' w', OwnB B w' v' (xs ++ t) → Below B w w' → B ≤ w'.heap.size → NB w w' → wpList Tryd.prog ops Q rest (act.put o.dst v') w') :
    wpList Tryd.prog ops Q (o :: rest) act w := by
  obtain ⟨i0, hi0, hz0, hz1, hz2⟩ := info_parts infoByte
  refine Lib.wpList_append_own_string (P := Tryd.prog) w hgd s x 46 9 ho B 5 i0 Tryd.underlying46 Tryd.underlying9 hi0 hz0 hz1 hz2 v xs.length _ hs hown ⟨t.toArray⟩ hx (by rw [text_size]; unfold maxLen; omega) (by rw [text_size]; omega) hB ?_
  intro v' w' hown' hgrow _
  have hbel : Below B w w' := (Below.refl B w).grown hgrow hB (fun k hk => (World.ownsRow.lt hown k hk).1)
  refine h v' w' ?_ hbel (Nat.le_trans hB hbel.size) (OwnB.nb hown hgrow)
  unfold OwnB
  rw [List.length_append, Lib.byteCells_append]
  rw [text_size] at hown'
  exact hown'
/-- ONE BYTE APPENDED onto a row of any length -/
theorem list_byteL {ops : Array Oper} {rest : List Oper} {o : Oper} {act : Act} {Q : Exit → Act → World → Prop} {B : Nat} {w : World} {v : Value} {xs : Txt}
    (hgd : o.guard = none) (s x : Operand) (ho : o.op = .call { callee := .builtin .append, args := #[s, x], argTypes := #[46, 46] })
    (hown : OwnB B w v xs) (hB : B ≤ w.heap.size) (hs : act.eval s = v) (b cap : Nat) (X : Int) (c : UInt8) (hX : X = (c.toNat : Int)) (hxv : act.eval x = .slice (some ⟨b, 0, none⟩) 1 cap)
    (hb : w.heap[b]? = some (.cells #[.int .u8 X] 5 (0, 0))) (hl : xs.length ≤ 1000000)
    (h : ∀ v' w', OwnB B w' v' (xs ++ [c]) → Below B w w' → B ≤ w'.heap.size → NB w w' → wpList Tryd.prog ops Q rest (act.put o.dst v') w') :
    wpList Tryd.prog ops Q (o :: rest) act w := by
  subst hX
  obtain ⟨i0, hi0, hz0, hz1, hz2⟩ := info_parts infoByte
  refine wpList_append_own w hgd s x 46 ho B 5 i0 _ 1 1 Tryd.underlying46 hi0 hz0 hz1 hz2 rfl (by omega) v xs.length _ hs hown ⟨b, 0, none⟩ 1 cap [.int .u8 (c.toNat : Int)] hxv rfl
    (World.news_of_block (cs := #[.int .u8 (c.toNat : Int)]) hb) (by simp [Value.oneCell']) (by unfold maxLen; omega) (by omega) hB ?_
  intro v' w' hown' hgrow _
  have hbel : Below B w w' := (Below.refl B w).grown hgrow hB (fun k hk => (World.ownsRow.lt hown k hk).1)
  refine h v' w' ?_ hbel (Nat.le_trans hB hbel.size) (OwnB.nb hown hgrow)
  unfold OwnB
  rw [List.length_append, Lib.byteCells_append]
  exact hown'


theorem AnsW.at {w w1 : World} {f : Nat} {args : Array Value} {v : Value} (h : AnsW w f args v) (hj : Jk w w1) : AnsW w1 f args v := fun w2 h2 => h w2 (hj.trans h2)
theorem AnsP.ansW {f : Nat} {args : Array Value} {v : Value} (h : AnsP f args v) (w : World) : AnsW w f args v := h.ans.ansW w
/-- a text with something at its front -/
theorem first_text (c : UInt8) (r : Txt) : ∃ s : ByteArray, s = ⟨(c :: r).toArray⟩ ∧ s.size = r.length + 1 ∧ (∀ h : 0 < s.size, s[0] = c) ∧ s.extract 1 (r.length + 1) = ⟨r.toArray⟩ := by
  refine ⟨_, rfl, ?_, fun _ => rfl, ?_⟩
  · show (c :: r).length = _
    simp
  · rw [Lib.extract_eq]
    simp

theorem lit_own {B b : Nat} (w : World) (cs : Array Value) (e : TypeId) (size n : Nat) (hb : b = w.heap.size) (hB : B ≤ w.heap.size) (hn : n ≤ 1000) (hs : cs.size = n * size) : (w.alloc (.cells cs e)).ownsRow B e size (.slice (some ⟨b, 0, none⟩) n n) n cs.toList := by
  subst hb
  exact World.ownsRow_lit w cs n hB (by unfold maxLen; omega) hs
end Go.Proofs.YtjpffempmlfoeaaDoor
