/- What Add of a Set (package box) answers, over a map that lies in memory: one more of that box, nothing else turned; counts below the greatest int. -/
import Derived.Test.YtdmkaaehpcnpfaaBoxA
import Derived.Maps.OwnOps
import Derived.Maps.Views
import Derived.Maps.OwnSet
import Derived.WalkSpells
namespace Go.Proofs.Ytdmkaaehpcnpfaa
open Go.RowKit Go.Maps M

theorem laidB : laidOutB Try.prog = true := by kernel_rfl
theorem lawBox : Keyed Try.prog 25 := Keyed.of_law (deep_law_laid laidB (m := 4) (by omega) (by decide +kernel) (by kernel_rfl) (by kernel_rfl))
theorem zeroInt (w : World) : (zeroValue 3).run Try.prog w = .ok (.int .i64 0) w := by kernel_rfl
theorem wf_of {a : Int} (h : I64 a) : (Lit.int .i64 a).wf = true := by
  obtain ⟨h1, h2⟩ := h
  simp [Lit.wf, IntKind.min, IntKind.max, IntKind.signed, IntKind.bits]
  omega

theorem cInt : Try.prog.cellsOf 3 = 1 := by kernel_rfl
theorem cSpan : Try.prog.cellsOf 23 = 2 := by kernel_rfl
theorem cBox : Try.prog.cellsOf 25 = 10 := by kernel_rfl
theorem nTypes : ∃ N, Try.prog.types.size + 1 = N + 3 := by
  have h : decide (2 ≤ Try.prog.types.size) = true := by kernel_rfl
  have h2 := of_decide_eq_true h
  exact ⟨Try.prog.types.size - 2, by omega⟩
theorem lits_int (n : Nat) (a : Int) (h : (Lit.int .i64 a).wf = true) : Try.prog.keyLits (n + 1) 3 [.int .i64 a] = some [.int .i64 a] := by
  unfold Program.keyLits
  rw [Try.underlying3]
  simp [h]
theorem lits_span (n : Nat) (a b : Int) (h : (Lit.int .i64 a).wf = true) (h2 : (Lit.int .i64 b).wf = true) : Try.prog.keyLits (n + 2) 23 [.int .i64 a, .int .i64 b] = some [.int .i64 a, .int .i64 b] := by
  unfold Program.keyLits
  rw [Try.underlying23]
  simp [cSpan, cInt, lits_int n a h, lits_int n b h2]

/-- a box as a map's key -/
theorem key_box (x : Bx) (hx : x.ok) : ∃ kl, keyOf Try.prog 25 (boxV x) = some kl := by
  obtain ⟨⟨a1, a2⟩, ⟨b1, b2⟩, ⟨c1, c2⟩, ⟨d1, d2⟩, ⟨e1, e2⟩⟩ := hx
  have a1 := wf_of a1
  have a2 := wf_of a2
  have b1 := wf_of b1
  have b2 := wf_of b2
  have c1 := wf_of c1
  have c2 := wf_of c2
  have d1 := wf_of d1
  have d2 := wf_of d2
  have e1 := wf_of e1
  have e2 := wf_of e2
  have ht : (Try.prog.keyType 25 && (boxV x).formed Try.prog 25) = true := by kernel_rfl
  have hl : Try.prog.keyLits (Try.prog.types.size + 1) 25 (boxV x).cells.toList = some [.int .i64 x.a.lo, .int .i64 x.a.hi, .int .i64 x.b.lo, .int .i64 x.b.hi, .int .i64 x.c.lo, .int .i64 x.c.hi, .int .i64 x.d.lo, .int .i64 x.d.hi, .int .i64 x.e.lo, .int .i64 x.e.hi] := by
    obtain ⟨N, hN⟩ := nTypes
    rw [hN]
    unfold Program.keyLits
    rw [Try.underlying25]
    have l1 := lits_span N x.a.lo x.a.hi a1 a2
    have l2 := lits_span N x.b.lo x.b.hi b1 b2
    have l3 := lits_span N x.c.lo x.c.hi c1 c2
    have l4 := lits_span N x.d.lo x.d.hi d1 d2
    have l5 := lits_span N x.e.lo x.e.hi e1 e2
    have hr : List.range 5 = [0, 1, 2, 3, 4] := rfl
    simp [Value.cells, cBox, cSpan, l1, l2, l3, l4, l5, hr]
  have hk : keyOf Try.prog 25 (boxV x) = (some [.int .i64 x.a.lo, .int .i64 x.a.hi, .int .i64 x.b.lo, .int .i64 x.b.hi, .int .i64 x.c.lo, .int .i64 x.c.hi, .int .i64 x.d.lo, .int .i64 x.d.hi, .int .i64 x.e.lo, .int .i64 x.e.hi]).map fun ls => .string (keyBytes ls) := by
    unfold keyOf
    rw [Try.underlying25]
    simp only [ht, if_true, hl]
  exact ⟨_, hk⟩

/-- the cells of a block that holds a box -/
theorem box_cells {w : World} {g : Nat} {x : Bx} (h : w.heap[g]? = some (boxC x)) : w.cell? ⟨g, 0, none⟩ = some (.int .i64 x.a.lo) ∧ w.cell? ⟨g, 1, none⟩ = some (.int .i64 x.a.hi) ∧ w.cell? ⟨g, 2, none⟩ = some (.int .i64 x.b.lo) ∧ w.cell? ⟨g, 3, none⟩ = some (.int .i64 x.b.hi) ∧
    w.cell? ⟨g, 4, none⟩ = some (.int .i64 x.c.lo) ∧ w.cell? ⟨g, 5, none⟩ = some (.int .i64 x.c.hi) ∧ w.cell? ⟨g, 6, none⟩ = some (.int .i64 x.d.lo) ∧ w.cell? ⟨g, 7, none⟩ = some (.int .i64 x.d.hi) ∧ w.cell? ⟨g, 8, none⟩ = some (.int .i64 x.e.lo) ∧ w.cell? ⟨g, 9, none⟩ = some (.int .i64 x.e.hi) := by
  simp [World.cell?, h]
theorem heap_new (w : World) (o : Obj) : (w.alloc o).heap[w.heap.size]? = some o := (MapKept.heap_alloc w o).1

/-- block b is a map of boxes to ints, of at most n entries, that reads as D -/
def Cnt (w : World) (b n : Nat) (D : DataW Unit) : Prop := w.ownsMap Try.prog 25 (plainElem Try.prog 3) b n D

/-- one block was laid, then blocks and the one map's: what was there before is as it was, but for that map -/
theorem grown_of {w w1 : World} {o : Obj} {b : Nat} (h : (w.alloc o).grownBy w1 (some b)) : w.grownBy w1 (some b) :=
  ⟨h.os, h.tape, h.output, Nat.le_trans (by simp) h.size, fun k hk hne => (h.block k (by simp; omega) hne).trans ((MapKept.heap_alloc w o).2 k hk)⟩
theorem same_lit {d : DataW Unit} {a c : Int} (h : d = .lit (.int .i64 a)) (h2 : d = .lit (.int .i64 c)) : c = a := by
  rw [h] at h2
  simpa using h2.symm

theorem cnt_made (w : World) (b : Nat) (h : w.heap.size = b) : Cnt (w.alloc (.map #[] 0)) b 0 (.map []) := by
  subst h
  exact World.ownsMap_made _ _ _ _
theorem at_none (kl : Lit) : (DataW.map [] : DataW Unit).atKey kl (.lit (.int .i64 0)) = .lit (.int .i64 0) := rfl
theorem Jk.heap {a w : World} (h : Jk a w) {k : Nat} (hk : k < a.heap.size) : w.heap[k]? = a.heap[k]? := h.below.block k hk
/-- what a map of one's own turned is behind all that was there -/
theorem Jk.grown {a w w1 : World} {b : Nat} (h : Jk a w) (hg : w.grownBy w1 (some b)) (hb : a.heap.size ≤ b) : Jk a w1 :=
  Jk.of_below ⟨hg.os.trans h.below.os, hg.tape.trans h.below.tape, hg.output.trans h.below.output, Nat.le_trans h.below.size hg.size, fun k hk => (hg.block k (Nat.lt_of_lt_of_le hk h.below.size) (fun e => by cases e; omega)).trans (h.below.block k hk)⟩

set_option maxRecDepth 100000 in
set_option maxHeartbeats 800000 in
theorem sadd_any (x : Bx) (kl : Lit) (b n : Nat) (D : DataW Unit) (c : Int) (w : World) (hkey : keyOf Try.prog 25 (boxV x) = some kl) (hown : Cnt w b n D) (hn : n < 1000000) (hat : D.atKey kl (.lit (.int .i64 0)) = .lit (.int .i64 c)) (c1 : -9223372036854775808 ≤ c) (c2 : c < 9223372036854775807) :
    Calls Try.prog 11 #[.map (some b), boxV x] w fun e w' => e = .returned (.int .i64 (c + 1)) ∧ Cnt w' b (n + 1) (D.put kl (.lit (.int .i64 (c + 1)))) ∧ w.grownBy w' (some b) := by
  have HA : Hid (D.atKey kl (.lit (.int .i64 0)) = .lit (.int .i64 c)) := hat
  have HO : Hid (Cnt w b n D) := hown
  have HK : Hid (keyOf Try.prog 25 (boxV x) = some kl) := hkey
  have hm : ∀ w : World, (binOp .eql 30 (.map (some b)) (.map none)).run Try.prog w = .ok (.bool false) w := fun w => run_eql_map_nil w _ _ _ _ Try.underlying30
  have hv : valI (c + 1) = c + 1 := val_yes (by omega) (by omega)
  have hk : okB (c + 1) = true := ok_yes (by omega) (by omega)
  have HW : Hid ((Lit.int .i64 (c + 1)).wf = true) := wf_of ⟨by omega, by omega⟩
  have c2' : c ≤ 9223372036854775807 := by omega
  have hb := hown.lt
  clear hat hown hkey
  go_enter Try.func11, Try.ntmps11
  go_wp2_with (first
    | (at_lookup; refine wpList_lookup_own_int _ rfl _ _ 30 rfl 25 3 .i64 lawBox Try.underlying30 Try.underlying3 (zeroInt _) b (n + 1) _ rfl hown1 _ _ rfl HK.out ?_; intro c3 hat3 hwc3)
    | (at_lookup; refine wpList_lookup_own_int _ rfl _ _ 30 rfl 25 3 .i64 lawBox Try.underlying30 Try.underlying3 (zeroInt _) b n _ rfl (World.ownsMap.alloc HO.out _) _ _ rfl HK.out ?_; intro c2 hat2 hwc2; obtain rfl := same_lit hat2 HA.out; clear hat2 hwc2)
    | (go_at_call 24; refine (add_any _ _ _ c1 c2' (by decide) (by decide)).mono ?_; rintro e w1 ⟨rfl, rfl⟩; simp only [hv, hk])
    | (at_mapUpdate; refine wpList_mapUpdate_own _ rfl _ _ _ 30 rfl 25 3 lawBox Try.underlying30 _ b n _ rfl (World.ownsMap.alloc HO.out _) (by unfold maxLen; omega) _ _ _ rfl rfl HK.out _ [] (plainElem_int Try.underlying3 HW.out) ?_; intro w1 hown1 hgrow1; have hcells := box_cells (x := x) ((hgrow1.block w.heap.size (by simp) (by simp; omega)).trans (heap_new w _))))
  go_ret
  refine ⟨ret_int ?_, hown1, grown_of hgrow1⟩
  exact same_lit (atKey_put_same (HO.out.tidy lawBox).isMap (lawBox.key HK.out) _ _) hat3

end Go.Proofs.Ytdmkaaehpcnpfaa
