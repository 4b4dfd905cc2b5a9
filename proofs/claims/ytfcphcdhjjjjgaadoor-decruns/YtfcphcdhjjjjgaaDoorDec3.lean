/- What Print of package dec answers, for every int: the number's text; nothing that was there is written. It reads one table of the library's: that the table holds what its text lays is the statement's own condition ('Tab'). -/
import Derived.Test.YtfcphcdhjjjjgaaDoorDec2
import Derived.Test.YtfcphcdhjjjjgaaDoorShelf
import Derived.Lib.AppendIntMem
import Derived.Laws.IdiomStrings
namespace Go.Proofs.YtfcphcdhjjjjgaaDoor
open Go.RowKit M

/-- the library's table of powers of ten holds what its text lays -/
def Tab (w : World) : Prop := Lib.TabIs Tryd.prog w "internal/strconv.uint64pow10" .u64 Lib.pow10Tab
theorem Tab.on {w w' : World} (h : Tab w) (hb : Below w.heap.size w w') : Tab w' := Lib.tabBelow_of_tabIs h w' hb

theorem appendU_any (B u : Nat) (hu : u < 18446744073709551616) (v : Value) (xs : Txt) (w : World) (hown : OwnB B w v xs) (hB : B ≤ w.heap.size) (hl : xs.length ≤ 100) (ht : Tab w) :
    Calls Tryd.prog 16 #[v, .int .u64 (u : Int), .int .i64 10] w fun e w' => ∃ v', e = .returned v' ∧ OwnB B w' v' (xs ++ Lib.decDigits u) ∧ Below B w w' := by
  have hc := Tryd.internal_strconv_AppendUint_10 B xs.length u hu v (Lib.byteCells xs) w hown hB (by omega) ht
  go_enter Tryd.func16, Tryd.ntmps16
  go_wp2_with (go_at_call 24; refine hc.mono ?_; rintro e w' ⟨v', rfl, h1, h2, _⟩)
  go_ret
  refine ⟨v', rfl, ?_, h2⟩
  unfold OwnB
  rw [List.length_append, Lib.byteCells_append]
  exact h1

/-- a row of bytes read as a text -/
theorem OwnB.text {B : Nat} {w : World} {v : Value} {xs : Txt} (h : OwnB B w v xs) (hne : xs ≠ []) : (convert 27 9 v).run Tryd.prog w = .ok (.string ⟨xs.toArray⟩) w := by
  have hp : 0 < xs.length := List.length_pos_iff.2 hne
  obtain ⟨g, cap, rfl, _, hlt⟩ := World.ownsRow.form h hp
  refine run_convert_bytes_back w 27 9 5 ⟨g, 0, none⟩ cap xs Tryd.underlying27 Tryd.underlying5 Tryd.underlying9 fun j hj => ?_
  exact World.ownsRow.cells h (g := g) rfl j _ (by simp [Lib.byteCells, hj])

theorem appendU_at (B N : Nat) (hN : N < 18446744073709551616) (v : Value) (xs : Txt) (w : World) (hown : OwnB B w v xs) (hB : B ≤ w.heap.size) (hl : xs.length ≤ 100) (ht : Tab w) :
    Calls Tryd.prog 16 #[v, .int .u64 ((N : Int) / 256), .int .i64 10] w fun e w' => ∃ v', e = .returned v' ∧ OwnB B w' v' (xs ++ Lib.decDigits (N / 256)) ∧ Below B w w' ∧ B ≤ w'.heap.size := by
  have e : ((N : Int) / 256) = ((N / 256 : Nat) : Int) := by omega
  rw [e]
  refine (appendU_any B (N / 256) (by omega) v xs w hown hB hl ht).mono ?_
  rintro e w' ⟨v', rfl, h1, h2⟩
  exact ⟨v', rfl, h1, h2, Nat.le_trans hB h2.size⟩
theorem ret_text {a b : Txt} (h : a = b) : Ending.returned (.string ⟨a.toArray⟩) = .returned (.string ⟨b.toArray⟩) := by rw [h]

set_option maxRecDepth 100000 in
theorem print_any (n : Int) (w : World) (h1 : -9223372036854775808 ≤ n) (h2 : n ≤ 9223372036854775807) (ht : Tab w) :
    Calls Tryd.prog 9 #[.int .i64 n] w fun e w' => e = .returned (.string ⟨(printL n).toArray⟩) ∧ Below w.heap.size w w' := by
  have hsz := fun w' => size_any n w' h1 h2
  have HT : Hid (∀ w', Below w.heap.size w w' → Tab w') := fun w' hb => ht.on hb
  obtain ⟨N, hN⟩ : ∃ N, n.natAbs = N := ⟨_, rfl⟩
  have hN1 : N < 18446744073709551616 := by omega
  rw [hN] at hsz
  have ea := and255 N hN1
  obtain ⟨p, hp⟩ : ∃ p, N % 256 = p := ⟨_, rfl⟩
  rw [hp] at ea
  have hp1 : p < 256 := by omega
  have HP : Hid (printL n = (if n < 0 then [45] else []) ++ (Lib.decDigits (N / 256) ++ tailD p)) := by
    show _ = _
    unfold printL printU
    rw [hN, hp]
    split <;> rfl
  clear ht hN hp h1 h2
  have HD : Hid (∀ q : Nat, (Lib.decDigits (N / 256)).length ≤ 20) := fun _ => dd_len _ (by omega)
  by_cases hn : n < 0
  · have HP' : Hid (printL n = [45] ++ Lib.decDigits (N / 256) ++ tailD p) := by
      have := HP.out
      rw [if_pos hn] at this
      rw [this, List.append_assoc]
      exact rfl
    clear HP
    by_cases h0 : p = 0
    · subst h0
      go_enter Tryd.func9, Tryd.ntmps9
      go_wp2_with (at_builtin; refine list_byte (B := w.heap.size) rfl _ _ rfl (OwnB.nil _ _) (by simp) rfl w.heap.size 1 _ 45 rfl rfl (heap_alloc_new _ _) (by simp) ?_)
      intro v1 w1 o1 b1 s1
      have B1 : Hid (Below w.heap.size w w1) := ((Below.refl _ w).alloc (Nat.le_refl _) _).trans b1
      have O1 : Hid (OwnB w.heap.size w1 v1 [45]) := o1
      clear o1 b1
      go_wp2_with (first
        | (go_at_call 15; refine (hsz _).mono ?_; rintro e w' ⟨rfl, hw⟩; obtain rfl := hw.symm)
        | (go_at_call 16; refine (appendU_at w.heap.size N hN1 v1 [45] w1 O1.out s1 (by simp) (HT.out _ B1.out)).mono ?_; rintro e w2 ⟨v2, rfl, o2, b2, s2⟩; have hc := o2.text (by simp); have B2 : Hid (Below w.heap.size w w2) := B1.out.trans b2; clear o2 b2))
      go_ret
      exact ⟨ret_text (by rw [HP'.out, tailD]; simp), B2.out⟩
    · go_enter Tryd.func9, Tryd.ntmps9
      go_wp2_with (at_builtin; refine list_byte (B := w.heap.size) rfl _ _ rfl (OwnB.nil _ _) (by simp) rfl w.heap.size 1 _ 45 rfl rfl (heap_alloc_new _ _) (by simp) ?_)
      intro v1 w1 o1 b1 s1
      have B1 : Hid (Below w.heap.size w w1) := ((Below.refl _ w).alloc (Nat.le_refl _) _).trans b1
      have O1 : Hid (OwnB w.heap.size w1 v1 [45]) := o1
      clear o1 b1
      go_wp2_with (first
        | (go_at_call 15; refine (hsz _).mono ?_; rintro e w' ⟨rfl, hw⟩; obtain rfl := hw.symm)
        | (go_at_call 16; refine (appendU_at w.heap.size N hN1 v1 [45] w1 O1.out s1 (by simp) (HT.out _ B1.out)).mono ?_; rintro e w2 ⟨v2, rfl, o2, b2, s2⟩; have O2 : Hid (OwnB w.heap.size w2 v2 ([45] ++ Lib.decDigits (N / 256))) := o2; have B2 : Hid (Below w.heap.size w w2) := B1.out.trans b2; clear o2 b2)
        | (at_builtin; refine list_byte (B := w.heap.size) rfl _ _ rfl (O2.out.alloc _) (by simp; omega) rfl w2.heap.size 1 _ 46 rfl rfl (heap_alloc_new _ _) (by have := HD.out 0; simp; omega) ?_))
      intro v3 w3 o3 b3 s3
      have B3 : Hid (Below w.heap.size w w3) := (B2.out.alloc s2 _).trans b3
      have O3 : Hid (OwnB w.heap.size w3 v3 ([45] ++ Lib.decDigits (N / 256) ++ [46])) := o3
      clear o3 b3
      go_wp2_with (first
        | (go_at_call 17; refine (decimals_any w.heap.size p hp1 v3 _ w3 O3.out s3 (by have := HD.out 0; simp; omega)).mono ?_; rintro e w4 ⟨v4, rfl, o4, b4⟩; have hc := o4.text (by simp); have B4 : Hid (Below w.heap.size w w4) := B3.out.trans b4; clear o4 b4))
      go_ret
      exact ⟨ret_text (by rw [HP'.out, tailD, if_neg h0]; simp), B4.out⟩
  · have HP' : Hid (printL n = Lib.decDigits (N / 256) ++ tailD p) := by
      have := HP.out
      rw [if_neg hn] at this
      rw [this]
      exact rfl
    clear HP
    by_cases h0 : p = 0
    · subst h0
      go_enter Tryd.func9, Tryd.ntmps9
      go_wp2_with (first
        | (go_at_call 15; refine (hsz _).mono ?_; rintro e w' ⟨rfl, hw⟩; obtain rfl := hw.symm)
        | (go_at_call 16; refine (appendU_at w.heap.size N hN1 _ [] w (OwnB.nil _ _) (Nat.le_refl _) (by simp) (HT.out _ (Below.refl _ _))).mono ?_; rintro e w2 ⟨v2, rfl, o2, b2, s2⟩; rw [List.nil_append] at o2; have hc := o2.text (dd_ne _); have B2 : Hid (Below w.heap.size w w2) := b2; clear o2 b2))
      go_ret
      exact ⟨ret_text (by rw [HP'.out, tailD]; simp), B2.out⟩
    · go_enter Tryd.func9, Tryd.ntmps9
      go_wp2_with (first
        | (go_at_call 15; refine (hsz _).mono ?_; rintro e w' ⟨rfl, hw⟩; obtain rfl := hw.symm)
        | (go_at_call 16; refine (appendU_at w.heap.size N hN1 _ [] w (OwnB.nil _ _) (Nat.le_refl _) (by simp) (HT.out _ (Below.refl _ _))).mono ?_; rintro e w2 ⟨v2, rfl, o2, b2, s2⟩; rw [List.nil_append] at o2; have O2 : Hid (OwnB w.heap.size w2 v2 (Lib.decDigits (N / 256))) := o2; have B2 : Hid (Below w.heap.size w w2) := b2; clear o2 b2)
        | (at_builtin; refine list_byte (B := w.heap.size) rfl _ _ rfl (O2.out.alloc _) (by simp; omega) rfl w2.heap.size 1 _ 46 rfl rfl (heap_alloc_new _ _) (by have := HD.out 0; omega) ?_))
      intro v3 w3 o3 b3 s3
      have B3 : Hid (Below w.heap.size w w3) := (B2.out.alloc s2 _).trans b3
      have O3 : Hid (OwnB w.heap.size w3 v3 (Lib.decDigits (N / 256) ++ [46])) := o3
      clear o3 b3
      go_wp2_with (first
        | (go_at_call 17; refine (decimals_any w.heap.size p hp1 v3 _ w3 O3.out s3 (by have := HD.out 0; simp; omega)).mono ?_; rintro e w4 ⟨v4, rfl, o4, b4⟩; have hc := o4.text (by simp); have B4 : Hid (Below w.heap.size w w4) := B3.out.trans b4; clear o4 b4))
      go_ret
      exact ⟨ret_text (by rw [HP'.out, tailD, if_neg h0]), B4.out⟩

end Go.Proofs.YtfcphcdhjjjjgaaDoor
