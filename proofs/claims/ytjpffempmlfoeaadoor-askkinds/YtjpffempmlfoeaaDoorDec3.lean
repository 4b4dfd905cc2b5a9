/- What Print of package dec answers, for every int: the number's text; nothing that was there is written. It reads one table of the library's: that the table holds what its text lays is the statement's own condition ('Tab').
   What read and Scan of package dec answer, for every text shorter than the library's own bound: the number that the text is read as; that number and true if it prints as the text, 0 and false if not. Nothing that was there is written.
   The law DecRuns of chapter 3 (its runs) answers true; nothing that was there is written. Conditions: what the statement itself says of the library's variables ('Tab', 'Mx'). -/
import Derived.Test.YtjpffempmlfoeaaDoorDec1
import Derived.Test.YtjpffempmlfoeaaDoorShelf
import Derived.Lib.AppendIntMem
import Derived.Laws.IdiomStrings
import Derived.Lib.CutLaws
namespace Go.Proofs.YtjpffempmlfoeaaDoor
open Go.RowKit M

/-- the library's table of powers of ten holds what its text lays -/
def Tab (w : World) : Prop := Lib.TabIs Tryd.prog w "internal/strconv.uint64pow10" .u64 Lib.pow10Tab
theorem Tab.on {w w' : World} (h : Tab w) (hb : Below w.heap.size w w') : Tab w' := Lib.tabBelow_of_tabIs h w' hb

theorem appendU_any (B u : Nat) (hu : u < 18446744073709551616) (v : Value) (xs : Txt) (w : World) (hown : OwnB B w v xs) (hB : B ≤ w.heap.size) (hl : xs.length ≤ 100) (ht : Tab w) :
    Calls Tryd.prog 30 #[v, .int .u64 (u : Int), .int .i64 10] w fun e w' => ∃ v', e = .returned v' ∧ OwnB B w' v' (xs ++ Lib.decDigits u) ∧ Below B w w' := by
  have hc := Tryd.internal_strconv_AppendUint_10 B xs.length u hu v (Lib.byteCells xs) w hown hB (by omega) ht
  go_enter Tryd.func30, Tryd.ntmps30
  go_wp2_with (go_at_call 39; refine hc.mono ?_; rintro e w' ⟨v', rfl, h1, h2, _⟩)
  go_ret
  refine ⟨v', rfl, ?_, h2⟩
  unfold OwnB
  rw [List.length_append, Lib.byteCells_append]
  exact h1

/-- a row of bytes read as a text -/
theorem OwnB.text {B : Nat} {w : World} {v : Value} {xs : Txt} (h : OwnB B w v xs) (hne : xs ≠ []) : (convert 46 9 v).run Tryd.prog w = .ok (.string ⟨xs.toArray⟩) w := by
  have hp : 0 < xs.length := List.length_pos_iff.2 hne
  obtain ⟨g, cap, rfl, _, hlt⟩ := World.ownsRow.form h hp
  refine run_convert_bytes_back w 46 9 5 ⟨g, 0, none⟩ cap xs Tryd.underlying46 Tryd.underlying5 Tryd.underlying9 fun j hj => ?_
  exact World.ownsRow.cells h (g := g) rfl j _ (by simp [Lib.byteCells, hj])

theorem appendU_at (B N : Nat) (hN : N < 18446744073709551616) (v : Value) (xs : Txt) (w : World) (hown : OwnB B w v xs) (hB : B ≤ w.heap.size) (hl : xs.length ≤ 100) (ht : Tab w) :
    Calls Tryd.prog 30 #[v, .int .u64 ((N : Int) / 256), .int .i64 10] w fun e w' => ∃ v', e = .returned v' ∧ OwnB B w' v' (xs ++ Lib.decDigits (N / 256)) ∧ Below B w w' ∧ B ≤ w'.heap.size := by
  have e : ((N : Int) / 256) = ((N / 256 : Nat) : Int) := by omega
  rw [e]
  refine (appendU_any B (N / 256) (by omega) v xs w hown hB hl ht).mono ?_
  rintro e w' ⟨v', rfl, h1, h2⟩
  exact ⟨v', rfl, h1, h2, Nat.le_trans hB h2.size⟩
theorem ret_text {a b : Txt} (h : a = b) : Ending.returned (.string ⟨a.toArray⟩) = .returned (.string ⟨b.toArray⟩) := by rw [h]

set_option maxRecDepth 100000 in
theorem print_any (n : Int) (w : World) (h1 : -9223372036854775808 ≤ n) (h2 : n ≤ 9223372036854775807) (ht : Tab w) :
    Calls Tryd.prog 17 #[.int .i64 n] w fun e w' => e = .returned (.string ⟨(printL n).toArray⟩) ∧ Below w.heap.size w w' := by
  have hsz := fun w' => size_any n w' h1 h2
  have HT : Hid (∀ w', Below w.heap.size w w' → Tab w') := fun w' hb => ht.on hb
  obtain ⟨N, hN⟩ : ∃ N, n.natAbs = N := ⟨_, rfl⟩
  have hN1 : N < 18446744073709551616 := by omega
  rw [hN] at hsz
  have ea := and255 N hN1
  obtain ⟨p, hp⟩ : ∃ p, N % 256 = p := ⟨_, rfl⟩
  rw [hp] at ea
  have hp1 : p < 256 := by omega
  have HP : Hid (printL n = (if n < 0 then [45] else []) ++ (Lib.decDigits (N / 256) ++ tailD p)) := by
    show _ = _
    unfold printL printU
    rw [hN, hp]
    split <;> rfl
  clear ht hN hp h1 h2
  have HD : Hid (∀ q : Nat, (Lib.decDigits (N / 256)).length ≤ 20) := fun _ => dd_len _ (by omega)
  by_cases hn : n < 0
  · have HP' : Hid (printL n = [45] ++ Lib.decDigits (N / 256) ++ tailD p) := by
      have := HP.out
      rw [if_pos hn] at this
      rw [this, List.append_assoc]
      exact rfl
    clear HP
    by_cases h0 : p = 0
    · subst h0
      go_enter Tryd.func17, Tryd.ntmps17
      go_wp2_with (at_builtin; refine list_byte (B := w.heap.size) rfl _ _ rfl (OwnB.nil _ _) (by simp) rfl w.heap.size 1 _ 45 rfl rfl (heap_alloc_new _ _) (by simp) ?_)
      intro v1 w1 o1 b1 s1
      have B1 : Hid (Below w.heap.size w w1) := ((Below.refl _ w).alloc (Nat.le_refl _) _).trans b1
      have O1 : Hid (OwnB w.heap.size w1 v1 [45]) := o1
      clear o1 b1
      go_wp2_with (first
        | (go_at_call 29; refine (hsz _).mono ?_; rintro e w' ⟨rfl, hw⟩; obtain rfl := hw.symm)
        | (go_at_call 30; refine (appendU_at w.heap.size N hN1 v1 [45] w1 O1.out s1 (by simp) (HT.out _ B1.out)).mono ?_; rintro e w2 ⟨v2, rfl, o2, b2, s2⟩; have hc := o2.text (by simp); have B2 : Hid (Below w.heap.size w w2) := B1.out.trans b2; clear o2 b2))
      go_ret
      exact ⟨ret_text (by rw [HP'.out, tailD]; simp), B2.out⟩
    · go_enter Tryd.func17, Tryd.ntmps17
      go_wp2_with (at_builtin; refine list_byte (B := w.heap.size) rfl _ _ rfl (OwnB.nil _ _) (by simp) rfl w.heap.size 1 _ 45 rfl rfl (heap_alloc_new _ _) (by simp) ?_)
      intro v1 w1 o1 b1 s1
      have B1 : Hid (Below w.heap.size w w1) := ((Below.refl _ w).alloc (Nat.le_refl _) _).trans b1
      have O1 : Hid (OwnB w.heap.size w1 v1 [45]) := o1
      clear o1 b1
      go_wp2_with (first
        | (go_at_call 29; refine (hsz _).mono ?_; rintro e w' ⟨rfl, hw⟩; obtain rfl := hw.symm)
        | (go_at_call 30; refine (appendU_at w.heap.size N hN1 v1 [45] w1 O1.out s1 (by simp) (HT.out _ B1.out)).mono ?_; rintro e w2 ⟨v2, rfl, o2, b2, s2⟩; have O2 : Hid (OwnB w.heap.size w2 v2 ([45] ++ Lib.decDigits (N / 256))) := o2; have B2 : Hid (Below w.heap.size w w2) := B1.out.trans b2; clear o2 b2)
        | (at_builtin; refine list_byte (B := w.heap.size) rfl _ _ rfl (O2.out.alloc _) (by simp; omega) rfl w2.heap.size 1 _ 46 rfl rfl (heap_alloc_new _ _) (by have := HD.out 0; simp; omega) ?_))
      intro v3 w3 o3 b3 s3
      have B3 : Hid (Below w.heap.size w w3) := (B2.out.alloc s2 _).trans b3
      have O3 : Hid (OwnB w.heap.size w3 v3 ([45] ++ Lib.decDigits (N / 256) ++ [46])) := o3
      clear o3 b3
      go_wp2_with (first
        | (go_at_call 31; refine (decimals_any w.heap.size p hp1 v3 _ w3 O3.out s3 (by have := HD.out 0; simp; omega)).mono ?_; rintro e w4 ⟨v4, rfl, o4, b4⟩; have hc := o4.text (by simp); have B4 : Hid (Below w.heap.size w w4) := B3.out.trans b4; clear o4 b4))
      go_ret
      exact ⟨ret_text (by rw [HP'.out, tailD, if_neg h0]; simp), B4.out⟩
  · have HP' : Hid (printL n = Lib.decDigits (N / 256) ++ tailD p) := by
      have := HP.out
      rw [if_neg hn] at this
      rw [this]
      exact rfl
    clear HP
    by_cases h0 : p = 0
    · subst h0
      go_enter Tryd.func17, Tryd.ntmps17
      go_wp2_with (first
        | (go_at_call 29; refine (hsz _).mono ?_; rintro e w' ⟨rfl, hw⟩; obtain rfl := hw.symm)
        | (go_at_call 30; refine (appendU_at w.heap.size N hN1 _ [] w (OwnB.nil _ _) (Nat.le_refl _) (by simp) (HT.out _ (Below.refl _ _))).mono ?_; rintro e w2 ⟨v2, rfl, o2, b2, s2⟩; rw [List.nil_append] at o2; have hc := o2.text (dd_ne _); have B2 : Hid (Below w.heap.size w w2) := b2; clear o2 b2))
      go_ret
      exact ⟨ret_text (by rw [HP'.out, tailD]; simp), B2.out⟩
    · go_enter Tryd.func17, Tryd.ntmps17
      go_wp2_with (first
        | (go_at_call 29; refine (hsz _).mono ?_; rintro e w' ⟨rfl, hw⟩; obtain rfl := hw.symm)
        | (go_at_call 30; refine (appendU_at w.heap.size N hN1 _ [] w (OwnB.nil _ _) (Nat.le_refl _) (by simp) (HT.out _ (Below.refl _ _))).mono ?_; rintro e w2 ⟨v2, rfl, o2, b2, s2⟩; rw [List.nil_append] at o2; have O2 : Hid (OwnB w.heap.size w2 v2 (Lib.decDigits (N / 256))) := o2; have B2 : Hid (Below w.heap.size w w2) := b2; clear o2 b2)
        | (at_builtin; refine list_byte (B := w.heap.size) rfl _ _ rfl (O2.out.alloc _) (by simp; omega) rfl w2.heap.size 1 _ 46 rfl rfl (heap_alloc_new _ _) (by have := HD.out 0; omega) ?_))
      intro v3 w3 o3 b3 s3
      have B3 : Hid (Below w.heap.size w w3) := (B2.out.alloc s2 _).trans b3
      have O3 : Hid (OwnB w.heap.size w3 v3 (Lib.decDigits (N / 256) ++ [46])) := o3
      clear o3 b3
      go_wp2_with (first
        | (go_at_call 31; refine (decimals_any w.heap.size p hp1 v3 _ w3 O3.out s3 (by have := HD.out 0; simp; omega)).mono ?_; rintro e w4 ⟨v4, rfl, o4, b4⟩; have hc := o4.text (by simp); have B4 : Hid (Below w.heap.size w w4) := B3.out.trans b4; clear o4 b4))
      go_ret
      exact ⟨ret_text (by rw [HP'.out, tailD, if_neg h0]), B4.out⟩

end Go.Proofs.YtjpffempmlfoeaaDoor

namespace Go.Proofs.YtjpffempmlfoeaaDoor
open Go.RowKit M

theorem prefix_minus (l : Txt) : Lib.hasPrefix l [45] = minusB l ∧ Lib.trimPrefix l [45] = unsg l := by
  have h : Lib.hasPrefix l [45] = minusB l := by
    unfold Lib.hasPrefix minusB
    cases l with
    | nil => rfl
    | cons c r =>
      by_cases hc : c = 45
      · subst hc; rfl
      · have h1 : (45 == c) = false := by simpa using fun h => hc h.symm
        have h2 : (some c == some (45 : UInt8)) = false := by simpa using hc
        simp only [List.isPrefixOf, List.head?_cons, h1, h2, Bool.false_and]
  refine ⟨h, ?_⟩
  unfold Lib.trimPrefix unsg
  rw [h]
  rfl
theorem index_point : ∀ (l : Txt), (Lib.index l [46] = -1 ∧ cutA l = l ∧ cutB l = []) ∨ ∃ i : Nat, Lib.index l [46] = (i : Int) ∧ cutA l = l.take i ∧ cutB l = l.drop (i + 1)
  | [] => .inl ⟨rfl, rfl, rfl⟩
  | c :: r => by
    rw [Lib.index]
    by_cases hc : c = 46
    · subst hc
      exact .inr ⟨0, by simp [List.isPrefixOf], by simp [cutA], by simp [cutB]⟩
    · have hp : ([46] : Txt).isPrefixOf (c :: r) = false := by
        simp only [List.isPrefixOf, Bool.and_true]
        simpa using fun h => hc h.symm
      rw [hp]
      rcases index_point r with ⟨h1, h2, h3⟩ | ⟨i, h1, h2, h3⟩
      · exact .inl ⟨by rw [h1]; simp, by simp [cutA, hc, h2], by simp [cutB, hc, h3]⟩
      · refine .inr ⟨i + 1, ?_, by simp [cutA, hc, h2], by simp [cutB, hc, h3]⟩
        rw [h1]
        have : ¬ ((i : Int) = -1) := by omega
        simp [this]
theorem cut_point (l : Txt) : (Lib.cut l [46]).1 = cutA l ∧ (Lib.cut l [46]).2.1 = cutB l := by
  unfold Lib.cut
  rcases index_point l with ⟨h1, h2, h3⟩ | ⟨i, h1, h2, h3⟩
  · rw [h1]
    simp [h2, h3]
  · rw [h1, if_pos (by omega), h2, h3]
    simp

/-- the library's variable MaxLen holds some int -/
def Mx (w : World) : Prop := ∃ m, w.cell? ⟨1, 0, none⟩ = some (.int .i64 m)
theorem Mx.on {w w' : World} (h : Mx w) (hb : Below w.heap.size w w') : Mx w' := by
  obtain ⟨m, hm⟩ := h
  exact ⟨m, (hb.cell (World.block_lt_of_cell? w _ hm)).trans hm⟩

theorem cut_any (l : Txt) (w : World) (hs : l.length < 4294967281) (hm : Mx w) :
    Calls Tryd.prog 38 #[.string ⟨l.toArray⟩, .string ⟨#[46]⟩] w fun e w' => ∃ b, e = .returned (.tuple #[.string ⟨(cutA l).toArray⟩, .string ⟨(cutB l).toArray⟩, .bool b]) ∧ ∃ n, w' = w.drewN n := by
  obtain ⟨m, hm⟩ := hm
  refine (Tryd.strings_Cut ⟨l.toArray⟩ ⟨#[46]⟩ m w hs hm).mono ?_
  rintro e w' ⟨rfl, hn⟩
  have := cut_point l
  exact ⟨_, by rw [← this.1, ← this.2], hn⟩
theorem prefix_any (l : Txt) (w : World) :
    Calls Tryd.prog 60 #[.string ⟨l.toArray⟩, .string ⟨#[45]⟩] w fun e w' => e = .returned (.tuple #[.string ⟨(unsg l).toArray⟩, .bool (minusB l)]) ∧ w' = w := by
  refine (Tryd.strings_CutPrefix ⟨l.toArray⟩ ⟨#[45]⟩ w).mono ?_
  rintro e w' ⟨rfl, rfl⟩
  have := prefix_minus l
  exact ⟨by rw [← this.1, ← this.2], rfl⟩
theorem cutA_len : ∀ l : Txt, (cutA l).length ≤ l.length
  | [] => by simp [cutA]
  | c :: r => by have := cutA_len r; unfold cutA; split <;> simp <;> omega
theorem cutB_len : ∀ l : Txt, (cutB l).length ≤ l.length
  | [] => by simp [cutB]
  | c :: r => by have := cutB_len r; unfold cutB; split <;> simp <;> omega
theorem unsg_len (l : Txt) : (unsg l).length ≤ l.length := by
  unfold unsg; split <;> simp

theorem read_any (l : Txt) (w : World) (hs : l.length < 4294967281) (hm : Mx w) :
    Calls Tryd.prog 53 #[.string ⟨l.toArray⟩] w fun e w' => e = .returned (.int .i64 (readL l)) ∧ ∃ n, w' = w.drewN n := by
  have hp := prefix_any l w
  have hu := unsg_len l
  have hc := cut_any (unsg l) w (by omega) hm
  have hA : ∀ w', Calls Tryd.prog 61 #[.string ⟨(cutA (unsg l)).toArray⟩] w' fun e w'' => e = .returned (.int .u64 (readW (cutA (unsg l)) : Int)) ∧ w'' = w' := fun w' =>
    whole_any ⟨(cutA (unsg l)).toArray⟩ w' (by have := cutA_len (unsg l); show (cutA (unsg l)).length ≤ _; omega)
  have hB : ∀ w', Calls Tryd.prog 62 #[.string ⟨(cutB (unsg l)).toArray⟩] w' fun e w'' => e = .returned (.int .u64 (readP (cutB (unsg l)) : Int)) ∧ w'' = w' := fun w' =>
    part_any ⟨(cutB (unsg l)).toArray⟩ w' (by have := cutB_len (unsg l); show (cutB (unsg l)).length ≤ _; omega)
  have HR : Hid (readL l = wrap64 (if minusB l then -(sizeL l : Int) else (sizeL l : Int)) ∧ sizeL l = (readW (cutA (unsg l)) * 256 + readP (cutB (unsg l))) % 18446744073709551616) := ⟨rfl, rfl⟩
  have hW := readW_lt (cutA (unsg l))
  have hP := readP_lt (cutB (unsg l))
  obtain ⟨V, hV⟩ : ∃ V, readW (cutA (unsg l)) = V := ⟨_, rfl⟩
  obtain ⟨Q, hQ⟩ : ∃ Q, readP (cutB (unsg l)) = Q := ⟨_, rfl⟩
  rw [hV] at HR hA hW
  rw [hQ] at HR hB hP
  obtain ⟨b, hb⟩ : ∃ b, minusB l = b := ⟨_, rfl⟩
  rw [hb] at hp HR
  clear hV hQ hb
  cases b
  all_goals
    go_enter Tryd.func53, Tryd.ntmps53
    go_wp2_with (first
      | (go_at_call 60; refine hp.mono ?_; rintro e w' ⟨rfl, hw⟩; obtain rfl := hw.symm)
      | (go_at_call 38; refine hc.mono ?_; rintro e w' ⟨b, rfl, n, hw⟩; obtain rfl := hw.symm)
      | (go_at_call 61; refine (hA _).mono ?_; rintro e w' ⟨rfl, hw⟩; obtain rfl := hw.symm)
      | (go_at_call 62; refine (hB _).mono ?_; rintro e w' ⟨rfl, hw⟩; obtain rfl := hw.symm))
    go_ret
    refine ⟨ret_int ?_, n, rfl⟩
    rw [HR.out.1, HR.out.2]
    simp only [wrapU]
    simp only [wrap64, Bool.false_eq_true, if_true, if_false]
    omega

theorem below_drewN {B : Nat} {a w : World} (h : Below B a w) (n : Nat) : Below B a (w.drewN n) := ⟨h.os, h.tape, h.output, h.size, h.block⟩
set_option maxRecDepth 100000 in
theorem scan_any (l : Txt) (w : World) (hs : l.length < 4294967281) (hm : Mx w) (ht : Tab w) :
    Calls Tryd.prog 44 #[.string ⟨l.toArray⟩] w fun e w' => e = .returned (.tuple #[.int .i64 (scanN l), .bool (scanB l)]) ∧ Below w.heap.size w w' := by
  have hr := read_any l w hs hm
  have hb := readL_bd l
  have hp : ∀ n, Calls Tryd.prog 17 #[.int .i64 (readL l)] (w.drewN n) fun e w' => e = .returned (.string ⟨(printL (readL l)).toArray⟩) ∧ Below w.heap.size w w' := fun n =>
    (print_any (readL l) (w.drewN n) hb.1 hb.2 (ht.on (below_drewN (Below.refl _ _) n))).mono fun _ _ h => ⟨h.1, (below_drewN (Below.refl _ w) n).trans h.2⟩
  have HS : Hid (scanN l = (if printL (readL l) = l then readL l else 0) ∧ scanB l = decide (printL (readL l) = l)) := ⟨rfl, rfl⟩
  obtain ⟨V, hV⟩ : ∃ V, readL l = V := ⟨_, rfl⟩
  rw [hV] at hr hb hp HS
  clear hV
  by_cases he : printL V = l
  · rw [he] at hp
    go_enter Tryd.func44, Tryd.ntmps44
    go_wp2_with (first
      | (go_at_call 53; refine hr.mono ?_; rintro e w' ⟨rfl, n, hw⟩; obtain rfl := hw.symm)
      | (go_at_call 17; refine (hp _).mono ?_; rintro e w2 ⟨rfl, b2⟩))
    go_ret2
    refine ⟨ret_two ?_ ?_, b2⟩
    · rw [HS.out.1, if_pos he]
    · rw [HS.out.2, he]; simp
  · have he' : (printL V == l) = false := by simpa using he
    go_enter Tryd.func44, Tryd.ntmps44
    go_wp2_with (first
      | (go_at_call 53; refine hr.mono ?_; rintro e w' ⟨rfl, n, hw⟩; obtain rfl := hw.symm)
      | (go_at_call 17; refine (hp _).mono ?_; rintro e w2 ⟨rfl, b2⟩))
    go_ret2
    refine ⟨ret_two ?_ ?_, b2⟩
    · rw [HS.out.1, if_neg he]
    · rw [HS.out.2]; simp [he]

end Go.Proofs.YtjpffempmlfoeaaDoor

namespace Go.Proofs.YtjpffempmlfoeaaDoor
open Go.RowKit M

/-- what the library's variables hold -/
def Env (w : World) : Prop := Tab w ∧ Mx w
theorem Env.on {w w' : World} (h : Env w) (hb : Below w.heap.size w w') : Env w' := ⟨h.1.on hb, h.2.on hb⟩

/-- Print and Scan anywhere behind a world w -/
theorem print_on {w : World} (hE : Env w) (n : Int) (h1 : -9223372036854775808 ≤ n) (h2 : n ≤ 9223372036854775807) (w1 : World) (hb : Below w.heap.size w w1) :
    Calls Tryd.prog 17 #[.int .i64 n] w1 fun e w' => e = .returned (.string ⟨(printL n).toArray⟩) ∧ Below w.heap.size w w' :=
  (print_any n w1 h1 h2 (hE.on hb).1).mono fun _ _ h => ⟨h.1, below_on hb h.2⟩
theorem scan_on {w : World} (hE : Env w) (l : Txt) (hs : l.length < 4294967281) (w1 : World) (hb : Below w.heap.size w w1) :
    Calls Tryd.prog 44 #[.string ⟨l.toArray⟩] w1 fun e w' => e = .returned (.tuple #[.int .i64 (scanN l), .bool (scanB l)]) ∧ Below w.heap.size w w' :=
  (scan_any l w1 hs (hE.on hb).2 (hE.on hb).1).mono fun _ _ h => ⟨h.1, below_on hb h.2⟩

theorem print_384 : printL 384 = [49, 46, 53] := by
  unfold printL printU
  rw [if_neg (by decide), show (384 : Int).natAbs / 256 = 1 by decide, Lib.decDigits_one (by decide)]
  rfl
theorem print_m1 : printL (-1) = [45, 48, 46, 48, 48, 51, 57, 48, 54, 50, 53] := by
  unfold printL printU
  rw [if_pos (by decide), show (-1 : Int).natAbs / 256 = 0 by decide, Lib.decDigits_one (by decide)]
  rfl
theorem print_m512 : printL (-512) = [45, 50] := by
  unfold printL printU
  rw [if_pos (by decide), show (-512 : Int).natAbs / 256 = 2 by decide, Lib.decDigits_one (by decide)]
  rfl
theorem print_0 : printL 0 = [48] := by
  unfold printL printU
  rw [if_neg (by decide), show (0 : Int).natAbs / 256 = 0 by decide, Lib.decDigits_one (by decide)]
  rfl
theorem print_25 : printL 25 = [48, 46, 48, 57, 55, 54, 53, 54, 50, 53] := by
  unfold printL printU
  rw [if_neg (by decide), show (25 : Int).natAbs / 256 = 0 by decide, Lib.decDigits_one (by decide)]
  rfl
theorem scan_a : scanN [49, 46, 53] = 384 ∧ scanB [49, 46, 53] = true := by
  rw [← print_384]
  exact scan_print 384 (by decide) (by decide)
theorem scan_c : scanB [49, 46, 53, 48] = false := by
  unfold scanB
  rw [show readL [49, 46, 53, 48] = 384 by decide +kernel, print_384]
  rfl
theorem scan_d : scanB [45, 48] = false := by
  unfold scanB
  rw [show readL [45, 48] = 0 by decide +kernel, print_0]
  rfl
theorem scan_e : scanB [48, 46, 49] = false := by
  unfold scanB
  rw [show readL [48, 46, 49] = 25 by decide +kernel, print_25]
  rfl


end Go.Proofs.YtjpffempmlfoeaaDoor
