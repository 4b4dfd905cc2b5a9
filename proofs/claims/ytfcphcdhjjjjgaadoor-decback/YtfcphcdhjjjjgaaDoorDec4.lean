/- What read and Scan of package dec answer, for every text shorter than the library's own bound: the number that the text is read as; that number and true if it prints as the text, 0 and false if not. Nothing that was there is written. -/
import Derived.Test.YtfcphcdhjjjjgaaDoorDec3
import Derived.Lib.CutLaws
namespace Go.Proofs.YtfcphcdhjjjjgaaDoor
open Go.RowKit M

theorem prefix_minus (l : Txt) : Lib.hasPrefix l [45] = minusB l ∧ Lib.trimPrefix l [45] = unsg l := by
  have h : Lib.hasPrefix l [45] = minusB l := by
    unfold Lib.hasPrefix minusB
    cases l with
    | nil => rfl
    | cons c r =>
      by_cases hc : c = 45
      · subst hc; rfl
      · have h1 : (45 == c) = false := by simpa using fun h => hc h.symm
        have h2 : (some c == some (45 : UInt8)) = false := by simpa using hc
        simp only [List.isPrefixOf, List.head?_cons, h1, h2, Bool.false_and]
  refine ⟨h, ?_⟩
  unfold Lib.trimPrefix unsg
  rw [h]
  rfl
theorem index_point : ∀ (l : Txt), (Lib.index l [46] = -1 ∧ cutA l = l ∧ cutB l = []) ∨ ∃ i : Nat, Lib.index l [46] = (i : Int) ∧ cutA l = l.take i ∧ cutB l = l.drop (i + 1)
  | [] => .inl ⟨rfl, rfl, rfl⟩
  | c :: r => by
    rw [Lib.index]
    by_cases hc : c = 46
    · subst hc
      exact .inr ⟨0, by simp [List.isPrefixOf], by simp [cutA], by simp [cutB]⟩
    · have hp : ([46] : Txt).isPrefixOf (c :: r) = false := by
        simp only [List.isPrefixOf, Bool.and_true]
        simpa using fun h => hc h.symm
      rw [hp]
      rcases index_point r with ⟨h1, h2, h3⟩ | ⟨i, h1, h2, h3⟩
      · exact .inl ⟨by rw [h1]; simp, by simp [cutA, hc, h2], by simp [cutB, hc, h3]⟩
      · refine .inr ⟨i + 1, ?_, by simp [cutA, hc, h2], by simp [cutB, hc, h3]⟩
        rw [h1]
        have : ¬ ((i : Int) = -1) := by omega
        simp [this]
theorem cut_point (l : Txt) : (Lib.cut l [46]).1 = cutA l ∧ (Lib.cut l [46]).2.1 = cutB l := by
  unfold Lib.cut
  rcases index_point l with ⟨h1, h2, h3⟩ | ⟨i, h1, h2, h3⟩
  · rw [h1]
    simp [h2, h3]
  · rw [h1, if_pos (by omega), h2, h3]
    simp

/-- the library's variable MaxLen holds some int -/
def Mx (w : World) : Prop := ∃ m, w.cell? ⟨1, 0, none⟩ = some (.int .i64 m)
theorem Mx.on {w w' : World} (h : Mx w) (hb : Below w.heap.size w w') : Mx w' := by
  obtain ⟨m, hm⟩ := h
  exact ⟨m, (hb.cell (World.block_lt_of_cell? w _ hm)).trans hm⟩

theorem cut_any (l : Txt) (w : World) (hs : l.length < 4294967281) (hm : Mx w) :
    Calls Tryd.prog 21 #[.string ⟨l.toArray⟩, .string ⟨#[46]⟩] w fun e w' => ∃ b, e = .returned (.tuple #[.string ⟨(cutA l).toArray⟩, .string ⟨(cutB l).toArray⟩, .bool b]) ∧ ∃ n, w' = w.drewN n := by
  obtain ⟨m, hm⟩ := hm
  refine (Tryd.strings_Cut ⟨l.toArray⟩ ⟨#[46]⟩ m w hs hm).mono ?_
  rintro e w' ⟨rfl, hn⟩
  have := cut_point l
  exact ⟨_, by rw [← this.1, ← this.2], hn⟩
theorem prefix_any (l : Txt) (w : World) :
    Calls Tryd.prog 20 #[.string ⟨l.toArray⟩, .string ⟨#[45]⟩] w fun e w' => e = .returned (.tuple #[.string ⟨(unsg l).toArray⟩, .bool (minusB l)]) ∧ w' = w := by
  refine (Tryd.strings_CutPrefix ⟨l.toArray⟩ ⟨#[45]⟩ w).mono ?_
  rintro e w' ⟨rfl, rfl⟩
  have := prefix_minus l
  exact ⟨by rw [← this.1, ← this.2], rfl⟩
theorem cutA_len : ∀ l : Txt, (cutA l).length ≤ l.length
  | [] => by simp [cutA]
  | c :: r => by have := cutA_len r; unfold cutA; split <;> simp <;> omega
theorem cutB_len : ∀ l : Txt, (cutB l).length ≤ l.length
  | [] => by simp [cutB]
  | c :: r => by have := cutB_len r; unfold cutB; split <;> simp <;> omega
theorem unsg_len (l : Txt) : (unsg l).length ≤ l.length := by
  unfold unsg; split <;> simp

theorem read_any (l : Txt) (w : World) (hs : l.length < 4294967281) (hm : Mx w) :
    Calls Tryd.prog 14 #[.string ⟨l.toArray⟩] w fun e w' => e = .returned (.int .i64 (readL l)) ∧ ∃ n, w' = w.drewN n := by
  have hp := prefix_any l w
  have hu := unsg_len l
  have hc := cut_any (unsg l) w (by omega) hm
  have hA : ∀ w', Calls Tryd.prog 22 #[.string ⟨(cutA (unsg l)).toArray⟩] w' fun e w'' => e = .returned (.int .u64 (readW (cutA (unsg l)) : Int)) ∧ w'' = w' := fun w' =>
    whole_any ⟨(cutA (unsg l)).toArray⟩ w' (by have := cutA_len (unsg l); show (cutA (unsg l)).length ≤ _; omega)
  have hB : ∀ w', Calls Tryd.prog 23 #[.string ⟨(cutB (unsg l)).toArray⟩] w' fun e w'' => e = .returned (.int .u64 (readP (cutB (unsg l)) : Int)) ∧ w'' = w' := fun w' =>
    part_any ⟨(cutB (unsg l)).toArray⟩ w' (by have := cutB_len (unsg l); show (cutB (unsg l)).length ≤ _; omega)
  have HR : Hid (readL l = wrap64 (if minusB l then -(sizeL l : Int) else (sizeL l : Int)) ∧ sizeL l = (readW (cutA (unsg l)) * 256 + readP (cutB (unsg l))) % 18446744073709551616) := ⟨rfl, rfl⟩
  have hW := readW_lt (cutA (unsg l))
  have hP := readP_lt (cutB (unsg l))
  obtain ⟨V, hV⟩ : ∃ V, readW (cutA (unsg l)) = V := ⟨_, rfl⟩
  obtain ⟨Q, hQ⟩ : ∃ Q, readP (cutB (unsg l)) = Q := ⟨_, rfl⟩
  rw [hV] at HR hA hW
  rw [hQ] at HR hB hP
  obtain ⟨b, hb⟩ : ∃ b, minusB l = b := ⟨_, rfl⟩
  rw [hb] at hp HR
  clear hV hQ hb
  cases b
  all_goals
    go_enter Tryd.func14, Tryd.ntmps14
    go_wp2_with (first
      | (go_at_call 20; refine hp.mono ?_; rintro e w' ⟨rfl, hw⟩; obtain rfl := hw.symm)
      | (go_at_call 21; refine hc.mono ?_; rintro e w' ⟨b, rfl, n, hw⟩; obtain rfl := hw.symm)
      | (go_at_call 22; refine (hA _).mono ?_; rintro e w' ⟨rfl, hw⟩; obtain rfl := hw.symm)
      | (go_at_call 23; refine (hB _).mono ?_; rintro e w' ⟨rfl, hw⟩; obtain rfl := hw.symm))
    go_ret
    refine ⟨ret_int ?_, n, rfl⟩
    rw [HR.out.1, HR.out.2]
    simp only [wrapU]
    simp only [wrap64, Bool.false_eq_true, if_true, if_false]
    omega

theorem below_drewN {B : Nat} {a w : World} (h : Below B a w) (n : Nat) : Below B a (w.drewN n) := ⟨h.os, h.tape, h.output, h.size, h.block⟩
set_option maxRecDepth 100000 in
theorem scan_any (l : Txt) (w : World) (hs : l.length < 4294967281) (hm : Mx w) (ht : Tab w) :
    Calls Tryd.prog 8 #[.string ⟨l.toArray⟩] w fun e w' => e = .returned (.tuple #[.int .i64 (scanN l), .bool (scanB l)]) ∧ Below w.heap.size w w' := by
  have hr := read_any l w hs hm
  have hb := readL_bd l
  have hp : ∀ n, Calls Tryd.prog 9 #[.int .i64 (readL l)] (w.drewN n) fun e w' => e = .returned (.string ⟨(printL (readL l)).toArray⟩) ∧ Below w.heap.size w w' := fun n =>
    (print_any (readL l) (w.drewN n) hb.1 hb.2 (ht.on (below_drewN (Below.refl _ _) n))).mono fun _ _ h => ⟨h.1, (below_drewN (Below.refl _ w) n).trans h.2⟩
  have HS : Hid (scanN l = (if printL (readL l) = l then readL l else 0) ∧ scanB l = decide (printL (readL l) = l)) := ⟨rfl, rfl⟩
  obtain ⟨V, hV⟩ : ∃ V, readL l = V := ⟨_, rfl⟩
  rw [hV] at hr hb hp HS
  clear hV
  by_cases he : printL V = l
  · rw [he] at hp
    go_enter Tryd.func8, Tryd.ntmps8
    go_wp2_with (first
      | (go_at_call 14; refine hr.mono ?_; rintro e w' ⟨rfl, n, hw⟩; obtain rfl := hw.symm)
      | (go_at_call 9; refine (hp _).mono ?_; rintro e w2 ⟨rfl, b2⟩))
    go_ret2
    refine ⟨ret_two ?_ ?_, b2⟩
    · rw [HS.out.1, if_pos he]
    · rw [HS.out.2, he]; simp
  · have he' : (printL V == l) = false := by simpa using he
    go_enter Tryd.func8, Tryd.ntmps8
    go_wp2_with (first
      | (go_at_call 14; refine hr.mono ?_; rintro e w' ⟨rfl, n, hw⟩; obtain rfl := hw.symm)
      | (go_at_call 9; refine (hp _).mono ?_; rintro e w2 ⟨rfl, b2⟩))
    go_ret2
    refine ⟨ret_two ?_ ?_, b2⟩
    · rw [HS.out.1, if_neg he]
    · rw [HS.out.2]; simp [he]

end Go.Proofs.YtfcphcdhjjjjgaaDoor
