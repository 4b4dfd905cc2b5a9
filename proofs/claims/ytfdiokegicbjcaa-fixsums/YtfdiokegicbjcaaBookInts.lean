/- What the books of memory (copsebook: Same, Roomy, Intact, of ints) answer over lists that lie in memory; no list of more than 1000 numbers. -/
import Derived.Test.YtfdiokegicbjcaaIntRows
import Derived.Laws.CopyOwn
namespace Go.Proofs.Ytfdiokegicbjcaa
open Go.RowKit M

theorem same_any (g1 o1 n c1 g2 o2 c2 : Nat) (zs : List Int) (w : World) (hn : zs.length = n) (hl : n ≤ 1000) (h1 : At w g1 o1 zs) (h2 : At w g2 o2 zs) :
    Calls Try.prog 18 #[.slice (some ⟨g1, o1, none⟩) n c1, .slice (some ⟨g2, o2, none⟩) n c2] w fun e w' => e = .returned (.bool true) ∧ ∃ k, w' = w.drewN k := by
  have H1 : Hid (At w g1 o1 zs) := h1
  have H2 : Hid (At w g2 o2 zs) := h2
  clear h1 h2
  go_enter Try.func18, Try.ntmps18
  go_wp2
  go_loopg [5] n (fun k i wr => ∃ j : Nat, j + k = n ∧ i = .int .i64 (j : Int) ∧ ∃ q, wr = w.drewN q)
  case atStart => exact ⟨0, by omega, rfl, 0, rfl⟩
  case round =>
    obtain ⟨j, hj, rfl, q, hw⟩ := hrel
    have HW : Hid (wr = w.drewN q) := hw
    clear hw
    by_cases hlt : j < n
    · have e1 : wr.cell? ⟨g1, o1 + j, none⟩ = some (.int .i64 (nth zs j)) := by rw [HW.out]; exact H1.out j (by omega)
      have e2 : wr.cell? ⟨g2, o2 + j, none⟩ = some (.int .i64 (nth zs j)) := by rw [HW.out]; exact H2.out j (by omega)
      have i0 : (0 : Int) ≤ (j : Int) := by omega
      have i1 : (j : Int) < (n : Int) := by omega
      go_wp2
      go_quiet (fail)
      go_wp2
      go_roundg (gk - 1)
      case measure => omega
      case rel => exact ⟨j + 1, by omega, by go_num, _, by rw [HW.out, World.drewN_drewN]⟩
    · go_wp2
      go_ret
      exact ⟨rfl, q, HW.out⟩

theorem sizeInt : (Try.prog.info? 3).map (·.size) = some 1 := by kernel_rfl

/-- the new row while it is filled: the numbers, then j marks -/
def Filled (H n j : Nat) (zs : List Int) (mk : Int) (w wr : World) : Prop :=
  ∃ cur : Array Value, wr.heap[H]? = some (.cells cur 3 (0, 0)) ∧ cur.size = n + 80 ∧ (∀ i, i < n → cur[i]? = some (.int .i64 (nth zs i))) ∧ (∀ i, n ≤ i → i < n + j → cur[i]? = some (.int .i64 mk)) ∧ Below H w wr

theorem Filled.step {H n j : Nat} {zs : List Int} {mk : Int} {w wr : World} (h : Filled H n j zs mk w wr) (hj : j < 80) :
    (∃ v, wr.cell? ⟨H, n + j, none⟩ = some v) ∧ wr.frozen? ⟨H, n + j, none⟩ = false ∧ Filled H n (j + 1) zs mk w (wr.setCell ⟨H, n + j, none⟩ (.int .i64 mk)) := by
  obtain ⟨cur, hg, hs, h1, h2, hb⟩ := h
  refine ⟨⟨cur[n + j]'(by omega), ?_⟩, frozen_of_row _ _ _ _ _ hg, ?_⟩
  · rw [cell_of_row _ _ _ _ _ _ hg]; exact Array.getElem?_eq_getElem _
  · refine ⟨_, heap_setCell_same _ _ _ _ _ _ hg, by simpa using hs, ?_, ?_, hb.setCell (Nat.le_refl _) _⟩
    · intro i hi
      rw [Array.getElem?_setIfInBounds_ne (by omega)]
      exact h1 i hi
    · intro i hi hi2
      by_cases e : i = n + j
      · subst e
        rw [Array.getElem?_setIfInBounds_self_of_lt (by omega)]
      · rw [Array.getElem?_setIfInBounds_ne (by omega)]
        exact h2 i hi (by omega)

theorem Filled.done {H n : Nat} {zs : List Int} {mk : Int} {w wr : World} (h : Filled H n 80 zs mk w wr) (hn : zs.length = n) : At wr H 0 (zs ++ List.replicate 80 mk) ∧ H < wr.heap.size := by
  obtain ⟨cur, hg, hs, h1, h2, hb⟩ := h
  constructor
  · intro i hi
    simp at hi
    rw [cell_of_row _ _ _ _ _ _ hg, Nat.zero_add]
    by_cases hl : i < n
    · rw [h1 i hl, nth_append_left _ _ _ (by omega)]
    · rw [h2 i (by omega) (by omega), nth_append_right _ _ _ (by omega), nth_replicate _ _ _ (by omega)]
  · rcases Nat.lt_or_ge H wr.heap.size with hlt | hge
    · exact hlt
    · rw [Array.getElem?_eq_none hge] at hg; cases hg

theorem Filled.start {H n : Nat} {zs : List Int} {mk : Int} {w wr : World} (hn : zs.length = n) {cur : List Value} (hc : cur.length = n + 80)
    (hg : wr.heap[H]? = some (.cells (splice cur 0 (zs.map (Value.int .i64))).toArray 3 (0, 0))) (hb : Below H w wr) : Filled H n 0 zs mk w wr := by
  refine ⟨_, hg, ?_, ?_, fun i h1 h2 => by omega, hb⟩
  · rw [List.size_toArray, length_splice _ _ _ (by simp; omega), hc]
  · intro i hi
    have : i < zs.length := by omega
    simp [splice, List.getElem?_append_left, this, nth]

theorem roomy_any (g o n c : Nat) (mk : Int) (zs : List Int) (w : World) (hn : zs.length = n) (hl : n ≤ 1000) (h1 : At w g o zs) :
    Calls Try.prog 14 #[.slice (some ⟨g, o, none⟩) n c, .int .i64 mk] w fun e w' =>
      e = .returned (.slice (some ⟨w.heap.size, 0, none⟩) (n + 80) (n + 80)) ∧ At w' w.heap.size 0 (zs ++ List.replicate 80 mk) ∧ w.heap.size < w'.heap.size ∧ Below w.heap.size w w' := by
  obtain ⟨i0, hi0, hz0, hz1, hz2⟩ := info_parts infoInt
  have hmk : ∀ u : World, (Instr.makeSlice 26 (.int .i64 ((n : Int) + 80)) (.int .i64 ((n : Int) + 80))).run Try.prog u =
      .ok (.slice (some ⟨u.heap.size, 0, none⟩) (n + 80) (n + 80)) (u.alloc (.cells (madeCells #[.int .i64 0] (n + 80)) 3)) := fun u => by
    have h := run_make (P := Try.prog) u 26 3 i0 (.int .i64 0) Try.underlying26 hi0 hz0 .i64 .i64 ((n : Int) + 80) ((n : Int) + 80) (by omega) (Int.le_refl _) (by rw [hz2]; omega) (by omega)
    have e : ((n : Int) + 80).toNat = n + 80 := by omega
    rw [e] at h
    simpa [hz1, Value.cells] using h
  obtain ⟨cur, hcur⟩ : ∃ cur, (madeCells #[Value.int .i64 0] (n + 80)) = List.toArray cur := ⟨_, rfl⟩
  have hcl : cur.length = n + 80 := by
    have := congrArg Array.size hcur
    simpa [madeCells] using this.symm
  simp only [hcur] at hmk
  have hH : Below w.heap.size w (w.alloc (.cells cur.toArray 3)) := (Below.refl _ _).alloc (Nat.le_refl _) _
  obtain ⟨w2, hrun, hF⟩ : ∃ w2, (Builtin.copy_ #[26, 26] 3 #[.slice (some ⟨w.heap.size, 0, none⟩) (n + 80) (n + 80), .slice (some ⟨g, o, none⟩) n c]).run Try.prog (w.alloc (.cells cur.toArray 3)) = .ok (goInt n) w2 ∧ Filled w.heap.size n 0 zs mk w w2 := by
    have hS : (w.alloc (.cells cur.toArray 3)).heap[w.heap.size]? = some (.cells cur.toArray 3 (0, 0)) := heap_alloc_new w _
    by_cases h0 : n = 0
    · subst h0
      obtain rfl : zs = [] := List.eq_nil_of_length_eq_zero hn
      refine ⟨_, run_copy_none (P := Try.prog) _ 26 26 3 3 _ _ _ _ _ _ Try.underlying26 sizeInt (by simp), ?_⟩
      exact Filled.start hn hcl (by simpa [splice] using hS) hH
    · have hlt : g < w.heap.size := block_lt_of_cell (h1 0 (by omega))
      have hr := run_copy_row (P := Try.prog) (w.alloc (.cells cur.toArray 3)) 26 26 3 3 w.heap.size 0 (n + 80) (n + 80) ⟨g, o, none⟩ n c cur.toArray 3 (zs.map (Value.int .i64)) Try.underlying26 sizeInt hS
        (by rw [List.length_map, hn]; exact (Nat.min_eq_left (by omega)).symm)
        (news_at (h1.below hH hlt)) (by simp [hn]; omega) (ints_oneCell _ _)
      have el : (zs.map (Value.int .i64)).length = n := by rw [List.length_map, hn]
      refine ⟨_, by rw [hr, el], ?_⟩
      refine Filled.start hn hcl ?_ (below_setRow hH (Nat.le_refl _) _)
      have := setRow_heap (w.alloc (.cells cur.toArray 3)) w.heap.size _ (List.take 0 cur.toArray.toList ++ (zs.map (Value.int .i64) ++ cur.toArray.toList.drop (0 + (zs.map (Value.int .i64)).length))).toArray 3 _ hS
      simpa [splice, hn] using this
  have HF : Hid (Filled w.heap.size n 0 zs mk w w2) := hF
  clear hcur h1 hH hF hcl
  go_enter Try.func14, Try.ntmps14
  go_wp2
  go_loopg [6] 80 (fun k i wr => ∃ j : Nat, j + k = 80 ∧ i = .int .i64 ((n + j : Nat) : Int) ∧ Filled w.heap.size n j zs mk w wr)
  case atStart => exact ⟨0, by omega, rfl, HF.out⟩
  case round =>
    obtain ⟨j, hj, rfl, hF⟩ := hrel
    by_cases hlt : j < 80
    · obtain ⟨⟨v, q1⟩, q2, q3⟩ := hF.step hlt
      have HQ : Hid (Filled w.heap.size n (j + 1) zs mk w (wr.setCell ⟨w.heap.size, n + j, none⟩ (.int .i64 mk))) := q3
      clear q3 hF HF
      go_wp2
      go_roundg (gk - 1)
      case measure => omega
      case rel => exact ⟨j + 1, by omega, by go_num, HQ.out⟩
    · have e : j = 80 := by omega
      subst e
      have HD : Hid (At wr w.heap.size 0 (zs ++ List.replicate 80 mk) ∧ w.heap.size < wr.heap.size) := hF.done hn
      obtain ⟨_, _, _, _, _, hb⟩ := hF
      have HB : Hid (Below w.heap.size w wr) := hb
      clear hb HF
      go_wp2
      go_ret
      exact ⟨rfl, HD.out.1, HD.out.2, HB.out⟩

theorem intact_any (g1 c1 g2 o2 n c2 : Nat) (mk : Int) (zs : List Int) (w : World) (hn : zs.length = n) (hl : n ≤ 1000) (hc1 : n + 80 ≤ c1) (h1 : At w g1 0 (zs ++ List.replicate 80 mk)) (h2 : At w g2 o2 zs) :
    Calls Try.prog 16 #[.slice (some ⟨g1, 0, none⟩) (n + 80) c1, .slice (some ⟨g2, o2, none⟩) n c2, .int .i64 mk] w fun e w' => e = .returned (.bool true) ∧ ∃ k, w' = w.drewN k := by
  have H0 : Hid (At w g1 0 zs) := h1.left
  have H1 : Hid (∀ j, j < 80 → w.cell? ⟨g1, n + j, none⟩ = some (.int .i64 mk)) := by
    intro j hj
    have := h1 (n + j) (by simp; omega)
    rw [nth_append_right _ _ _ (by omega), nth_replicate _ _ _ (by omega), Nat.zero_add] at this
    exact this
  have H2 : Hid (At w g2 o2 zs) := h2
  clear h1 h2
  go_enter Try.func16, Try.ntmps16
  go_wp2_with (go_at_call 18; refine (same_any _ _ _ _ _ _ _ zs _ hn hl H0.out H2.out).mono ?_; rintro e w' ⟨rfl, q0, rfl⟩)
  go_loopg [7] 80 (fun k i wr => ∃ j : Nat, j + k = 80 ∧ i = .int .i64 ((n + j : Nat) : Int) ∧ ∃ q, wr = w.drewN q)
  case atStart => exact ⟨0, by omega, rfl, q0, rfl⟩
  case round =>
    obtain ⟨j, hj, rfl, q, hw⟩ := hrel
    have HW : Hid (wr = w.drewN q) := hw
    clear hw
    by_cases hlt : j < 80
    · have e1 : wr.cell? ⟨g1, n + j, none⟩ = some (.int .i64 mk) := by rw [HW.out]; exact H1.out j hlt
      go_wp2
      go_roundg (gk - 1)
      case measure => omega
      case rel => exact ⟨j + 1, by omega, by go_num, q, HW.out⟩
    · have e : j = 80 := by omega
      subst e
      go_wp2
      go_ret
      exact ⟨rfl, q, HW.out⟩

end Go.Proofs.Ytfdiokegicbjcaa
