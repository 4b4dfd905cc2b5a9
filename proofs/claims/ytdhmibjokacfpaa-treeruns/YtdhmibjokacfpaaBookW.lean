/- What the books of memory (copsebook: Same, Roomy, Intact, Clamp) answer over rows of words and of ints; no row of more than 1000. -/
import Derived.Test.YtdhmibjokacfpaaRowsT
import Derived.Laws.CopyOwn
namespace Go.Proofs.Ytdhmibjokacfpaa
open Go.RowKit M

def AtO (k : IntKind) (w : World) (a : Option Addr) (ws : List Int) : Prop := 0 < ws.length → ∃ g o, a = some ⟨g, o, none⟩ ∧ g < w.heap.size ∧ AtK k w g o ws
theorem AtO.jk {k : IntKind} {w w' : World} {a : Option Addr} {ws : List Int} (h : AtO k w a ws) (hj : Jk w w') : AtO k w' a ws := fun h0 => by
  obtain ⟨g, o, h1, h2, h3⟩ := h h0
  exact ⟨g, o, h1, Nat.lt_of_lt_of_le h2 hj.below.size, h3.jk hj h2⟩
theorem lit_atO (k : IntKind) (w : World) (zs : List Int) (e : TypeId) (b : Nat) (hb : b = w.heap.size) : AtO k (w.alloc (.cells (zs.map (Value.int k)).toArray e)) (some ⟨b, 0, none⟩) zs := fun _ =>
  ⟨b, 0, rfl, by rw [World.size_alloc]; omega, fun i hi => new_cells w _ e b hb (0 + i) _ (by simp [wd, hi])⟩
theorem IsW.atO {w : World} {a : Option Addr} {n c : Nat} {ws : List Int} (h : IsW w a n c ws) : AtO .u64 w a ws := fun h0 => h.lies (by rw [← h.len]; exact h0)

theorem same_ints {a1 a2 : Option Addr} {n c1 c2 : Nat} {zs : List Int} {w : World} (hn : zs.length = n) (hl : n ≤ 1000) (h1 : AtO .i64 w a1 zs) (h2 : AtO .i64 w a2 zs) :
    AnsW w 11 #[.slice a1 n c1, .slice a2 n c2] (.bool true) := fun w0 hj => by
  have H1 := hid (h1.jk hj)
  have H2 := hid (h2.jk hj)
  clear h1 h2 hj
  go_enter Try.func11, Try.ntmps11
  go_wp2
  go_loopg [5] n (fun k i wr => ∃ j : Nat, j + k = n ∧ i = .int .i64 (j : Int) ∧ Jk w0 wr)
  case atStart => exact ⟨0, by omega, rfl, Jk.refl _⟩
  case round =>
    obtain ⟨j, hj, rfl, hw⟩ := hrel
    have HW := hid hw
    clear hw
    by_cases hlt : j < n
    · obtain ⟨g1, o1, rfl, hg1, q1⟩ := H1.out (by omega)
      obtain ⟨g2, o2, rfl, hg2, q2⟩ := H2.out (by omega)
      have e1 : wr.cell? ⟨g1, o1 + j, none⟩ = some (.int .i64 (wd zs j)) := (q1.jk HW.out hg1) j (by omega)
      have e2 : wr.cell? ⟨g2, o2 + j, none⟩ = some (.int .i64 (wd zs j)) := (q2.jk HW.out hg2) j (by omega)
      have i0 : (0 : Int) ≤ (j : Int) := by omega
      have i1 : (j : Int) < (n : Int) := by omega
      clear q1 q2
      go_wp2
      go_quiet (fail)
      go_wp2
      go_roundg (gk - 1)
      case measure => omega
      case rel => exact ⟨j + 1, by omega, by go_num, HW.out.drewN _⟩
    · go_wp2
      go_ret
      exact ⟨rfl, HW.out⟩

theorem same_words {a1 a2 : Option Addr} {n c1 c2 : Nat} {zs : List Int} {w : World} (hn : zs.length = n) (hl : n ≤ 1000) (h1 : AtO .u64 w a1 zs) (h2 : AtO .u64 w a2 zs) :
    AnsW w 29 #[.slice a1 n c1, .slice a2 n c2] (.bool true) := fun w0 hj => by
  have H1 := hid (h1.jk hj)
  have H2 := hid (h2.jk hj)
  clear h1 h2 hj
  go_enter Try.func29, Try.ntmps29
  go_wp2
  go_loopg [5] n (fun k i wr => ∃ j : Nat, j + k = n ∧ i = .int .i64 (j : Int) ∧ Jk w0 wr)
  case atStart => exact ⟨0, by omega, rfl, Jk.refl _⟩
  case round =>
    obtain ⟨j, hj, rfl, hw⟩ := hrel
    have HW := hid hw
    clear hw
    by_cases hlt : j < n
    · obtain ⟨g1, o1, rfl, hg1, q1⟩ := H1.out (by omega)
      obtain ⟨g2, o2, rfl, hg2, q2⟩ := H2.out (by omega)
      have e1 : wr.cell? ⟨g1, o1 + j, none⟩ = some (.int .u64 (wd zs j)) := (q1.jk HW.out hg1) j (by omega)
      have e2 : wr.cell? ⟨g2, o2 + j, none⟩ = some (.int .u64 (wd zs j)) := (q2.jk HW.out hg2) j (by omega)
      have i0 : (0 : Int) ≤ (j : Int) := by omega
      have i1 : (j : Int) < (n : Int) := by omega
      clear q1 q2
      go_wp2
      go_quiet (fail)
      go_wp2
      go_roundg (gk - 1)
      case measure => omega
      case rel => exact ⟨j + 1, by omega, by go_num, HW.out.drewN _⟩
    · go_wp2
      go_ret
      exact ⟨rfl, HW.out⟩

/-- the new row while it is filled: the numbers, then j marks -/
def FilledW (H n j : Nat) (zs : List Int) (mk : Int) (w wr : World) : Prop :=
  ∃ cur : Array Value, wr.heap[H]? = some (.cells cur 22 (0, 0)) ∧ cur.size = n + 80 ∧ (∀ i, i < n → cur[i]? = some (.int .u64 (wd zs i))) ∧ (∀ i, n ≤ i → i < n + j → cur[i]? = some (.int .u64 mk)) ∧ Below H w wr

theorem wd_rep (n : Nat) (x : Int) (i : Nat) (h : i < n) : wd (List.replicate n x) i = x := by simp [wd, h]
theorem sizeU : (Try.prog.info? 22).map (·.size) = some 1 := by kernel_rfl
theorem FilledW.step {H n j : Nat} {zs : List Int} {mk : Int} {w wr : World} (h : FilledW H n j zs mk w wr) (hj : j < 80) :
    (∃ v, wr.cell? ⟨H, n + j, none⟩ = some v) ∧ wr.frozen? ⟨H, n + j, none⟩ = false ∧ FilledW H n (j + 1) zs mk w (wr.setCell ⟨H, n + j, none⟩ (.int .u64 mk)) := by
  obtain ⟨cur, hg, hs, h1, h2, hb⟩ := h
  refine ⟨⟨cur[n + j]'(by omega), ?_⟩, frozen_of_row _ _ _ _ _ hg, ?_⟩
  · rw [cell_of_row _ _ _ _ _ _ hg]; exact Array.getElem?_eq_getElem _
  · refine ⟨_, heap_setCell_same _ _ _ _ _ _ hg, by simpa using hs, ?_, ?_, hb.setCell (Nat.le_refl _) _⟩
    · intro i hi
      rw [Array.getElem?_setIfInBounds_ne (by omega)]
      exact h1 i hi
    · intro i hi hi2
      by_cases e : i = n + j
      · subst e
        rw [Array.getElem?_setIfInBounds_self_of_lt (by omega)]
      · rw [Array.getElem?_setIfInBounds_ne (by omega)]
        exact h2 i hi (by omega)

theorem FilledW.done {H n : Nat} {zs : List Int} {mk : Int} {w wr : World} (h : FilledW H n 80 zs mk w wr) (hn : zs.length = n) : AtK .u64 wr H 0 (zs ++ List.replicate 80 mk) ∧ H < wr.heap.size := by
  obtain ⟨cur, hg, hs, h1, h2, hb⟩ := h
  constructor
  · intro i hi
    simp at hi
    rw [cell_of_row _ _ _ _ _ _ hg, Nat.zero_add]
    by_cases hl : i < n
    · rw [h1 i hl, wd_append_left _ _ _ (by omega)]
    · rw [h2 i (by omega) (by omega), wd_append_right _ _ _ (by omega), wd_rep _ _ _ (by omega)]
  · rcases Nat.lt_or_ge H wr.heap.size with hlt | hge
    · exact hlt
    · rw [Array.getElem?_eq_none hge] at hg; cases hg

theorem FilledW.start {H n : Nat} {zs : List Int} {mk : Int} {w wr : World} (hn : zs.length = n) {cur : List Value} (hc : cur.length = n + 80)
    (hg : wr.heap[H]? = some (.cells (splice cur 0 (zs.map (Value.int .u64))).toArray 22 (0, 0))) (hb : Below H w wr) : FilledW H n 0 zs mk w wr := by
  refine ⟨_, hg, ?_, ?_, fun i h1 h2 => by omega, hb⟩
  · rw [List.size_toArray, length_splice _ _ _ (by simp; omega), hc]
  · intro i hi
    have : i < zs.length := by omega
    simp [splice, List.getElem?_append_left, this, wd]

theorem roomy_words (a : Option Addr) (n c : Nat) (mk : Int) (zs : List Int) (w : World) (hn : zs.length = n) (hl : n ≤ 1000) (h1 : AtO .u64 w a zs) :
    Calls Try.prog 17 #[.slice a n c, .int .u64 mk] w fun e w' =>
      e = .returned (.slice (some ⟨w.heap.size, 0, none⟩) (n + 80) (n + 80)) ∧ AtK .u64 w' w.heap.size 0 (zs ++ List.replicate 80 mk) ∧ w.heap.size < w'.heap.size ∧ Below w.heap.size w w' := by
  obtain ⟨i0, hi0, hz0, hz1, hz2⟩ := info_parts infoU
  have hmk : ∀ u : World, (Instr.makeSlice 26 (.int .i64 ((n : Int) + 80)) (.int .i64 ((n : Int) + 80))).run Try.prog u =
      .ok (.slice (some ⟨u.heap.size, 0, none⟩) (n + 80) (n + 80)) (u.alloc (.cells (madeCells #[.int .u64 0] (n + 80)) 22)) := fun u => by
    have h := run_make (P := Try.prog) u 26 22 i0 (.int .u64 0) Try.underlying26 hi0 hz0 .i64 .i64 ((n : Int) + 80) ((n : Int) + 80) (by omega) (Int.le_refl _) (by rw [hz2]; omega) (by omega)
    have e : ((n : Int) + 80).toNat = n + 80 := by omega
    rw [e] at h
    simpa [hz1, Value.cells] using h
  obtain ⟨cur, hcur⟩ : ∃ cur, (madeCells #[Value.int .u64 0] (n + 80)) = List.toArray cur := ⟨_, rfl⟩
  have hcl : cur.length = n + 80 := by
    have := congrArg Array.size hcur
    simpa [madeCells] using this.symm
  simp only [hcur] at hmk
  have hH : Below w.heap.size w (w.alloc (.cells cur.toArray 22)) := (Below.refl _ _).alloc (Nat.le_refl _) _
  obtain ⟨w2, hrun, hF⟩ : ∃ w2, (Builtin.copy_ #[26, 26] 3 #[.slice (some ⟨w.heap.size, 0, none⟩) (n + 80) (n + 80), .slice a n c]).run Try.prog (w.alloc (.cells cur.toArray 22)) = .ok (goInt n) w2 ∧ FilledW w.heap.size n 0 zs mk w w2 := by
    have hS : (w.alloc (.cells cur.toArray 22)).heap[w.heap.size]? = some (.cells cur.toArray 22 (0, 0)) := heap_alloc_new w _
    by_cases h0 : n = 0
    · subst h0
      obtain rfl : zs = [] := List.eq_nil_of_length_eq_zero hn
      refine ⟨_, run_copy_none (P := Try.prog) _ 26 26 3 22 _ _ _ _ _ _ Try.underlying26 sizeU (by simp), ?_⟩
      exact FilledW.start hn hcl (by simpa [splice] using hS) hH
    · obtain ⟨g, o, rfl, hlt, h1⟩ := h1 (by omega)
      have hr := run_copy_row (P := Try.prog) (w.alloc (.cells cur.toArray 22)) 26 26 3 22 w.heap.size 0 (n + 80) (n + 80) ⟨g, o, none⟩ n c cur.toArray 22 (zs.map (Value.int .u64)) Try.underlying26 sizeU hS
        (by rw [List.length_map, hn]; exact (Nat.min_eq_left (by omega)).symm)
        (fun j u hu => by
          rw [add_at]
          have hj : j < zs.length := by
            have := (List.getElem?_eq_some_iff.1 hu).1
            simpa using this
          rw [(h1.jk ((Jk.refl w).alloc _) hlt) j hj]
          simp [hj] at hu
          simp [wd, hj, hu]) (by simp [hn]; omega) (ints_one _ _)
      have el : (zs.map (Value.int .u64)).length = n := by rw [List.length_map, hn]
      refine ⟨_, by rw [hr, el], ?_⟩
      refine FilledW.start hn hcl ?_ (below_setRow hH (Nat.le_refl _) _)
      have := setRow_heap (w.alloc (.cells cur.toArray 22)) w.heap.size _ (List.take 0 cur.toArray.toList ++ (zs.map (Value.int .u64) ++ cur.toArray.toList.drop (0 + (zs.map (Value.int .u64)).length))).toArray 22 _ hS
      simpa [splice, hn] using this
  have HF : Hid (FilledW w.heap.size n 0 zs mk w w2) := hF
  clear hcur h1 hH hF hcl
  go_enter Try.func17, Try.ntmps17
  go_wp2
  go_loopg [6] 80 (fun k i wr => ∃ j : Nat, j + k = 80 ∧ i = .int .i64 ((n + j : Nat) : Int) ∧ FilledW w.heap.size n j zs mk w wr)
  case atStart => exact ⟨0, by omega, rfl, HF.out⟩
  case round =>
    obtain ⟨j, hj, rfl, hF⟩ := hrel
    by_cases hlt : j < 80
    · obtain ⟨⟨v, q1⟩, q2, q3⟩ := hF.step hlt
      have HQ : Hid (FilledW w.heap.size n (j + 1) zs mk w (wr.setCell ⟨w.heap.size, n + j, none⟩ (.int .u64 mk))) := q3
      clear q3 hF HF
      go_wp2
      go_roundg (gk - 1)
      case measure => omega
      case rel => exact ⟨j + 1, by omega, by go_num, HQ.out⟩
    · have e : j = 80 := by omega
      subst e
      have HD : Hid (AtK .u64 wr w.heap.size 0 (zs ++ List.replicate 80 mk) ∧ w.heap.size < wr.heap.size) := hF.done hn
      obtain ⟨_, _, _, _, _, hb⟩ := hF
      have HB : Hid (Below w.heap.size w wr) := hb
      clear hb HF
      go_wp2
      go_ret
      exact ⟨rfl, HD.out.1, HD.out.2, HB.out⟩

theorem intact_words {g1 c1 n c2 : Nat} {a2 : Option Addr} {mk : Int} {zs : List Int} {w0 : World} (hn : zs.length = n) (hl : n ≤ 1000) (hc1 : n + 80 ≤ c1) (hg1 : g1 < w0.heap.size) (h1 : AtK .u64 w0 g1 0 (zs ++ List.replicate 80 mk)) (h2 : AtO .u64 w0 a2 zs) :
    AnsW w0 21 #[.slice (some ⟨g1, 0, none⟩) (n + 80) c1, .slice a2 n c2, .int .u64 mk] (.bool true) := fun w hjk => by
  have hg1' : g1 < w.heap.size := Nat.lt_of_lt_of_le hg1 hjk.below.size
  have h1 := h1.jk hjk hg1
  have h2 := h2.jk hjk
  have H0 : Hid (AtO .u64 w (some ⟨g1, 0, none⟩) zs) := fun _ => ⟨g1, 0, rfl, hg1', h1.left⟩
  have H1 : Hid (∀ j, j < 80 → w.cell? ⟨g1, n + j, none⟩ = some (.int .u64 mk)) := by
    intro j hj
    have := h1 (n + j) (by simp; omega)
    rw [wd_append_right _ _ _ (by omega), wd_rep _ _ _ (by omega), Nat.zero_add] at this
    exact this
  have H2 := hid h2
  clear h1 h2 hjk
  go_enter Try.func21, Try.ntmps21
  go_wp2_with (go_at_call 29; refine (same_words hn hl H0.out H2.out _ (Jk.refl _)).mono ?_; rintro e w' ⟨rfl, hq⟩; have HQ := hid hq; clear hq)
  go_loopg [7] 80 (fun k i wr => ∃ j : Nat, j + k = 80 ∧ i = .int .i64 ((n + j : Nat) : Int) ∧ Jk w wr)
  case atStart => exact ⟨0, by omega, rfl, HQ.out⟩
  case round =>
    obtain ⟨j, hj, rfl, hw⟩ := hrel
    have HW := hid hw
    clear hw
    by_cases hlt : j < 80
    · have e1 : wr.cell? ⟨g1, n + j, none⟩ = some (.int .u64 mk) := (HW.out.below.cell (p := ⟨g1, n + j, none⟩) hg1').trans (H1.out j hlt)
      go_wp2
      go_roundg (gk - 1)
      case measure => omega
      case rel => exact ⟨j + 1, by omega, by go_num, HW.out⟩
    · have e : j = 80 := by omega
      subst e
      go_wp2
      go_ret
      exact ⟨rfl, HW.out⟩

end Go.Proofs.Ytdhmibjokacfpaa
