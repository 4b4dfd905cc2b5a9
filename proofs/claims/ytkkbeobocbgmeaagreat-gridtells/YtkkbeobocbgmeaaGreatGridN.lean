/- What copsekeep.Inside answers: a point of a box, by numbers.
   Plain mathematics of the statement GridLess: the cells of a box cut in two, of a box of one point. No program's code is spoken of here.
   Plain mathematics of the statement GridHolds: a query whose region is cut. No program's code is spoken of here. -/
import Derived.Test.YtkkbeobocbgmeaaGreatNodesA
import Derived.Test.YtkkbeobocbgmeaaGreatBoxQ
import Derived.Test.YtkkbeobocbgmeaaGreatHeld
import Derived.Test.YtkkbeobocbgmeaaGreatQueryC
import Derived.Test.YtkkbeobocbgmeaaGreatGridC
import Derived.Test.YtkkbeobocbgmeaaGreatStartQ
namespace Go.Proofs.YtkkbeobocbgmeaaGreat
open Go.RowKit M

def insideI (b : Bx) (zs : List Int) : Int → Int := fun i => withinI (pickI zs i.toNat) (b.at i).lo (max (b.at i).lo (b.at i).hi)
/-- a span's ends are small -/
def SmS (s : Sp) : Prop := -1000000000000 ≤ s.lo ∧ s.lo ≤ 1000000000000 ∧ -1000000000000 ≤ s.hi ∧ s.hi ≤ 1000000000000
def SmB (b : Bx) : Prop := SmS b.a ∧ SmS b.b ∧ SmS b.c ∧ SmS b.d ∧ SmS b.e
theorem SmB.at {b : Bx} (h : SmB b) (k : Int) : SmS (b.at k) := by
  obtain ⟨h0, h1, h2, h3, h4⟩ := h
  unfold Bx.at
  split
  · exact h0
  · split
    · exact h1
    · split
      · exact h2
      · split
        · exact h3
        · exact h4
theorem SmS.ok {s : Sp} (h : SmS s) : s.ok := by
  obtain ⟨h1, h2, h3, h4⟩ := h
  exact ⟨⟨by omega, by omega⟩, by omega, by omega⟩
theorem SmB.ok {b : Bx} (h : SmB b) : b.ok := ⟨h.1.ok, h.2.1.ok, h.2.2.1.ok, h.2.2.2.1.ok, h.2.2.2.2.ok⟩
theorem inside_in {b : Bx} (zs : List Int) {k : Int} (h : (b.at k).lo ≤ (b.at k).hi) : (b.at k).lo ≤ insideI b zs k ∧ insideI b zs k ≤ (b.at k).hi := by
  have := within_bd (pickI zs k.toNat) (b.at k).lo (max (b.at k).lo (b.at k).hi) (by omega)
  unfold insideI
  omega
theorem inside_has {b : Bx} (zs : List Int) (h : Full b) {t : Int} (h1 : b.e.lo ≤ t) (h2 : t ≤ b.e.hi) : HasX b (insideI b zs) t :=
  ⟨inside_in (k := 0) zs h.1, inside_in (k := 1) zs h.2.1, inside_in (k := 2) zs h.2.2.1, inside_in (k := 3) zs h.2.2.2.1, h1, h2⟩

/-- a point's numbers, those ahead of a place -/
def ptN (p : Int → Int) (j : Nat) : Int → Int := fun i => if i < (j : Int) then p i else 0
def PtF (w : World) (h : Nat) (p : Int → Int) : Prop := PtB w h (p 0) (p 1) (p 2) (p 3)
theorem PtF.jk {w w' : World} {h : Nat} {p : Int → Int} (H : PtF w h p) (hj : Jk w w') : PtF w' h p := PtB.jk H hj
theorem PtF.frozen {w : World} {h : Nat} {p : Int → Int} (H : PtF w h p) (q : Nat) : w.frozen? ⟨h, q, none⟩ = false := PtB.frozen H q
theorem PtF.lt {w : World} {h : Nat} {p : Int → Int} (H : PtF w h p) : h < w.heap.size := PtB.lt H
theorem PtF.put {w : World} {h : Nat} {p : Int → Int} {j : Nat} (H : PtF w h (ptN p j)) (hj : j < 4) : PtF (w.setCell ⟨h, j, none⟩ (.int .i64 (p (j : Int)))) h (ptN p (j + 1)) := by
  match j, hj with
  | 0, _ => exact heap_setCell_same _ _ _ _ _ _ H
  | 1, _ => exact heap_setCell_same _ _ _ _ _ _ H
  | 2, _ => exact heap_setCell_same _ _ _ _ _ _ H
  | 3, _ => exact heap_setCell_same _ _ _ _ _ _ H
  | j + 4, hj => omega
theorem PtF.cell {w : World} {h : Nat} {p : Int → Int} (H : PtF w h p) {j : Nat} (hj : j < 4) : w.cell? ⟨h, j, none⟩ = some (.int .i64 (p (j : Int))) := by
  obtain ⟨_, x0, x1, x2, x3⟩ := H.in
  match j, hj with
  | 0, _ => exact x0
  | 1, _ => exact x1
  | 2, _ => exact x2
  | 3, _ => exact x3
  | j + 4, hj => omega
theorem load_Pt {w : World} {h : Nat} {a0 a1 a2 a3 : Int} (H : PtB w h a0 a1 a2 a3) : (loadVar 70 ⟨h, 0, none⟩).run Tryz.prog w = .ok (.agg #[.int .i64 a0, .int .i64 a1, .int .i64 a2, .int .i64 a3]) w := run_loadVar_row w h _ _ _ _ _ H Tryz.underlying70 rfl (by kernel_rfl)



end Go.Proofs.YtkkbeobocbgmeaaGreat

namespace Go.Proofs.YtkkbeobocbgmeaaGreat
open Go.RowKit M

/-- the product: one place's count times the others' -/
theorem cntX_at (K : Int → List Int) {k : Int} (h0 : 0 ≤ k) (h4 : k ≤ 4) : ∃ R : Nat, ∀ K' : Int → List Int, (∀ i, 0 ≤ i → i ≤ 4 → i ≠ k → (K' i).length = (K i).length) → cntX K' = ((K' k).length + 1) * R := by
  have hc : k = 0 ∨ k = 1 ∨ k = 2 ∨ k = 3 ∨ k = 4 := by omega
  rcases hc with rfl | rfl | rfl | rfl | rfl
  · refine ⟨((K 1).length + 1) * (((K 2).length + 1) * (((K 3).length + 1) * ((K 4).length + 1))), fun K' h => ?_⟩
    unfold cntX
    rw [h 1 (by omega) (by omega) (by omega), h 2 (by omega) (by omega) (by omega), h 3 (by omega) (by omega) (by omega), h 4 (by omega) (by omega) (by omega)]
    simp only [Nat.mul_assoc]
  · refine ⟨((K 0).length + 1) * (((K 2).length + 1) * (((K 3).length + 1) * ((K 4).length + 1))), fun K' h => ?_⟩
    unfold cntX
    rw [h 0 (by omega) (by omega) (by omega), h 2 (by omega) (by omega) (by omega), h 3 (by omega) (by omega) (by omega), h 4 (by omega) (by omega) (by omega)]
    simp only [Nat.mul_assoc, Nat.mul_left_comm ((K 0).length + 1)]
  · refine ⟨((K 0).length + 1) * (((K 1).length + 1) * (((K 3).length + 1) * ((K 4).length + 1))), fun K' h => ?_⟩
    unfold cntX
    rw [h 0 (by omega) (by omega) (by omega), h 1 (by omega) (by omega) (by omega), h 3 (by omega) (by omega) (by omega), h 4 (by omega) (by omega) (by omega)]
    generalize (K 0).length + 1 = A
    generalize (K 1).length + 1 = B
    generalize (K 3).length + 1 = D
    generalize (K 4).length + 1 = E
    generalize (K' 2).length + 1 = C
    rw [Nat.mul_assoc, Nat.mul_assoc, Nat.mul_comm (A * B) , Nat.mul_assoc, Nat.mul_comm (D * E), Nat.mul_assoc]
  · refine ⟨((K 0).length + 1) * (((K 1).length + 1) * (((K 2).length + 1) * ((K 4).length + 1))), fun K' h => ?_⟩
    unfold cntX
    rw [h 0 (by omega) (by omega) (by omega), h 1 (by omega) (by omega) (by omega), h 2 (by omega) (by omega) (by omega), h 4 (by omega) (by omega) (by omega)]
    generalize (K 0).length + 1 = A
    generalize (K 1).length + 1 = B
    generalize (K 2).length + 1 = C
    generalize (K 4).length + 1 = E
    generalize (K' 3).length + 1 = D
    rw [Nat.mul_comm (A * B * C) D, Nat.mul_assoc, Nat.mul_assoc, Nat.mul_assoc]
  · refine ⟨((K 0).length + 1) * (((K 1).length + 1) * (((K 2).length + 1) * ((K 3).length + 1))), fun K' h => ?_⟩
    unfold cntX
    rw [h 0 (by omega) (by omega) (by omega), h 1 (by omega) (by omega) (by omega), h 2 (by omega) (by omega) (by omega), h 3 (by omega) (by omega) (by omega)]
    rw [Nat.mul_comm]
    simp only [Nat.mul_assoc]

/-- a box's spans at other places than the one that is written -/
theorem Bx.at_put_ne {b : Bx} {k i : Int} (s : Sp) (h0 : 0 ≤ k) (h4 : k ≤ 4) (hi0 : 0 ≤ i) (hi4 : i ≤ 4) (h : i ≠ k) : (b.put k s).at i = b.at i := by
  have hc : k = 0 ∨ k = 1 ∨ k = 2 ∨ k = 3 ∨ k = 4 := by omega
  have hd : i = 0 ∨ i = 1 ∨ i = 2 ∨ i = 3 ∨ i = 4 := by omega
  rcases hc with rfl | rfl | rfl | rfl | rfl <;> rcases hd with rfl | rfl | rfl | rfl | rfl <;> first | rfl | exact absurd rfl h
theorem Bx.at_put_eq {b : Bx} {k : Int} (s : Sp) (h0 : 0 ≤ k) (h4 : k ≤ 4) : (b.put k s).at k = s := by
  obtain ⟨j, rfl⟩ : ∃ j : Nat, k = (j : Int) := ⟨k.toNat, by omega⟩
  exact Bx.at_put (by omega) s
theorem low_in {s : Sp} {t : Int} (h1 : s.lo ≤ t) (h2 : t ≤ s.hi) : s.low t = ⟨s.lo, t⟩ := by
  unfold Sp.low lLo lHi
  have e : min s.hi t = t := by omega
  rw [e, if_neg (by omega), if_neg (by omega)]
theorem upp_in {s : Sp} {t : Int} (h1 : s.lo ≤ t) (h2 : t < s.hi) : s.upp t = ⟨t + 1, s.hi⟩ := by
  unfold Sp.upp uLo uHi
  have e : max s.lo (t + 1) = t + 1 := by omega
  rw [e, if_neg (by omega), if_neg (by omega)]
theorem upp_out {s : Sp} (h1 : s.lo ≤ s.hi) : s.upp s.hi = ⟨1, 0⟩ := by
  unfold Sp.upp uLo uHi
  have e : max s.lo (s.hi + 1) = s.hi + 1 := by omega
  rw [e, if_pos (by omega), if_pos (by omega)]
theorem full_em {x : Bx} (h : Full x) : x.em = false := by
  obtain ⟨h0, h1, h2, h3, h4⟩ := h
  simp [Bx.em, Sp.em, emB]
  omega
theorem Full.at {x : Bx} (h : Full x) (k : Int) : (x.at k).lo ≤ (x.at k).hi := by
  obtain ⟨h0, h1, h2, h3, h4⟩ := h
  unfold Bx.at
  split
  · exact h0
  · split
    · exact h1
    · split
      · exact h2
      · split
        · exact h3
        · exact h4
theorem em_at {x : Bx} {k : Int} (h : (x.at k).hi < (x.at k).lo) : x.em = true := by
  unfold Bx.at at h
  simp only [Bx.em, Sp.em, emB, Bool.or_eq_true, decide_eq_true_eq]
  split at h
  · exact .inl (.inl (.inl (.inl h)))
  · split at h
    · exact .inl (.inl (.inl (.inr h)))
    · split at h
      · exact .inl (.inl (.inr h))
      · split at h
        · exact .inl (.inr h)
        · exact .inr h
theorem full_put {x : Bx} (h : Full x) {k : Int} {s : Sp} (hs : s.lo ≤ s.hi) (h0 : 0 ≤ k) (h4 : k ≤ 4) : Full (x.put k s) := by
  obtain ⟨a0, a1, a2, a3, a4⟩ := h
  have hc : k = 0 ∨ k = 1 ∨ k = 2 ∨ k = 3 ∨ k = 4 := by omega
  rcases hc with rfl | rfl | rfl | rfl | rfl
  · exact ⟨hs, a1, a2, a3, a4⟩
  · exact ⟨a0, hs, a2, a3, a4⟩
  · exact ⟨a0, a1, hs, a3, a4⟩
  · exact ⟨a0, a1, a2, hs, a4⟩
  · exact ⟨a0, a1, a2, a3, hs⟩
/-- the cells of both parts of a box: each has no more than the whole, and both together no less -/
theorem less_cells (m : Md) (q : Qy) {b : Bx} (hb : Full b) {k t : Int} (h0 : 0 ≤ k) (h4 : k ≤ 4) (h1 : (b.at k).lo ≤ t) (h2 : t ≤ (b.at k).hi) :
    cntX (cutsI m q (b.low k t)) ≤ cntX (cutsI m q b) ∧ (((b.upp k t).em = true ∧ cntX (cutsI m q b) ≤ cntX (cutsI m q (b.low k t))) ∨
      ((b.upp k t).em = false ∧ cntX (cutsI m q (b.upp k t)) ≤ cntX (cutsI m q b) ∧ cntX (cutsI m q b) ≤ cntX (cutsI m q (b.low k t)) + cntX (cutsI m q (b.upp k t)))) := by
  have hl : (b.low k t).at k = ⟨(b.at k).lo, t⟩ := by rw [Bx.low, Bx.at_put_eq _ h0 h4, low_in h1 h2]
  obtain ⟨R, hR⟩ := cntX_at (cutsI m q b) h0 h4
  have hlo : ∀ i, 0 ≤ i → i ≤ 4 → i ≠ k → (cutsI m q (b.low k t) i).length = (cutsI m q b i).length := fun i a1 a2 a3 => by
    unfold cutsI
    rw [Bx.low, Bx.at_put_ne _ h0 h4 a1 a2 a3]
  have huo : ∀ i, 0 ≤ i → i ≤ 4 → i ≠ k → (cutsI m q (b.upp k t) i).length = (cutsI m q b i).length := fun i a1 a2 a3 => by
    unfold cutsI
    rw [Bx.upp, Bx.at_put_ne _ h0 h4 a1 a2 a3]
  rw [hR _ (fun i _ _ _ => rfl), hR _ hlo]
  refine ⟨Nat.mul_le_mul_right R (Nat.succ_le_succ (cutsI_le m rfl rfl (by rw [hl]; exact Int.le_refl _) (by rw [hl]; exact h2))), ?_⟩
  by_cases e : t = (b.at k).hi
  · left
    refine ⟨em_at (k := k) ?_, Nat.mul_le_mul_right R (Nat.succ_le_succ (cutsI_le m rfl rfl (by rw [hl]; exact Int.le_refl _) (by rw [hl, e]; exact Int.le_refl _)))⟩
    rw [Bx.upp, Bx.at_put_eq _ h0 h4, e, upp_out (Full.at hb k)]
    show (0 : Int) < 1
    omega
  · right
    have hu : (b.upp k t).at k = ⟨t + 1, (b.at k).hi⟩ := by rw [Bx.upp, Bx.at_put_eq _ h0 h4, upp_in h1 (by omega)]
    rw [hR _ huo]
    refine ⟨full_em ?_, Nat.mul_le_mul_right R (Nat.succ_le_succ (cutsI_le m rfl rfl (by rw [hu]; show _ ≤ t + 1; omega) (by rw [hu]; exact Int.le_refl _))), ?_⟩
    · rw [Bx.upp, upp_in h1 (by omega)]
      exact full_put hb (by show t + 1 ≤ (b.at k).hi; omega) h0 h4
    · rw [← Nat.add_mul]
      refine Nat.mul_le_mul_right R ?_
      unfold cutsI
      rw [hl, hu]
      split
      · have := cutS_two (s := b.at k) (thrM_up m (featF q k)) t
        omega
      · simp
/-- a box of one point has one cell -/
theorem one_cell (m : Md) (q : Qy) {x : Bx} (h : ∀ k, 0 ≤ k → k ≤ 4 → (x.at k).lo = (x.at k).hi) : cntX (cutsI m q x) = 1 := by
  have hz : ∀ k, 0 ≤ k → k ≤ 4 → cutsI m q x k = [] := fun k h0 h4 => List.eq_nil_iff_forall_not_mem.2 fun t ht => by
    have := cutsI_mem.1 ht
    have := h k h0 h4
    omega
  unfold cntX
  rw [hz 0 (by omega) (by omega), hz 1 (by omega) (by omega), hz 2 (by omega) (by omega), hz 3 (by omega) (by omega), hz 4 (by omega) (by omega)]
  rfl
theorem small_of {s : Sp} (h : s.lo ≤ s.hi ∧ fit32 s.lo = true ∧ fit32 s.hi = true) : SmS s := by
  have h1 := fit32_of h.2.1
  have h2 := fit32_of h.2.2
  exact ⟨by omega, by omega, by omega, by omega⟩
theorem place_small {d i : Int} {s : Sp} (h : placeR d i s) : SmS s := by
  by_cases hi : i < d
  · exact small_of (h.1 hi)
  · have := h.2 (by omega)
    exact ⟨by omega, by omega, by omega, by omega⟩
theorem region_small {m : Md} {q : Qy} (h : RightQ m q) : SmB q.rg := ⟨place_small h.sp.1, place_small h.sp.2.1, place_small h.sp.2.2.1, place_small h.sp.2.2.2.1, place_small h.sp.2.2.2.2⟩
theorem start_small {m : Md} {q : Qy} (h : RightQ m q) : SmB (startI q) := by
  have hr := region_small h
  refine ⟨hr.1, hr.2.1, hr.2.2.1, hr.2.2.2.1, ?_⟩
  show SmS (if pairP q then q.rg.at q.f else Sp.nil)
  split
  · exact hr.at _
  · exact ⟨by decide, by decide, by decide, by decide⟩

end Go.Proofs.YtkkbeobocbgmeaaGreat

namespace Go.Proofs.YtkkbeobocbgmeaaGreat
open Go.RowKit M

open Classical in
theorem cells_bool (m : Md) (q : Qy) : ∃ H : Bool, H = true ↔ CellsHold m q := ⟨decide (CellsHold m q), by simp⟩
/-- the query, its first span up to y -/
def partQ (q : Qy) (y : Int) : Qy := { q with rg := { q.rg with a := { q.rg.a with hi := y } } }
theorem part_right {m : Md} {q : Qy} (h : RightQ m q) {y : Int} (h1 : q.rg.a.lo ≤ y) (h2 : y ≤ q.rg.a.hi) : RightQ m (partQ q y) := by
  have hd := h.mr.d1
  obtain ⟨s0, s1, s2, s3, s4⟩ := h.sp
  have hs := s0.1 (by omega)
  have f1 := fit32_of hs.2.1
  have f2 := fit32_of hs.2.2
  exact ⟨h.mr, h.c0, h.c1, h.b0, h.b1, ⟨⟨fun _ => ⟨h1, hs.2.1, fit32_yes (by show _ ≤ y; omega) (by show y ≤ _; omega)⟩, fun hh => by omega⟩, s1, s2, s3, s4⟩, h.kd⟩
theorem part_in {q : Qy} {y : Int} (h2 : y ≤ q.rg.a.hi) : InB (startI (partQ q y)) (startI q) := by
  refine ⟨⟨Int.le_refl _, h2⟩, ⟨Int.le_refl _, Int.le_refl _⟩, ⟨Int.le_refl _, Int.le_refl _⟩, ⟨Int.le_refl _, Int.le_refl _⟩, ?_⟩
  show (if pairP q then q.rg.at q.f else Sp.nil).lo ≤ (if pairP q then (partQ q y).rg.at q.f else Sp.nil).lo ∧ (if pairP q then (partQ q y).rg.at q.f else Sp.nil).hi ≤ (if pairP q then q.rg.at q.f else Sp.nil).hi
  split
  · have : InB (partQ q y).rg q.rg := ⟨⟨Int.le_refl _, h2⟩, ⟨Int.le_refl _, Int.le_refl _⟩, ⟨Int.le_refl _, Int.le_refl _⟩, ⟨Int.le_refl _, Int.le_refl _⟩, Int.le_refl _, Int.le_refl _⟩
    exact InB.at this q.f
  · exact ⟨Int.le_refl _, Int.le_refl _⟩
theorem part_cnt (m : Md) {q : Qy} {y : Int} (h2 : y ≤ q.rg.a.hi) : cntX (cutsI m (partQ q y) (startI (partQ q y))) ≤ cntX (cutsI m q (startI q)) :=
  cntX_le fun k _ _ => cutsI_le m rfl rfl (InB.at (part_in h2) k).1 (InB.at (part_in h2) k).2
theorem part_holds {m : Md} {q : Qy} (h : RightQ m q) {y : Int} (h1 : q.rg.a.lo ≤ y) (h2 : y ≤ q.rg.a.hi) (hh : CellsHold m q) : CellsHold m (partQ q y) := by
  refine (holds_iff (start_full (part_right h h1 h2))).2 fun p t hp hb => ?_
  refine (holds_iff (start_full h)).1 hh p t (HasX.up hp (part_in h2)) ⟨h, ?_⟩
  exact hb.2

end Go.Proofs.YtkkbeobocbgmeaaGreat
