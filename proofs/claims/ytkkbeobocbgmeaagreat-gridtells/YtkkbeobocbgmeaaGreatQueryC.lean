/- What the functions of package query that tell which queries are right answer: hasClass, asksPairs, rightRegion, rightKind, Right.
   What Start and Second of package query answer. -/
import Derived.Test.YtkkbeobocbgmeaaGreatQueryB
import Derived.Test.YtkkbeobocbgmeaaGreatBoxV
import Derived.Test.YtkkbeobocbgmeaaGreatSpanIs
namespace Go.Proofs.YtkkbeobocbgmeaaGreat
open Go.RowKit M

theorem hasc_ans (d k b0 b1 b2 : Int) (a : Option Addr) (n c' : Nat) (c : Int) : Ans 50 #[.agg #[.int .i64 d, .int .i64 k, .int .i64 b0, .int .i64 b1, .int .i64 b2, .slice a n c'], .int .i64 c] (.bool (hasC k c)) := fun w => by
  have J := rules8
  by_cases h1 : 0 ≤ c
  · by_cases h2 : c < k
    · have e : hasC k c = true := hasC_iff.2 ⟨h1, h2⟩
      rw [e]; clear e
      go_enter Tryz.func50, Tryz.ntmps50
      go_wp2
      go_ret
      exact ⟨rfl, (Jk.refl w).alloc _⟩
    · have e : hasC k c = false := by simp [hasC]; omega
      rw [e]; clear e
      go_enter Tryz.func50, Tryz.ntmps50
      go_wp2
      go_ret
      exact ⟨rfl, (Jk.refl w).alloc _⟩
  · have e : hasC k c = false := by simp [hasC]; omega
    rw [e]; clear e
    go_enter Tryz.func50, Tryz.ntmps50
    go_wp2
    go_ret
    exact ⟨rfl, (Jk.refl w).alloc _⟩

set_option maxRecDepth 100000 in
set_option maxHeartbeats 1600000 in
theorem pairs_ans {q : Qy} {b : Bool} (hb : b = true ↔ pairP q) : Ans 21 #[queryV q] (.bool b) := fun w => by
  have J := rules8
  obtain ⟨kd, cl, ⟨⟨ra, rb⟩, ⟨rc, rd⟩, ⟨re, rf⟩, ⟨rg, rh⟩, ⟨ri, rj⟩⟩, lo, hi, f, fa, bu⟩ := q
  simp only [pairP] at hb
  by_cases h1 : kd = 3
  · by_cases h2 : 0 ≤ f
    · by_cases h3 : f < 4
      · obtain rfl : true = b := (hb.2 ⟨h1, h2, h3⟩).symm
        clear hb
        subst h1
        go_enter Tryz.func21, Tryz.ntmps21
        go_wp2
        go_ret
        exact ⟨rfl, (Jk.refl w).alloc _⟩
      · obtain rfl : false = b := (Bool.eq_false_iff.2 fun e => by have := hb.1 e; omega).symm
        clear hb
        subst h1
        go_enter Tryz.func21, Tryz.ntmps21
        go_wp2
        go_ret
        exact ⟨rfl, (Jk.refl w).alloc _⟩
    · obtain rfl : false = b := (Bool.eq_false_iff.2 fun e => by have := hb.1 e; omega).symm
      clear hb
      subst h1
      go_enter Tryz.func21, Tryz.ntmps21
      go_wp2
      go_ret
      exact ⟨rfl, (Jk.refl w).alloc _⟩
  · obtain rfl : false = b := (Bool.eq_false_iff.2 fun e => by have := hb.1 e; omega).symm
    clear hb
    go_enter Tryz.func21, Tryz.ntmps21
    go_wp2
    go_ret
    exact ⟨rfl, (Jk.refl w).alloc _⟩

theorem ix_at (x : Bx) {j : Nat} (hj : j < 5) (w : World) : (Instr.index 36 (boxV x) (.int .i64 (j : Int))).run Tryz.prog w = .ok (spV (x.at (j : Int))) w := by
  match j, hj with
  | 0, _ => exact ix0 x w
  | 1, _ => exact ix1 x w
  | 2, _ => exact ix2 x w
  | 3, _ => exact ix3 x w
  | 4, _ => exact ix4 x w
theorem spansR_at {d : Int} {x : Bx} : spansR d x ↔ ∀ j : Nat, j < 5 → placeR d (j : Int) (x.at (j : Int)) := by
  constructor
  · rintro ⟨h0, h1, h2, h3, h4⟩ j hj
    match j, hj with
    | 0, _ => exact h0
    | 1, _ => exact h1
    | 2, _ => exact h2
    | 3, _ => exact h3
    | 4, _ => exact h4
  · intro h
    exact ⟨h 0 (by decide), h 1 (by decide), h 2 (by decide), h 3 (by decide), h 4 (by decide)⟩
theorem eq_nil (x y : Int) (w : World) : (Op.equalIn 10000 34 (.agg #[.int .i64 x, .int .i64 y]) (.agg #[.int .i64 0, .int .i64 0])).run Tryz.prog w = .ok ((x == 0) && (y == 0)) w := eq_span 9998 ⟨x, y⟩ ⟨0, 0⟩ w

set_option maxRecDepth 100000 in
set_option maxHeartbeats 1600000 in
theorem region_ok {x : Bx} {d : Int} {b : Bool} (hb : b = true ↔ spansR d x) : Ans 51 #[boxV x, .int .i64 d] (.bool b) := fun w => by
  have J := rules8
  have HB : Hid (b = true ↔ ∀ j : Nat, j < 5 → placeR d (j : Int) (x.at (j : Int))) := hb.trans spansR_at
  have HIx : Hid (∀ (j : Nat) (w : World), j < 5 → (Instr.index 36 (boxV x) (.int .i64 (j : Int))).run Tryz.prog w = .ok (spV (x.at (j : Int))) w) := fun j w hj => ix_at x hj w
  clear hb
  obtain ⟨S, hS⟩ : ∃ S : Nat → Sp, ∀ j : Nat, x.at (j : Int) = S j := ⟨_, fun _ => rfl⟩
  simp only [hS] at HB HIx
  clear hS
  obtain ⟨⟨ra, rb⟩, ⟨rc, rd⟩, ⟨re, rf⟩, ⟨rg, rh⟩, ⟨ri, rj⟩⟩ := x
  simp only [boxV] at HIx ⊢
  go_enter Tryz.func51, Tryz.ntmps51
  go_upto_region 2 with fail
  go_loopg [8] 5 (fun r i wr => ∃ j : Nat, j + r = 5 ∧ i = .int .i64 (j : Int) ∧ Hid (∀ q, q < j → placeR d (q : Int) (S q)) ∧ Hid (Jk w wr))
  case atStart => exact ⟨0, by omega, rfl, hid fun q hq => by omega, hid ((Jk.refl w).alloc _)⟩
  case round =>
    obtain ⟨j, hj, rfl, HP, HJ⟩ := hrel
    by_cases hk : gk = 0
    · subst hk
      obtain rfl : j = 5 := by omega
      obtain rfl : true = b := (HB.out.2 HP.out).symm
      go_wp2
      go_ret
      exact ⟨rfl, HJ.out⟩
    · obtain ⟨r, rfl⟩ : ∃ r, gk = r + 1 := ⟨gk - 1, by omega⟩
      have hj5 : j < 5 := by omega
      have hj5' : (j : Int) < 5 := by omega
      have hix := fun w => HIx.out j w hj5
      have HPj : Hid (b = true → placeR d (j : Int) (S j)) := fun e => HB.out.1 e j hj5
      have HNx : Hid (placeR d (j : Int) (S j) → ∀ q, q < j + 1 → placeR d (q : Int) (S q)) := fun h q hq => by
        rcases Nat.lt_succ_iff_lt_or_eq.1 hq with h1 | rfl
        · exact HP.out q h1
        · exact h
      obtain ⟨⟨sa, sb⟩, hSj⟩ : ∃ s, S j = s := ⟨_, rfl⟩
      rw [hSj] at HPj HNx
      simp only [hSj, spV] at hix
      clear hSj HB HIx HP
      have heq := fun w => eq_nil sa sb w
      have HE := hid (fun (bb : Bool) (h : emB sa sb = bb) => empty_is h)
      have HF := hid (fun (n : Int) (bb : Bool) (h : fit32 n = bb) => fits_is h)
      obtain ⟨em, hem⟩ : ∃ z, emB sa sb = z := ⟨_, rfl⟩
      obtain ⟨fl, hfl⟩ : ∃ z, fit32 sa = z := ⟨_, rfl⟩
      obtain ⟨fh, hfh⟩ : ∃ z, fit32 sb = z := ⟨_, rfl⟩
      have HEm := hid (empty_is hem)
      have HFl := hid (fits_is hfl)
      have HFh := hid (fits_is hfh)
      have Hem : Hid (emB sa sb = em ∧ fit32 sa = fl ∧ fit32 sb = fh) := ⟨hem, hfl, hfh⟩
      clear hem hfl hfh HE HF
      have HNo : Hid ((¬ placeR d (j : Int) ⟨sa, sb⟩) → false = b) := fun h => (Bool.eq_false_iff.2 fun e => h (HPj.out e)).symm
      by_cases hd : d ≤ (j : Int)
      · have hd' : (j : Int) ≥ d := hd
        by_cases hs : sa = 0 ∧ sb = 0
        · obtain ⟨rfl, rfl⟩ := hs
          have HPl : Hid (placeR d (j : Int) ⟨0, 0⟩) := ⟨fun h => by omega, fun _ => ⟨rfl, rfl⟩⟩
          obtain ⟨e1, e2, e3⟩ := Hem.out
          obtain rfl : false = em := e1 ▸ by decide
          obtain rfl : true = fl := e2 ▸ by decide
          obtain rfl : true = fh := e3 ▸ by decide
          clear e1 e2 e3
          go_wp2_with (first | (go_at_call 67; refine (HEm.out _).mono ?_; rintro e w1 ⟨rfl, X1, rfl⟩) | (go_at_call 68; refine (Ans.on (by with_reducible first | exact HFl.out | exact HFh.out) _).mono ?_; rintro e w2 ⟨rfl, X2, rfl⟩))
          go_roundg r
          case measure => omega
          case rel => exact ⟨j + 1, by omega, by go_num, hid (HNx.out HPl.out), by have := HJ.out; exact hid (by repeat (with_reducible first | exact this | apply Jk.junk | apply Jk.alloc))⟩
        · obtain rfl : false = b := HNo.out fun h => hs (h.2 hd)
          have hq : ((sa == 0) && (sb == 0)) = false := by
            rw [Bool.eq_false_iff]
            intro e
            simp at e
            exact hs e
          go_wp2_with (first | (go_at_call 67; refine (HEm.out _).mono ?_; rintro e w1 ⟨rfl, X1, rfl⟩) | (go_at_call 68; refine (Ans.on (by with_reducible first | exact HFl.out | exact HFh.out) _).mono ?_; rintro e w2 ⟨rfl, X2, rfl⟩))
          go_ret
          exact ⟨rfl, by have := HJ.out; repeat (with_reducible first | exact this | apply Jk.junk | apply Jk.alloc)⟩
      · cases em
        · cases fl
          · obtain rfl : false = b := HNo.out fun h => by
              have h1 := (h.1 (by omega)).2.1
              have := Hem.out.2.1
              simp only at h1
              rw [h1] at this
              cases this
            go_wp2_with (first | (go_at_call 67; refine (HEm.out _).mono ?_; rintro e w1 ⟨rfl, X1, rfl⟩) | (go_at_call 68; refine (Ans.on (by with_reducible first | exact HFl.out | exact HFh.out) _).mono ?_; rintro e w2 ⟨rfl, X2, rfl⟩))
            go_ret
            exact ⟨rfl, by have := HJ.out; repeat (with_reducible first | exact this | apply Jk.junk | apply Jk.alloc)⟩
          · cases fh
            · obtain rfl : false = b := HNo.out fun h => by
                have h1 := (h.1 (by omega)).2.2
                have := Hem.out.2.2
                simp only at h1
                rw [h1] at this
                cases this
              go_wp2_with (first | (go_at_call 67; refine (HEm.out _).mono ?_; rintro e w1 ⟨rfl, X1, rfl⟩) | (go_at_call 68; refine (Ans.on (by with_reducible first | exact HFl.out | exact HFh.out) _).mono ?_; rintro e w2 ⟨rfl, X2, rfl⟩))
              go_ret
              exact ⟨rfl, by have := HJ.out; repeat (with_reducible first | exact this | apply Jk.junk | apply Jk.alloc)⟩
            · have HPl : Hid (placeR d (j : Int) ⟨sa, sb⟩) := ⟨fun _ => ⟨by have := Hem.out.1; simp [emB] at this; exact this, Hem.out.2.1, Hem.out.2.2⟩, fun h => absurd h hd⟩
              go_wp2_with (first | (go_at_call 67; refine (HEm.out _).mono ?_; rintro e w1 ⟨rfl, X1, rfl⟩) | (go_at_call 68; refine (Ans.on (by with_reducible first | exact HFl.out | exact HFh.out) _).mono ?_; rintro e w2 ⟨rfl, X2, rfl⟩))
              go_roundg r
              case measure => omega
              case rel => exact ⟨j + 1, by omega, by go_num, hid (HNx.out HPl.out), by have := HJ.out; exact hid (by repeat (with_reducible first | exact this | apply Jk.junk | apply Jk.alloc))⟩
        · obtain rfl : false = b := HNo.out fun h => by
            have h1 := (h.1 (by omega)).1
            have := Hem.out.1
            simp [emB] at this
            simp only at h1
            omega
          go_wp2_with (first | (go_at_call 67; refine (HEm.out _).mono ?_; rintro e w1 ⟨rfl, X1, rfl⟩) | (go_at_call 68; refine (Ans.on (by with_reducible first | exact HFl.out | exact HFh.out) _).mono ?_; rintro e w2 ⟨rfl, X2, rfl⟩))
          go_ret
          exact ⟨rfl, by have := HJ.out; repeat (with_reducible first | exact this | apply Jk.junk | apply Jk.alloc)⟩

end Go.Proofs.YtkkbeobocbgmeaaGreat

namespace Go.Proofs.YtkkbeobocbgmeaaGreat
open Go.RowKit M

/-- a point in a block of its own -/
def PtB (w : World) (h : Nat) (p0 p1 p2 p3 : Int) : Prop := w.heap[h]? = some (.cells #[.int .i64 p0, .int .i64 p1, .int .i64 p2, .int .i64 p3] 70 (0, 0))
theorem PtB.lt {w : World} {h : Nat} {p0 p1 p2 p3 : Int} (H : PtB w h p0 p1 p2 p3) : h < w.heap.size := (Array.getElem?_eq_some_iff.1 H).1
theorem PtB.jk {w w' : World} {h : Nat} {p0 p1 p2 p3 : Int} (H : PtB w h p0 p1 p2 p3) (hj : Jk w w') : PtB w' h p0 p1 p2 p3 := (hj.below.block h H.lt).trans H
theorem PtB.laid (w : World) (p0 p1 p2 p3 : Int) : PtB (w.alloc (.cells #[.int .i64 p0, .int .i64 p1, .int .i64 p2, .int .i64 p3] 70)) w.heap.size p0 p1 p2 p3 := heap_alloc_new w _
theorem PtB.frozen {w : World} {h : Nat} {p0 p1 p2 p3 : Int} (H : PtB w h p0 p1 p2 p3) (q : Nat) : w.frozen? ⟨h, q, none⟩ = false := frozen_of_row _ _ _ _ _ H
theorem PtB.in {w : World} {h : Nat} {p0 p1 p2 p3 : Int} (H : PtB w h p0 p1 p2 p3) : h < w.heap.size ∧ w.cell? ⟨h, 0, none⟩ = some (.int .i64 p0) ∧ w.cell? ⟨h, 1, none⟩ = some (.int .i64 p1) ∧ w.cell? ⟨h, 2, none⟩ = some (.int .i64 p2) ∧ w.cell? ⟨h, 3, none⟩ = some (.int .i64 p3) := by
  refine ⟨H.lt, ?_, ?_, ?_, ?_⟩ <;> (rw [cell_of_row _ _ _ _ _ _ H]; rfl)
theorem pair_bool (q : Qy) : ∃ b : Bool, b = true ↔ pairP q := ⟨decide (pairP q), by simp⟩
theorem secondI_no {q : Qy} {p : Int → Int} {t : Int} (h : ¬ pairP q) : secondI q p t = p := if_neg h
theorem secondI_yes {q : Qy} {p : Int → Int} {t : Int} (h : pairP q) : secondI q p t = putP p q.f t := if_pos h

set_option maxRecDepth 100000 in
set_option maxHeartbeats 3200000 in
theorem second_no (kd f cl ra rb rc rd re rf rg rh ri rj lo hi bu : Int) (fa : Bool) (p0 p1 p2 p3 t : Int) (w : World) (HP : Ans 21 #[.agg #[.int .i64 kd, .int .i64 cl, .int .i64 ra, .int .i64 rb, .int .i64 rc, .int .i64 rd, .int .i64 re, .int .i64 rf, .int .i64 rg, .int .i64 rh, .int .i64 ri, .int .i64 rj, .int .i64 lo, .int .i64 hi, .int .i64 f, .bool fa, .int .i64 bu]] (.bool false)) : Calls Tryz.prog 55 #[.agg #[.int .i64 kd, .int .i64 cl, .int .i64 ra, .int .i64 rb, .int .i64 rc, .int .i64 rd, .int .i64 re, .int .i64 rf, .int .i64 rg, .int .i64 rh, .int .i64 ri, .int .i64 rj, .int .i64 lo, .int .i64 hi, .int .i64 f, .bool fa, .int .i64 bu], .agg #[.int .i64 p0, .int .i64 p1, .int .i64 p2, .int .i64 p3], .int .i64 t] w fun e w' => e = .returned (.agg #[.int .i64 p0, .int .i64 p1, .int .i64 p2, .int .i64 p3]) ∧ Jk w w' := by
  have J := rules8
  obtain ⟨w0, hw0⟩ : ∃ w0, ((w.alloc (.cells #[.int .i64 kd, .int .i64 cl, .int .i64 ra, .int .i64 rb, .int .i64 rc, .int .i64 rd, .int .i64 re, .int .i64 rf, .int .i64 rg, .int .i64 rh, .int .i64 ri, .int .i64 rj, .int .i64 lo, .int .i64 hi, .int .i64 f, .bool fa, .int .i64 bu] 38)).alloc (.cells #[.int .i64 p0, .int .i64 p1, .int .i64 p2, .int .i64 p3] 70)).alloc (.cells #[.int .i64 0, .int .i64 0, .int .i64 0, .int .i64 0] 70) = w0 := ⟨_, rfl⟩
  have HJ0 : Hid (Jk w w0) := hw0 ▸ (((Jk.refl w).alloc _).alloc _).alloc _
  have HQ0 : QyB w0 w.heap.size ⟨kd, cl, ⟨⟨ra, rb⟩, ⟨rc, rd⟩, ⟨re, rf⟩, ⟨rg, rh⟩, ⟨ri, rj⟩⟩, lo, hi, f, fa, bu⟩ := by
    rw [← hw0]
    exact (QyB.laid w ⟨kd, cl, ⟨⟨ra, rb⟩, ⟨rc, rd⟩, ⟨re, rf⟩, ⟨rg, rh⟩, ⟨ri, rj⟩⟩, lo, hi, f, fa, bu⟩).jk (((Jk.refl _).alloc _).alloc _)
  have hp0 : PtB w0 (w.heap.size + 1) p0 p1 p2 p3 := by
    rw [← hw0]
    have := PtB.laid (w.alloc (.cells #[.int .i64 kd, .int .i64 cl, .int .i64 ra, .int .i64 rb, .int .i64 rc, .int .i64 rd, .int .i64 re, .int .i64 rf, .int .i64 rg, .int .i64 rh, .int .i64 ri, .int .i64 rj, .int .i64 lo, .int .i64 hi, .int .i64 f, .bool fa, .int .i64 bu] 38)) p0 p1 p2 p3
    rw [World.size_alloc] at this
    exact this.jk ((Jk.refl _).alloc _)
  have hz0 : PtB w0 (w.heap.size + 1 + 1) 0 0 0 0 := by
    rw [← hw0]
    have := PtB.laid ((w.alloc (.cells #[.int .i64 kd, .int .i64 cl, .int .i64 ra, .int .i64 rb, .int .i64 rc, .int .i64 rd, .int .i64 re, .int .i64 rf, .int .i64 rg, .int .i64 rh, .int .i64 ri, .int .i64 rj, .int .i64 lo, .int .i64 hi, .int .i64 f, .bool fa, .int .i64 bu] 38)).alloc (.cells #[.int .i64 p0, .int .i64 p1, .int .i64 p2, .int .i64 p3] 70)) 0 0 0 0
    rwa [World.size_alloc, World.size_alloc] at this
  have HQ := hid HQ0
  have HPt := hid hp0
  have HZ := hid hz0
  clear HQ0 hp0 hz0
  go_enter Tryz.func55, Tryz.ntmps55
  go_upto_region 1 with fail
  refine wp_region_lit ?_
  refine list_loadQ rfl _ rfl HQ.out rfl ?_
  go_upto_region 3 with (first | (go_at_call 21; refine (HP.on _).mono ?_; rintro e w1 ⟨rfl, X1, hX1⟩; have HJ1 : Hid (Jk w0 w1) := ⟨X1, hX1⟩; clear hX1 X1))
  obtain ⟨pl, px0, px1, px2, px3⟩ := (HPt.out.jk HJ1.out).in
  obtain ⟨zl, zx0, zx1, zx2, zx3⟩ := (HZ.out.jk HJ1.out).in
  have zf := (HZ.out.jk HJ1.out).frozen
  go_wp2
  exact bodyPost_ret (by simp [results, Tryz.results55, go_sem, *]) rfl ⟨rfl, by repeat (with_reducible first | exact HJ0.out.trans HJ1.out | (refine Jk.set ?_ (by simp only; omega) _))⟩

set_option maxRecDepth 100000 in
set_option maxHeartbeats 3200000 in
theorem second_0 (cl ra rb rc rd re rf rg rh ri rj lo hi bu : Int) (fa : Bool) (p0 p1 p2 p3 t : Int) (w : World) (HP : Ans 21 #[.agg #[.int .i64 3, .int .i64 cl, .int .i64 ra, .int .i64 rb, .int .i64 rc, .int .i64 rd, .int .i64 re, .int .i64 rf, .int .i64 rg, .int .i64 rh, .int .i64 ri, .int .i64 rj, .int .i64 lo, .int .i64 hi, .int .i64 0, .bool fa, .int .i64 bu]] (.bool true)) : Calls Tryz.prog 55 #[.agg #[.int .i64 3, .int .i64 cl, .int .i64 ra, .int .i64 rb, .int .i64 rc, .int .i64 rd, .int .i64 re, .int .i64 rf, .int .i64 rg, .int .i64 rh, .int .i64 ri, .int .i64 rj, .int .i64 lo, .int .i64 hi, .int .i64 0, .bool fa, .int .i64 bu], .agg #[.int .i64 p0, .int .i64 p1, .int .i64 p2, .int .i64 p3], .int .i64 t] w fun e w' => e = .returned (.agg #[.int .i64 t, .int .i64 p1, .int .i64 p2, .int .i64 p3]) ∧ Jk w w' := by
  have J := rules8
  obtain ⟨w0, hw0⟩ : ∃ w0, ((w.alloc (.cells #[.int .i64 3, .int .i64 cl, .int .i64 ra, .int .i64 rb, .int .i64 rc, .int .i64 rd, .int .i64 re, .int .i64 rf, .int .i64 rg, .int .i64 rh, .int .i64 ri, .int .i64 rj, .int .i64 lo, .int .i64 hi, .int .i64 0, .bool fa, .int .i64 bu] 38)).alloc (.cells #[.int .i64 p0, .int .i64 p1, .int .i64 p2, .int .i64 p3] 70)).alloc (.cells #[.int .i64 0, .int .i64 0, .int .i64 0, .int .i64 0] 70) = w0 := ⟨_, rfl⟩
  have HJ0 : Hid (Jk w w0) := hw0 ▸ (((Jk.refl w).alloc _).alloc _).alloc _
  have HQ0 : QyB w0 w.heap.size ⟨3, cl, ⟨⟨ra, rb⟩, ⟨rc, rd⟩, ⟨re, rf⟩, ⟨rg, rh⟩, ⟨ri, rj⟩⟩, lo, hi, 0, fa, bu⟩ := by
    rw [← hw0]
    exact (QyB.laid w ⟨3, cl, ⟨⟨ra, rb⟩, ⟨rc, rd⟩, ⟨re, rf⟩, ⟨rg, rh⟩, ⟨ri, rj⟩⟩, lo, hi, 0, fa, bu⟩).jk (((Jk.refl _).alloc _).alloc _)
  have hp0 : PtB w0 (w.heap.size + 1) p0 p1 p2 p3 := by
    rw [← hw0]
    have := PtB.laid (w.alloc (.cells #[.int .i64 3, .int .i64 cl, .int .i64 ra, .int .i64 rb, .int .i64 rc, .int .i64 rd, .int .i64 re, .int .i64 rf, .int .i64 rg, .int .i64 rh, .int .i64 ri, .int .i64 rj, .int .i64 lo, .int .i64 hi, .int .i64 0, .bool fa, .int .i64 bu] 38)) p0 p1 p2 p3
    rw [World.size_alloc] at this
    exact this.jk ((Jk.refl _).alloc _)
  have hz0 : PtB w0 (w.heap.size + 1 + 1) 0 0 0 0 := by
    rw [← hw0]
    have := PtB.laid ((w.alloc (.cells #[.int .i64 3, .int .i64 cl, .int .i64 ra, .int .i64 rb, .int .i64 rc, .int .i64 rd, .int .i64 re, .int .i64 rf, .int .i64 rg, .int .i64 rh, .int .i64 ri, .int .i64 rj, .int .i64 lo, .int .i64 hi, .int .i64 0, .bool fa, .int .i64 bu] 38)).alloc (.cells #[.int .i64 p0, .int .i64 p1, .int .i64 p2, .int .i64 p3] 70)) 0 0 0 0
    rwa [World.size_alloc, World.size_alloc] at this
  have HQ := hid HQ0
  have HPt := hid hp0
  have HZ := hid hz0
  clear HQ0 hp0 hz0
  go_enter Tryz.func55, Tryz.ntmps55
  go_upto_region 1 with fail
  refine wp_region_lit ?_
  refine list_loadQ rfl _ rfl HQ.out rfl ?_
  go_upto_region 2 with (first | (go_at_call 21; refine (HP.on _).mono ?_; rintro e w1 ⟨rfl, X1, hX1⟩; have HJ1 : Hid (Jk w0 w1) := ⟨X1, hX1⟩; clear hX1 X1))
  obtain ⟨pl, px0, px1, px2, px3⟩ := (HPt.out.jk HJ1.out).in
  obtain ⟨zl, zx0, zx1, zx2, zx3⟩ := (HZ.out.jk HJ1.out).in
  obtain ⟨q0, q1, q2, q3, q4, q5, q6, q7, q8, q9, q10, q11, q12, q13, q14, q15, q16⟩ := (HQ.out.jk HJ1.out).in
  simp only at q0 q1 q2 q3 q4 q5 q6 q7 q8 q9 q10 q11 q12 q13 q14 q15 q16
  have pf := (HPt.out.jk HJ1.out).frozen
  have zf := (HZ.out.jk HJ1.out).frozen
  go_wp2
  exact bodyPost_ret (by simp [results, Tryz.results55, go_sem, *]) rfl ⟨rfl, by repeat (with_reducible first | exact HJ0.out.trans HJ1.out | (refine Jk.set ?_ (by simp only; omega) _))⟩

set_option maxRecDepth 100000 in
set_option maxHeartbeats 3200000 in
theorem second_1 (cl ra rb rc rd re rf rg rh ri rj lo hi bu : Int) (fa : Bool) (p0 p1 p2 p3 t : Int) (w : World) (HP : Ans 21 #[.agg #[.int .i64 3, .int .i64 cl, .int .i64 ra, .int .i64 rb, .int .i64 rc, .int .i64 rd, .int .i64 re, .int .i64 rf, .int .i64 rg, .int .i64 rh, .int .i64 ri, .int .i64 rj, .int .i64 lo, .int .i64 hi, .int .i64 1, .bool fa, .int .i64 bu]] (.bool true)) : Calls Tryz.prog 55 #[.agg #[.int .i64 3, .int .i64 cl, .int .i64 ra, .int .i64 rb, .int .i64 rc, .int .i64 rd, .int .i64 re, .int .i64 rf, .int .i64 rg, .int .i64 rh, .int .i64 ri, .int .i64 rj, .int .i64 lo, .int .i64 hi, .int .i64 1, .bool fa, .int .i64 bu], .agg #[.int .i64 p0, .int .i64 p1, .int .i64 p2, .int .i64 p3], .int .i64 t] w fun e w' => e = .returned (.agg #[.int .i64 p0, .int .i64 t, .int .i64 p2, .int .i64 p3]) ∧ Jk w w' := by
  have J := rules8
  obtain ⟨w0, hw0⟩ : ∃ w0, ((w.alloc (.cells #[.int .i64 3, .int .i64 cl, .int .i64 ra, .int .i64 rb, .int .i64 rc, .int .i64 rd, .int .i64 re, .int .i64 rf, .int .i64 rg, .int .i64 rh, .int .i64 ri, .int .i64 rj, .int .i64 lo, .int .i64 hi, .int .i64 1, .bool fa, .int .i64 bu] 38)).alloc (.cells #[.int .i64 p0, .int .i64 p1, .int .i64 p2, .int .i64 p3] 70)).alloc (.cells #[.int .i64 0, .int .i64 0, .int .i64 0, .int .i64 0] 70) = w0 := ⟨_, rfl⟩
  have HJ0 : Hid (Jk w w0) := hw0 ▸ (((Jk.refl w).alloc _).alloc _).alloc _
  have HQ0 : QyB w0 w.heap.size ⟨3, cl, ⟨⟨ra, rb⟩, ⟨rc, rd⟩, ⟨re, rf⟩, ⟨rg, rh⟩, ⟨ri, rj⟩⟩, lo, hi, 1, fa, bu⟩ := by
    rw [← hw0]
    exact (QyB.laid w ⟨3, cl, ⟨⟨ra, rb⟩, ⟨rc, rd⟩, ⟨re, rf⟩, ⟨rg, rh⟩, ⟨ri, rj⟩⟩, lo, hi, 1, fa, bu⟩).jk (((Jk.refl _).alloc _).alloc _)
  have hp0 : PtB w0 (w.heap.size + 1) p0 p1 p2 p3 := by
    rw [← hw0]
    have := PtB.laid (w.alloc (.cells #[.int .i64 3, .int .i64 cl, .int .i64 ra, .int .i64 rb, .int .i64 rc, .int .i64 rd, .int .i64 re, .int .i64 rf, .int .i64 rg, .int .i64 rh, .int .i64 ri, .int .i64 rj, .int .i64 lo, .int .i64 hi, .int .i64 1, .bool fa, .int .i64 bu] 38)) p0 p1 p2 p3
    rw [World.size_alloc] at this
    exact this.jk ((Jk.refl _).alloc _)
  have hz0 : PtB w0 (w.heap.size + 1 + 1) 0 0 0 0 := by
    rw [← hw0]
    have := PtB.laid ((w.alloc (.cells #[.int .i64 3, .int .i64 cl, .int .i64 ra, .int .i64 rb, .int .i64 rc, .int .i64 rd, .int .i64 re, .int .i64 rf, .int .i64 rg, .int .i64 rh, .int .i64 ri, .int .i64 rj, .int .i64 lo, .int .i64 hi, .int .i64 1, .bool fa, .int .i64 bu] 38)).alloc (.cells #[.int .i64 p0, .int .i64 p1, .int .i64 p2, .int .i64 p3] 70)) 0 0 0 0
    rwa [World.size_alloc, World.size_alloc] at this
  have HQ := hid HQ0
  have HPt := hid hp0
  have HZ := hid hz0
  clear HQ0 hp0 hz0
  go_enter Tryz.func55, Tryz.ntmps55
  go_upto_region 1 with fail
  refine wp_region_lit ?_
  refine list_loadQ rfl _ rfl HQ.out rfl ?_
  go_upto_region 2 with (first | (go_at_call 21; refine (HP.on _).mono ?_; rintro e w1 ⟨rfl, X1, hX1⟩; have HJ1 : Hid (Jk w0 w1) := ⟨X1, hX1⟩; clear hX1 X1))
  obtain ⟨pl, px0, px1, px2, px3⟩ := (HPt.out.jk HJ1.out).in
  obtain ⟨zl, zx0, zx1, zx2, zx3⟩ := (HZ.out.jk HJ1.out).in
  obtain ⟨q0, q1, q2, q3, q4, q5, q6, q7, q8, q9, q10, q11, q12, q13, q14, q15, q16⟩ := (HQ.out.jk HJ1.out).in
  simp only at q0 q1 q2 q3 q4 q5 q6 q7 q8 q9 q10 q11 q12 q13 q14 q15 q16
  have pf := (HPt.out.jk HJ1.out).frozen
  have zf := (HZ.out.jk HJ1.out).frozen
  go_wp2
  exact bodyPost_ret (by simp [results, Tryz.results55, go_sem, *]) rfl ⟨rfl, by repeat (with_reducible first | exact HJ0.out.trans HJ1.out | (refine Jk.set ?_ (by simp only; omega) _))⟩

set_option maxRecDepth 100000 in
set_option maxHeartbeats 3200000 in
theorem second_2 (cl ra rb rc rd re rf rg rh ri rj lo hi bu : Int) (fa : Bool) (p0 p1 p2 p3 t : Int) (w : World) (HP : Ans 21 #[.agg #[.int .i64 3, .int .i64 cl, .int .i64 ra, .int .i64 rb, .int .i64 rc, .int .i64 rd, .int .i64 re, .int .i64 rf, .int .i64 rg, .int .i64 rh, .int .i64 ri, .int .i64 rj, .int .i64 lo, .int .i64 hi, .int .i64 2, .bool fa, .int .i64 bu]] (.bool true)) : Calls Tryz.prog 55 #[.agg #[.int .i64 3, .int .i64 cl, .int .i64 ra, .int .i64 rb, .int .i64 rc, .int .i64 rd, .int .i64 re, .int .i64 rf, .int .i64 rg, .int .i64 rh, .int .i64 ri, .int .i64 rj, .int .i64 lo, .int .i64 hi, .int .i64 2, .bool fa, .int .i64 bu], .agg #[.int .i64 p0, .int .i64 p1, .int .i64 p2, .int .i64 p3], .int .i64 t] w fun e w' => e = .returned (.agg #[.int .i64 p0, .int .i64 p1, .int .i64 t, .int .i64 p3]) ∧ Jk w w' := by
  have J := rules8
  obtain ⟨w0, hw0⟩ : ∃ w0, ((w.alloc (.cells #[.int .i64 3, .int .i64 cl, .int .i64 ra, .int .i64 rb, .int .i64 rc, .int .i64 rd, .int .i64 re, .int .i64 rf, .int .i64 rg, .int .i64 rh, .int .i64 ri, .int .i64 rj, .int .i64 lo, .int .i64 hi, .int .i64 2, .bool fa, .int .i64 bu] 38)).alloc (.cells #[.int .i64 p0, .int .i64 p1, .int .i64 p2, .int .i64 p3] 70)).alloc (.cells #[.int .i64 0, .int .i64 0, .int .i64 0, .int .i64 0] 70) = w0 := ⟨_, rfl⟩
  have HJ0 : Hid (Jk w w0) := hw0 ▸ (((Jk.refl w).alloc _).alloc _).alloc _
  have HQ0 : QyB w0 w.heap.size ⟨3, cl, ⟨⟨ra, rb⟩, ⟨rc, rd⟩, ⟨re, rf⟩, ⟨rg, rh⟩, ⟨ri, rj⟩⟩, lo, hi, 2, fa, bu⟩ := by
    rw [← hw0]
    exact (QyB.laid w ⟨3, cl, ⟨⟨ra, rb⟩, ⟨rc, rd⟩, ⟨re, rf⟩, ⟨rg, rh⟩, ⟨ri, rj⟩⟩, lo, hi, 2, fa, bu⟩).jk (((Jk.refl _).alloc _).alloc _)
  have hp0 : PtB w0 (w.heap.size + 1) p0 p1 p2 p3 := by
    rw [← hw0]
    have := PtB.laid (w.alloc (.cells #[.int .i64 3, .int .i64 cl, .int .i64 ra, .int .i64 rb, .int .i64 rc, .int .i64 rd, .int .i64 re, .int .i64 rf, .int .i64 rg, .int .i64 rh, .int .i64 ri, .int .i64 rj, .int .i64 lo, .int .i64 hi, .int .i64 2, .bool fa, .int .i64 bu] 38)) p0 p1 p2 p3
    rw [World.size_alloc] at this
    exact this.jk ((Jk.refl _).alloc _)
  have hz0 : PtB w0 (w.heap.size + 1 + 1) 0 0 0 0 := by
    rw [← hw0]
    have := PtB.laid ((w.alloc (.cells #[.int .i64 3, .int .i64 cl, .int .i64 ra, .int .i64 rb, .int .i64 rc, .int .i64 rd, .int .i64 re, .int .i64 rf, .int .i64 rg, .int .i64 rh, .int .i64 ri, .int .i64 rj, .int .i64 lo, .int .i64 hi, .int .i64 2, .bool fa, .int .i64 bu] 38)).alloc (.cells #[.int .i64 p0, .int .i64 p1, .int .i64 p2, .int .i64 p3] 70)) 0 0 0 0
    rwa [World.size_alloc, World.size_alloc] at this
  have HQ := hid HQ0
  have HPt := hid hp0
  have HZ := hid hz0
  clear HQ0 hp0 hz0
  go_enter Tryz.func55, Tryz.ntmps55
  go_upto_region 1 with fail
  refine wp_region_lit ?_
  refine list_loadQ rfl _ rfl HQ.out rfl ?_
  go_upto_region 2 with (first | (go_at_call 21; refine (HP.on _).mono ?_; rintro e w1 ⟨rfl, X1, hX1⟩; have HJ1 : Hid (Jk w0 w1) := ⟨X1, hX1⟩; clear hX1 X1))
  obtain ⟨pl, px0, px1, px2, px3⟩ := (HPt.out.jk HJ1.out).in
  obtain ⟨zl, zx0, zx1, zx2, zx3⟩ := (HZ.out.jk HJ1.out).in
  obtain ⟨q0, q1, q2, q3, q4, q5, q6, q7, q8, q9, q10, q11, q12, q13, q14, q15, q16⟩ := (HQ.out.jk HJ1.out).in
  simp only at q0 q1 q2 q3 q4 q5 q6 q7 q8 q9 q10 q11 q12 q13 q14 q15 q16
  have pf := (HPt.out.jk HJ1.out).frozen
  have zf := (HZ.out.jk HJ1.out).frozen
  go_wp2
  exact bodyPost_ret (by simp [results, Tryz.results55, go_sem, *]) rfl ⟨rfl, by repeat (with_reducible first | exact HJ0.out.trans HJ1.out | (refine Jk.set ?_ (by simp only; omega) _))⟩

set_option maxRecDepth 100000 in
set_option maxHeartbeats 3200000 in
theorem second_3 (cl ra rb rc rd re rf rg rh ri rj lo hi bu : Int) (fa : Bool) (p0 p1 p2 p3 t : Int) (w : World) (HP : Ans 21 #[.agg #[.int .i64 3, .int .i64 cl, .int .i64 ra, .int .i64 rb, .int .i64 rc, .int .i64 rd, .int .i64 re, .int .i64 rf, .int .i64 rg, .int .i64 rh, .int .i64 ri, .int .i64 rj, .int .i64 lo, .int .i64 hi, .int .i64 3, .bool fa, .int .i64 bu]] (.bool true)) : Calls Tryz.prog 55 #[.agg #[.int .i64 3, .int .i64 cl, .int .i64 ra, .int .i64 rb, .int .i64 rc, .int .i64 rd, .int .i64 re, .int .i64 rf, .int .i64 rg, .int .i64 rh, .int .i64 ri, .int .i64 rj, .int .i64 lo, .int .i64 hi, .int .i64 3, .bool fa, .int .i64 bu], .agg #[.int .i64 p0, .int .i64 p1, .int .i64 p2, .int .i64 p3], .int .i64 t] w fun e w' => e = .returned (.agg #[.int .i64 p0, .int .i64 p1, .int .i64 p2, .int .i64 t]) ∧ Jk w w' := by
  have J := rules8
  obtain ⟨w0, hw0⟩ : ∃ w0, ((w.alloc (.cells #[.int .i64 3, .int .i64 cl, .int .i64 ra, .int .i64 rb, .int .i64 rc, .int .i64 rd, .int .i64 re, .int .i64 rf, .int .i64 rg, .int .i64 rh, .int .i64 ri, .int .i64 rj, .int .i64 lo, .int .i64 hi, .int .i64 3, .bool fa, .int .i64 bu] 38)).alloc (.cells #[.int .i64 p0, .int .i64 p1, .int .i64 p2, .int .i64 p3] 70)).alloc (.cells #[.int .i64 0, .int .i64 0, .int .i64 0, .int .i64 0] 70) = w0 := ⟨_, rfl⟩
  have HJ0 : Hid (Jk w w0) := hw0 ▸ (((Jk.refl w).alloc _).alloc _).alloc _
  have HQ0 : QyB w0 w.heap.size ⟨3, cl, ⟨⟨ra, rb⟩, ⟨rc, rd⟩, ⟨re, rf⟩, ⟨rg, rh⟩, ⟨ri, rj⟩⟩, lo, hi, 3, fa, bu⟩ := by
    rw [← hw0]
    exact (QyB.laid w ⟨3, cl, ⟨⟨ra, rb⟩, ⟨rc, rd⟩, ⟨re, rf⟩, ⟨rg, rh⟩, ⟨ri, rj⟩⟩, lo, hi, 3, fa, bu⟩).jk (((Jk.refl _).alloc _).alloc _)
  have hp0 : PtB w0 (w.heap.size + 1) p0 p1 p2 p3 := by
    rw [← hw0]
    have := PtB.laid (w.alloc (.cells #[.int .i64 3, .int .i64 cl, .int .i64 ra, .int .i64 rb, .int .i64 rc, .int .i64 rd, .int .i64 re, .int .i64 rf, .int .i64 rg, .int .i64 rh, .int .i64 ri, .int .i64 rj, .int .i64 lo, .int .i64 hi, .int .i64 3, .bool fa, .int .i64 bu] 38)) p0 p1 p2 p3
    rw [World.size_alloc] at this
    exact this.jk ((Jk.refl _).alloc _)
  have hz0 : PtB w0 (w.heap.size + 1 + 1) 0 0 0 0 := by
    rw [← hw0]
    have := PtB.laid ((w.alloc (.cells #[.int .i64 3, .int .i64 cl, .int .i64 ra, .int .i64 rb, .int .i64 rc, .int .i64 rd, .int .i64 re, .int .i64 rf, .int .i64 rg, .int .i64 rh, .int .i64 ri, .int .i64 rj, .int .i64 lo, .int .i64 hi, .int .i64 3, .bool fa, .int .i64 bu] 38)).alloc (.cells #[.int .i64 p0, .int .i64 p1, .int .i64 p2, .int .i64 p3] 70)) 0 0 0 0
    rwa [World.size_alloc, World.size_alloc] at this
  have HQ := hid HQ0
  have HPt := hid hp0
  have HZ := hid hz0
  clear HQ0 hp0 hz0
  go_enter Tryz.func55, Tryz.ntmps55
  go_upto_region 1 with fail
  refine wp_region_lit ?_
  refine list_loadQ rfl _ rfl HQ.out rfl ?_
  go_upto_region 2 with (first | (go_at_call 21; refine (HP.on _).mono ?_; rintro e w1 ⟨rfl, X1, hX1⟩; have HJ1 : Hid (Jk w0 w1) := ⟨X1, hX1⟩; clear hX1 X1))
  obtain ⟨pl, px0, px1, px2, px3⟩ := (HPt.out.jk HJ1.out).in
  obtain ⟨zl, zx0, zx1, zx2, zx3⟩ := (HZ.out.jk HJ1.out).in
  obtain ⟨q0, q1, q2, q3, q4, q5, q6, q7, q8, q9, q10, q11, q12, q13, q14, q15, q16⟩ := (HQ.out.jk HJ1.out).in
  simp only at q0 q1 q2 q3 q4 q5 q6 q7 q8 q9 q10 q11 q12 q13 q14 q15 q16
  have pf := (HPt.out.jk HJ1.out).frozen
  have zf := (HZ.out.jk HJ1.out).frozen
  go_wp2
  exact bodyPost_ret (by simp [results, Tryz.results55, go_sem, *]) rfl ⟨rfl, by repeat (with_reducible first | exact HJ0.out.trans HJ1.out | (refine Jk.set ?_ (by simp only; omega) _))⟩

theorem second_ans (q : Qy) (p : Int → Int) (t : Int) : Ans 55 #[queryV q, pointV p, .int .i64 t] (pointV (secondI q p t)) := fun w => by
  obtain ⟨b, hb⟩ := pair_bool q
  have HP := pairs_ans hb
  cases b
  · rw [secondI_no (fun h => by simpa using hb.2 h)]
    obtain ⟨kd, cl, ⟨⟨ra, rb⟩, ⟨rc, rd⟩, ⟨re, rf⟩, ⟨rg, rh⟩, ⟨ri, rj⟩⟩, lo, hi, f, fa, bu⟩ := q
    exact second_no kd f cl ra rb rc rd re rf rg rh ri rj lo hi bu fa _ _ _ _ t w HP
  · have hp := hb.1 rfl
    rw [secondI_yes hp]
    obtain ⟨kd, cl, ⟨⟨ra, rb⟩, ⟨rc, rd⟩, ⟨re, rf⟩, ⟨rg, rh⟩, ⟨ri, rj⟩⟩, lo, hi, f, fa, bu⟩ := q
    obtain ⟨h1, h2, h3⟩ := hp
    simp only at h1 h2 h3
    subst h1
    have hf : f = 0 ∨ f = 1 ∨ f = 2 ∨ f = 3 := by omega
    rcases hf with rfl | rfl | rfl | rfl
    · exact second_0 cl ra rb rc rd re rf rg rh ri rj lo hi bu fa _ _ _ _ t w HP
    · exact second_1 cl ra rb rc rd re rf rg rh ri rj lo hi bu fa _ _ _ _ t w HP
    · exact second_2 cl ra rb rc rd re rf rg rh ri rj lo hi bu fa _ _ _ _ t w HP
    · exact second_3 cl ra rb rc rd re rf rg rh ri rj lo hi bu fa _ _ _ _ t w HP

end Go.Proofs.YtkkbeobocbgmeaaGreat
