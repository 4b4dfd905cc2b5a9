/- What Largest of a Set (package box) answers, over a map that lies in memory: the walk. -/
import Derived.Test.YtdmkaaehpcnpfaaBoxG
namespace Go.Proofs.Ytdmkaaehpcnpfaa
open Go.RowKit Go.Maps M

theorem invV {v : Value} {y : DataW Unit × List MemPlace} (h : plainElem Try.prog 3 v = some y) : ∃ c : Int, v = .int .i64 c := by
  obtain ⟨c, rfl, _⟩ := plainElem_int_inv Try.underlying3 h
  exact ⟨c, rfl⟩

theorem Jk.still {a w w1 : World} (h : Jk a w) (hg : w.grownBy w1 none) : Jk a w1 :=
  h.trans (Jk.of_below ⟨hg.os, hg.tape, hg.output, hg.size, fun k hk => hg.block k hk (by simp)⟩)
theorem elem_int {c : Int} {d : DataW Unit} {ps : List MemPlace} (h : plainElem Try.prog 3 (.int .i64 c) = some (d, ps)) : d = .lit (.int .i64 c) ∧ I64 c := by
  obtain ⟨c', e, e2, hw⟩ := plainElem_int_inv Try.underlying3 h
  cases e
  cases e2
  exact ⟨rfl, bdi hw⟩

/-- a box written over one that lay there -/
abbrev setBox (w : World) (g : Nat) (y : Bx) : World := (((((((((w.setCell ⟨g, 0, none⟩ (.int .i64 y.a.lo)).setCell ⟨g, 1, none⟩ (.int .i64 y.a.hi)).setCell ⟨g, 2, none⟩ (.int .i64 y.b.lo)).setCell ⟨g, 3, none⟩ (.int .i64 y.b.hi)).setCell ⟨g, 4, none⟩ (.int .i64 y.c.lo)).setCell ⟨g, 5, none⟩ (.int .i64 y.c.hi)).setCell ⟨g, 6, none⟩ (.int .i64 y.d.lo)).setCell ⟨g, 7, none⟩ (.int .i64 y.d.hi)).setCell ⟨g, 8, none⟩ (.int .i64 y.e.lo)).setCell ⟨g, 9, none⟩ (.int .i64 y.e.hi)
theorem grown_set {w0 w : World} {g i : Nat} {v : Value} (h : w0.grownBy w (some g)) : w0.grownBy (w.setCell ⟨g, i, none⟩ v) (some g) := by
  refine ⟨h.os, h.tape, h.output, ?_, fun k hk hne => ?_⟩
  · simpa [World.setCell] using h.size
  · rw [← h.block k hk hne]
    have : g ≠ k := fun e => hne (by rw [e])
    simp [World.setCell, Array.getElem?_modify, this]
theorem grown_refl (w : World) (r : Option Nat) : w.grownBy w r := ⟨rfl, rfl, rfl, Nat.le_refl _, fun _ _ _ => rfl⟩
theorem set_box {w : World} {g : Nat} {x : Bx} (h : w.heap[g]? = some (boxC x)) (y : Bx) : (setBox w g y).heap[g]? = some (boxC y) ∧ w.grownBy (setBox w g y) (some g) := by
  refine ⟨?_, ?_⟩
  · simp [World.setCell, Array.getElem?_modify, h]
  · repeat (with_reducible first | exact grown_refl _ _ | apply grown_set)
theorem Jk.grownN {w w' : World} (h : Jk w w') : w.grownBy w' none := ⟨h.below.os, h.below.tape, h.below.output, h.below.size, fun k hk _ => h.below.block k hk⟩
/-- the best of a map that has been seen whole -/
def Best (D : DataW Unit) (x : Bx) (k : Int) : Prop := Seen D (fun _ => false) false x k ∨ Seen D (fun _ => false) true x k
theorem best_of {D : DataW Unit} {f : Bool} {x : Bx} {k : Int} (h : Seen D (fun _ => false) f x k) : Best D x k := by
  cases f
  · exact Or.inl h
  · exact Or.inr h

set_option maxRecDepth 100000 in
set_option maxHeartbeats 4000000 in
theorem largest_any (b n : Nat) (D : DataW Unit) (w : World) (hown : Cnt w b n D) :
    Calls Try.prog 21 #[.map (some b)] w fun e w' => ∃ x k, e = .returned (.tuple #[boxV x, .int .i64 k]) ∧ Best D x k ∧ Jk w w' := by
  have J := rules8
  have HO : Hid (Cnt w b n D) := hown
  have hb := hown.lt
  clear hown
  have e1 : ((w.alloc (boxC nilB)).alloc (boxC nilB)).heap.size = w.heap.size + 1 + 1 := by simp
  go_enter Try.func21, Try.ntmps21
  go_wp2_with (first
    | (at_range; refine wpList_range_own _ rfl _ 30 rfl 25 3 lawBox Try.underlying30 _ b n _ rfl ((World.ownsMap.alloc HO.out _).alloc _) ?_; intro w0 hrg0 hg0 hs0)
    | go_in)
  go_frame
  rw [e1] at hrg0 hs0 ⊢
  go_loopw [5, 6] (fun m f wr => ∃ (left : Lit → Bool) (cnt : Nat) (x : Bx) (k : Int) (fb : Bool), wr.ranges Try.prog 25 (plainElem Try.prog 3) b (w.heap.size + 1 + 1) n D left cnt ∧ m = .int .i64 k ∧ f = .bool fb ∧
      wr.heap[w.heap.size + 1]? = some (boxC x) ∧ Jk (w.alloc (boxC nilB)) wr ∧ Seen D left fb x k)
    (fun _ _ wr => wr.rangeLeft b (w.heap.size + 1 + 1))
  case atStart =>
    refine ⟨_, _, nilB, 0, false, hrg0, rfl, rfl, ?_, ?_, seen_start D⟩
    · refine (hg0.block (w.heap.size + 1) (by simp) (by simp)).trans ?_
      rw [show w.heap.size + 1 = (w.alloc (boxC nilB)).heap.size by simp]
      exact heap_new _ _
    · exact ((Jk.refl _).alloc _).still hg0
  case round =>
    obtain ⟨left, cnt, x, k, fb, hrg, rfl, rfl, hx, hj, hs⟩ := hrel
    have HX : Hid (wr.heap[w.heap.size + 1]? = some (boxC x)) := hx
    have HJ : Hid (Jk (w.alloc (boxC nilB)) wr) := hj
    have HR : Hid (wr.ranges Try.prog 25 (plainElem Try.prog 3) b (w.heap.size + 1 + 1) n D left cnt) := hrg
    have HS : Hid (Seen D left fb x k) := hs
    clear hx hj hs hrg
    go_wp2_with (first
      | (at_next; refine wpList_next_ranges _ rfl _ rfl 25 lawBox (plainElem Try.prog 3) boxV (fun c => .int .i64 c) (fun key kl h => by obtain ⟨x, _, e⟩ := key_inv h; exact ⟨x, e⟩) (fun v y h => invV h) b (w.heap.size + 1 + 1) n _ _ _ rfl HR.out ?_ ?_)
      | go_in)
    · intro hc0 hl0
      have hf : left = fun _ => false := funext hl0
      have hx1 := HX.out
      have hx0 : wr.heap[w.heap.size]? = some (boxC nilB) := (HJ.out.heap (by simp)).trans (heap_new _ _)
      have hc4 := box_cells hx1
      have hc2 := box_cells hx0
      have hf2 := box_frozen hx0
      have l4 := lt_more (heap_lt hx1)
      have l2 := lt_more (heap_lt hx0)
      clear hx1 hx0 hc0 hl0
      go_wp2
      refine bodyPost_ret (v := .tuple #[boxV x, .int .i64 k]) (by simp [results, Try.results21, go_sem, hc2]) rfl ⟨x, k, rfl, best_of (by rw [← hf]; exact HS.out), ?_⟩
      exact (((Jk.refl w).alloc _).trans HJ.out).grown (b := w.heap.size) (by repeat (with_reducible first | exact grown_refl _ _ | apply grown_set)) (Nat.le_refl _)
    · intro y c kl zd zp w1 cnt1 hkey hlx hz hat hrg1 hlt hg1 hs1 hen
      obtain ⟨rfl, hc1, hc2⟩ := elem_int hz
      have hh : Hid (Maps.has D kl = true) := has_true_of_atKey hat
      have hx1 := (hg1.block _ (heap_lt HX.out) (by simp)).trans HX.out
      have HX1 : Hid (w1.heap[w.heap.size + 1]? = some (boxC x)) := hx1
      have HR1 : Hid (w1.ranges Try.prog 25 (plainElem Try.prog 3) b (w.heap.size + 1 + 1) n D (fun z => left z && !z.sameKey kl) cnt1) := hrg1
      have HJ1 : Hid (Jk (w.alloc (boxC nilB)) w1) := HJ.out.grown hg1 (by simp)
      have HL : Hid (cnt1 < cnt) := hlt
      have HA : Hid (∀ z, D.atKey kl z = .lit (.int .i64 c)) := hat
      have HK : Hid (keyOf Try.prog 25 (boxV y) = some kl) := hkey
      have hc4 := box_cells hx1
      have hf4 := box_frozen hx1
      have l4 := lt_more (heap_lt hx1)
      clear hx1 hrg1 hlt hat hkey hs1 hg1 hlx hz HX HJ
      cases fb
      · go_wp2
        have hset := set_box HX1.out y
        have hjj : Jk (setBox w1 (w.heap.size + 1) y) ((setBox w1 (w.heap.size + 1) y).alloc (boxC y)) := (Jk.refl _).alloc _
        have hrg2 := (HR1.out.kept hset.2 (fun e => by have := Option.some.inj e; omega) (fun e => by have := Option.some.inj e; omega)).kept hjj.grownN (by simp) (by simp)
        have hx2 := (hjj.heap (heap_lt hset.1)).trans hset.1
        have hj2 := (HJ1.out.grown hset.2 (by simp)).trans hjj
        go_roundw
        case rel => exact ⟨_, cnt1, y, c, true, hrg2, rfl, rfl, hx2, hj2, seen_first HS.out HK.out hh.out HA.out⟩
        case measure => rw [hrg2.left_eq, HR.out.left_eq]; exact HL.out
      · by_cases g1 : k < c
        · go_wp2
          have hset := set_box HX1.out y
          have hjj : Jk (setBox w1 (w.heap.size + 1) y) ((setBox w1 (w.heap.size + 1) y).alloc (boxC y)) := (Jk.refl _).alloc _
          have hrg2 := (HR1.out.kept hset.2 (fun e => by have := Option.some.inj e; omega) (fun e => by have := Option.some.inj e; omega)).kept hjj.grownN (by simp) (by simp)
          have hx2 := (hjj.heap (heap_lt hset.1)).trans hset.1
          have hj2 := (HJ1.out.grown hset.2 (by simp)).trans hjj
          go_roundw
          case rel => exact ⟨_, cnt1, y, c, true, hrg2, rfl, rfl, hx2, hj2, seen_take HS.out HK.out hh.out HA.out (Or.inl g1)⟩
          case measure => rw [hrg2.left_eq, HR.out.left_eq]; exact HL.out
        · by_cases g2 : c = k
          · subst g2
            cases hbf : y.bef x
            · have HB : Hid (y.bef x = false) := hbf
              clear hbf
              go_wp2_with (first | (go_at_call 30; refine (before_is HB.out _).mono ?_; rintro e w9 ⟨rfl, X1, rfl⟩))
              have hjj : Jk w1 (junk (w1.alloc (boxC y)) X1) := ((Jk.refl _).alloc _).junk _
              have hrg2 := HR1.out.kept hjj.grownN (by simp) (by simp)
              have hx2 := (hjj.heap (heap_lt HX1.out)).trans HX1.out
              have hj2 := HJ1.out.trans hjj
              go_roundw
              case rel => exact ⟨_, cnt1, x, c, true, hrg2, rfl, rfl, hx2, hj2, seen_leave HS.out HK.out HA.out (Or.inr ⟨rfl, HB.out⟩)⟩
              case measure => rw [hrg2.left_eq, HR.out.left_eq]; exact HL.out
            · have HB : Hid (y.bef x = true) := hbf
              clear hbf
              go_wp2_with (first | (go_at_call 30; refine (before_is HB.out _).mono ?_; rintro e w9 ⟨rfl, X1, rfl⟩))
              have hset := set_box HX1.out y
              have hjj : Jk (setBox w1 (w.heap.size + 1) y) (junk ((setBox w1 (w.heap.size + 1) y).alloc (boxC y)) X1) := ((Jk.refl _).alloc _).junk _
              have hrg2 := (HR1.out.kept hset.2 (fun e => by have := Option.some.inj e; omega) (fun e => by have := Option.some.inj e; omega)).kept hjj.grownN (by simp) (by simp)
              have hx2 := (hjj.heap (heap_lt hset.1)).trans hset.1
              have hj2 := (HJ1.out.grown hset.2 (by simp)).trans hjj
              go_roundw
              case rel => exact ⟨_, cnt1, y, c, true, hrg2, rfl, rfl, hx2, hj2, seen_take HS.out HK.out hh.out HA.out (Or.inr ⟨rfl, HB.out⟩)⟩
              case measure => rw [hrg2.left_eq, HR.out.left_eq]; exact HL.out
          · have g3 : c < k := by omega
            go_wp2
            have hjj : Jk w1 (w1.alloc (boxC y)) := (Jk.refl _).alloc _
            have hrg2 := HR1.out.kept hjj.grownN (by simp) (by simp)
            have hx2 := (hjj.heap (heap_lt HX1.out)).trans HX1.out
            have hj2 := HJ1.out.trans hjj
            go_roundw
            case rel => exact ⟨_, cnt1, x, k, true, hrg2, rfl, rfl, hx2, hj2, seen_leave HS.out HK.out HA.out (Or.inl g3)⟩
            case measure => rw [hrg2.left_eq, HR.out.left_eq]; exact HL.out

end Go.Proofs.Ytdmkaaehpcnpfaa
