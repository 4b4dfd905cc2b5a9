/- Queries: what lies in memory; which are right for a model, in plain words; the queries that numbers make (copsekeep.Ask): each is right for a right model. No program's code is spoken of here.
   The queries that numbers make: what copsekeep's Region and Ask.Query answer, number for number. -/
import Derived.Test.YtkkbeobocbgmeaaGreatMathB
import Derived.Test.YtkkbeobocbgmeaaGreatModelE
import Derived.Test.YtkkbeobocbgmeaaGreatNodesA
import Derived.Test.YtkkbeobocbgmeaaGreatWithinB
import Derived.Deep.RegionHeld3
namespace Go.Proofs.YtkkbeobocbgmeaaGreat
open Go.RowKit M

structure Qy where
  kd : Int
  cl : Int
  rg : Bx
  lo : Int
  hi : Int
  f : Int
  fa : Bool
  bu : Int
abbrev queryV (q : Qy) : Value := .agg #[.int .i64 q.kd, .int .i64 q.cl, .int .i64 q.rg.a.lo, .int .i64 q.rg.a.hi, .int .i64 q.rg.b.lo, .int .i64 q.rg.b.hi, .int .i64 q.rg.c.lo, .int .i64 q.rg.c.hi, .int .i64 q.rg.d.lo, .int .i64 q.rg.d.hi, .int .i64 q.rg.e.lo, .int .i64 q.rg.e.hi, .int .i64 q.lo, .int .i64 q.hi, .int .i64 q.f, .bool q.fa, .int .i64 q.bu]
structure Qy.ok (q : Qy) : Prop where
  kd : FitI q.kd
  cl : FitI q.cl
  rg : q.rg.ok
  lo : FitI q.lo
  hi : FitI q.hi
  f : FitI q.f
  bu : FitI q.bu
/-- a span of a region that may be asked for -/
def spanR (s : Sp) : Prop := s.lo ≤ s.hi ∧ fit32 s.lo = true ∧ fit32 s.hi = true
instance (s : Sp) : Decidable (spanR s) := inferInstanceAs (Decidable (_ ∧ _))
def placeR (d i : Int) (s : Sp) : Prop := (i < d → spanR s) ∧ (d ≤ i → s.lo = 0 ∧ s.hi = 0)
def spansR (d : Int) (r : Bx) : Prop := placeR d 0 r.a ∧ placeR d 1 r.b ∧ placeR d 2 r.c ∧ placeR d 3 r.d ∧ placeR d 4 r.e
def kindR (m : Md) (q : Qy) : Prop := (q.kd = 1 ∧ q.lo ≤ q.hi ∧ q.f = 0 ∧ q.fa = false) ∨ (q.kd = 2 ∧ 2 ≤ m.k ∧ q.lo = 0 ∧ q.hi = 0 ∧ q.f = 0 ∧ q.fa = false) ∨ (q.kd = 3 ∧ 0 ≤ q.f ∧ q.f < m.d ∧ q.lo = 0 ∧ q.hi = 0)
structure RightQ (m : Md) (q : Qy) : Prop where
  mr : RightM m
  c0 : 0 ≤ q.cl
  c1 : q.cl < m.k
  b0 : 0 ≤ q.bu
  b1 : q.bu ≤ 65536
  sp : spansR m.d q.rg
  kd : kindR m q
open Classical in
theorem rightQ_bool (m : Md) (q : Qy) : ∃ b : Bool, b = true ↔ RightQ m q := ⟨decide (RightQ m q), by simp⟩

/-! numbers of a query -/
structure Ak where
  kd : Int
  cl : Int
  lo : Int
  sz : Int
  f : Int
  bu : Int
  fa : Bool
  sa : Option Addr
  sn : Nat
  sc : Nat
  sz' : List Int
abbrev askV (a : Ak) : Value := .agg #[.int .i64 a.kd, .int .i64 a.cl, .int .i64 a.lo, .int .i64 a.sz, .int .i64 a.f, .int .i64 a.bu, .bool a.fa, .slice a.sa a.sn a.sc]
structure Ak.ok (w : World) (a : Ak) : Prop where
  kd : FitI a.kd
  cl : FitI a.cl
  lo : FitI a.lo
  sz : FitI a.sz
  f : FitI a.f
  bu : FitI a.bu
  sp : IsI w a.sa a.sn a.sc a.sz'
theorem Ak.ok.jk {w w' : World} {a : Ak} (h : a.ok w) (hj : Jk w w') : a.ok w' := ⟨h.kd, h.cl, h.lo, h.sz, h.f, h.bu, h.sp.jk hj⟩
def spanI (l : List Int) (i : Nat) : Sp := ⟨withinI (pickI l (2 * i)) (-2) 9, withinI (pickI l (2 * i)) (-2) 9 + withinI (pickI l (2 * i + 1)) 0 11⟩
def regionI (d : Int) (l : List Int) : Bx := ⟨if 0 < d then spanI l 0 else Sp.nil, if 1 < d then spanI l 1 else Sp.nil, if 2 < d then spanI l 2 else Sp.nil, if 3 < d then spanI l 3 else Sp.nil, Sp.nil⟩
def kindI (a : Ak) (k : Int) : Int := if withinI a.kd 1 3 = 2 ∧ k < 2 then 1 else withinI a.kd 1 3
def queryI (a : Ak) (d k : Int) : Qy :=
  ⟨kindI a k, withinI a.cl 0 (k - 1), regionI d a.sz', if kindI a k = 1 then withinI a.lo (-9000) 9000 else 0, if kindI a k = 1 then withinI a.lo (-9000) 9000 + withinI a.sz 0 18000 else 0, if withinI a.kd 1 3 = 3 then withinI a.f 0 (d - 1) else 0, if withinI a.kd 1 3 = 3 then a.fa else false, withinI a.bu 0 65536⟩
theorem spanI_right (l : List Int) (i : Nat) : spanR (spanI l i) := by
  have h1 := within_bd (pickI l (2 * i)) (-2) 9 (by omega)
  have h2 := within_bd (pickI l (2 * i + 1)) 0 11 (by omega)
  exact ⟨by simp only [spanI]; omega, fit32_yes (by simp only [spanI]; omega) (by simp only [spanI]; omega), fit32_yes (by simp only [spanI]; omega) (by simp only [spanI]; omega)⟩
theorem region_right (d : Int) (l : List Int) (h4 : d ≤ 4) : spansR d (regionI d l) := by
  refine ⟨⟨fun h => ?_, fun h => ?_⟩, ⟨fun h => ?_, fun h => ?_⟩, ⟨fun h => ?_, fun h => ?_⟩, ⟨fun h => ?_, fun h => ?_⟩, ⟨fun h => ?_, fun h => ?_⟩⟩ <;> simp only [regionI]
  · rw [if_pos h]; exact spanI_right l 0
  · rw [if_neg (by omega)]; exact ⟨rfl, rfl⟩
  · rw [if_pos h]; exact spanI_right l 1
  · rw [if_neg (by omega)]; exact ⟨rfl, rfl⟩
  · rw [if_pos h]; exact spanI_right l 2
  · rw [if_neg (by omega)]; exact ⟨rfl, rfl⟩
  · rw [if_pos h]; exact spanI_right l 3
  · rw [if_neg (by omega)]; exact ⟨rfl, rfl⟩
  · omega
  · exact ⟨rfl, rfl⟩
theorem query_right (a : Ak) {m : Md} (hm : RightM m) : RightQ m (queryI a m.d m.k) := by
  have hd1 := hm.d1
  have hd4 := hm.d4
  have hk1 := hm.k1
  have hk3 := hm.k3
  have hc := within_bd a.cl 0 (m.k - 1) (by omega)
  have hb := within_bd a.bu 0 65536 (by omega)
  have hkd := within_bd a.kd 1 3 (by omega)
  have hsz := within_bd a.sz 0 18000 (by omega)
  have hf := within_bd a.f 0 (m.d - 1) (by omega)
  refine ⟨hm, hc.1, by simp only [queryI]; omega, hb.1, hb.2, region_right m.d a.sz' hd4, ?_⟩
  unfold kindR
  by_cases h2 : withinI a.kd 1 3 = 2
  · by_cases hk : m.k < 2
    · left
      have e : kindI a m.k = 1 := by unfold kindI; rw [if_pos ⟨h2, hk⟩]
      simp only [queryI, e, if_true, h2]
      refine ⟨trivial, by omega, ?_, ?_⟩ <;> rfl
    · right; left
      have e : kindI a m.k = 2 := by unfold kindI; rw [if_neg (by omega), h2]
      simp only [queryI, e, h2]
      refine ⟨trivial, by omega, ?_, ?_, ?_, ?_⟩ <;> rfl
  · have e : kindI a m.k = withinI a.kd 1 3 := by unfold kindI; rw [if_neg (fun h => h2 h.1)]
    by_cases h1 : withinI a.kd 1 3 = 1
    · left
      simp only [queryI, e, h1, if_true]
      refine ⟨trivial, by omega, ?_, ?_⟩ <;> rfl
    · have h3 : withinI a.kd 1 3 = 3 := by omega
      right; right
      simp only [queryI, e, h3, if_true]
      refine ⟨trivial, hf.1, by omega, ?_, ?_⟩ <;> rfl
/-- the place of a pair's second one, and the pair -/
def pairP (q : Qy) : Prop := q.kd = 3 ∧ 0 ≤ q.f ∧ q.f < 4
instance (q : Qy) : Decidable (pairP q) := inferInstanceAs (Decidable (_ ∧ _ ∧ _))
def startI (q : Qy) : Bx := { q.rg with e := if pairP q then q.rg.at q.f else Sp.nil }
/-- a point with another number at a place -/
def putP (p : Int → Int) (i x : Int) : Int → Int := fun j => if j = i then x else p j
def secondI (q : Qy) (p : Int → Int) (t : Int) : Int → Int := if pairP q then putP p q.f t else p

end Go.Proofs.YtkkbeobocbgmeaaGreat

namespace Go.Proofs.YtkkbeobocbgmeaaGreat
open Go.RowKit M

theorem within_q {n lo hi r : Int} (hr : withinI n lo hi = r) (hn : FitI n) (h : lo ≤ hi) (h1 : -2305843009213693952 ≤ lo) (h2 : hi ≤ 2305843009213693952) : AnsP 7 #[.int .i64 n, .int .i64 lo, .int .i64 hi] (.int .i64 r) := fun w => by
  subst hr
  exact within_any n lo hi w hn.1 hn.2 h h1 h2
/-- the call answers v in every world that has grown from w, and leaves such a one -/
def AnsB (w : World) (f : Nat) (args : Array Value) (v : Value) : Prop := ∀ z : World, Jk w z → Calls Tryz.prog f args z fun e w' => e = .returned v ∧ Jk w w'
theorem AnsB.on {w : World} {f : Nat} {args : Array Value} {v : Value} (h : AnsB w f args v) (z : World) (hz : Jk w z) : Calls Tryz.prog f args z fun e w' => e = .returned v ∧ Jk w w' := h z hz
theorem AnsW.b {w : World} {f : Nat} {args : Array Value} {v : Value} (h : AnsW w f args v) : AnsB w f args v := fun z hz => (h z hz).mono fun _ _ ⟨e, hj⟩ => ⟨e, hz.trans hj⟩
theorem AnsW.up {w w1 : World} {f : Nat} {args : Array Value} {v : Value} (h : AnsW w f args v) (hj : Jk w w1) : AnsW w1 f args v := fun w2 h2 => h w2 (hj.trans h2)
/-- a box in a block of its own -/
def BxB (w : World) (h : Nat) (x : Bx) : Prop := w.heap[h]? = some (.cells #[.int .i64 x.a.lo, .int .i64 x.a.hi, .int .i64 x.b.lo, .int .i64 x.b.hi, .int .i64 x.c.lo, .int .i64 x.c.hi, .int .i64 x.d.lo, .int .i64 x.d.hi, .int .i64 x.e.lo, .int .i64 x.e.hi] 36 (0, 0))
abbrev boxW (x : Bx) : Value := .agg #[.int .i64 x.a.lo, .int .i64 x.a.hi, .int .i64 x.b.lo, .int .i64 x.b.hi, .int .i64 x.c.lo, .int .i64 x.c.hi, .int .i64 x.d.lo, .int .i64 x.d.hi, .int .i64 x.e.lo, .int .i64 x.e.hi]
theorem BxB.lt {w : World} {h : Nat} {x : Bx} (H : BxB w h x) : h < w.heap.size := (Array.getElem?_eq_some_iff.1 H).1
theorem BxB.jk {w w' : World} {h : Nat} {x : Bx} (H : BxB w h x) (hj : Jk w w') : BxB w' h x := (hj.below.block h H.lt).trans H
theorem BxB.by {w w' : World} {h g : Nat} {x : Bx} (H : BxB w h x) (hg : w.grownBy w' (some g)) (hne : h ≠ g) : BxB w' h x := (hg.block h H.lt (by simpa using hne)).trans H
theorem BxB.laid (w : World) (x : Bx) : BxB (w.alloc (.cells #[.int .i64 x.a.lo, .int .i64 x.a.hi, .int .i64 x.b.lo, .int .i64 x.b.hi, .int .i64 x.c.lo, .int .i64 x.c.hi, .int .i64 x.d.lo, .int .i64 x.d.hi, .int .i64 x.e.lo, .int .i64 x.e.hi] 36)) w.heap.size x := heap_alloc_new w _
theorem BxB.frozen {w : World} {h : Nat} {x : Bx} (H : BxB w h x) (q : Nat) : w.frozen? ⟨h, q, none⟩ = false := frozen_of_row _ _ _ _ _ H
theorem BxB.in {w : World} {h : Nat} {x : Bx} (H : BxB w h x) : w.cell? ⟨h, 0, none⟩ = some (.int .i64 x.a.lo) ∧ w.cell? ⟨h, 1, none⟩ = some (.int .i64 x.a.hi) ∧ w.cell? ⟨h, 2, none⟩ = some (.int .i64 x.b.lo) ∧ w.cell? ⟨h, 3, none⟩ = some (.int .i64 x.b.hi) ∧ w.cell? ⟨h, 4, none⟩ = some (.int .i64 x.c.lo) ∧ w.cell? ⟨h, 5, none⟩ = some (.int .i64 x.c.hi) ∧ w.cell? ⟨h, 6, none⟩ = some (.int .i64 x.d.lo) ∧ w.cell? ⟨h, 7, none⟩ = some (.int .i64 x.d.hi) ∧ w.cell? ⟨h, 8, none⟩ = some (.int .i64 x.e.lo) ∧ w.cell? ⟨h, 9, none⟩ = some (.int .i64 x.e.hi) := by
  refine ⟨?_, ?_, ?_, ?_, ?_, ?_, ?_, ?_, ?_, ?_⟩ <;> (rw [cell_of_row _ _ _ _ _ _ H]; rfl)
theorem BxB.putA {w : World} {h : Nat} {x : Bx} (H : BxB w h x) (s : Sp) : BxB ((w.setCell ⟨h, 0, none⟩ (.int .i64 s.lo)).setCell ⟨h, 1, none⟩ (.int .i64 s.hi)) h { x with a := s } := heap_setCell_same _ _ _ _ _ _ (heap_setCell_same _ _ _ _ _ _ H)
theorem BxB.putB {w : World} {h : Nat} {x : Bx} (H : BxB w h x) (s : Sp) : BxB ((w.setCell ⟨h, 2, none⟩ (.int .i64 s.lo)).setCell ⟨h, 3, none⟩ (.int .i64 s.hi)) h { x with b := s } := heap_setCell_same _ _ _ _ _ _ (heap_setCell_same _ _ _ _ _ _ H)
theorem BxB.putC {w : World} {h : Nat} {x : Bx} (H : BxB w h x) (s : Sp) : BxB ((w.setCell ⟨h, 4, none⟩ (.int .i64 s.lo)).setCell ⟨h, 5, none⟩ (.int .i64 s.hi)) h { x with c := s } := heap_setCell_same _ _ _ _ _ _ (heap_setCell_same _ _ _ _ _ _ H)
theorem BxB.putD {w : World} {h : Nat} {x : Bx} (H : BxB w h x) (s : Sp) : BxB ((w.setCell ⟨h, 6, none⟩ (.int .i64 s.lo)).setCell ⟨h, 7, none⟩ (.int .i64 s.hi)) h { x with d := s } := heap_setCell_same _ _ _ _ _ _ (heap_setCell_same _ _ _ _ _ _ H)
theorem BxB.putE {w : World} {h : Nat} {x : Bx} (H : BxB w h x) (s : Sp) : BxB ((w.setCell ⟨h, 8, none⟩ (.int .i64 s.lo)).setCell ⟨h, 9, none⟩ (.int .i64 s.hi)) h { x with e := s } := heap_setCell_same _ _ _ _ _ _ (heap_setCell_same _ _ _ _ _ _ H)
def putX (w : World) (h : Nat) (x : Bx) : World := (((((((((w.setCell ⟨h, 0, none⟩ (.int .i64 x.a.lo)).setCell ⟨h, 1, none⟩ (.int .i64 x.a.hi)).setCell ⟨h, 2, none⟩ (.int .i64 x.b.lo)).setCell ⟨h, 3, none⟩ (.int .i64 x.b.hi)).setCell ⟨h, 4, none⟩ (.int .i64 x.c.lo)).setCell ⟨h, 5, none⟩ (.int .i64 x.c.hi)).setCell ⟨h, 6, none⟩ (.int .i64 x.d.lo)).setCell ⟨h, 7, none⟩ (.int .i64 x.d.hi)).setCell ⟨h, 8, none⟩ (.int .i64 x.e.lo)).setCell ⟨h, 9, none⟩ (.int .i64 x.e.hi)
theorem putX_is {w : World} {h : Nat} {x0 : Bx} (H : BxB w h x0) (x : Bx) : BxB (putX w h x) h x := ((((H.putA x.a).putB x.b).putC x.c).putD x.d).putE x.e
theorem putX_jk {a w : World} (H : Jk a w) {h : Nat} (hb : a.heap.size ≤ h) (x : Bx) : Jk a (putX w h x) := ((((((((((H.set hb _).set hb _).set hb _).set hb _).set hb _).set hb _).set hb _).set hb _).set hb _).set hb _)
theorem grown_putX (w : World) (h : Nat) (x : Bx) : w.grownBy (putX w h x) (some h) := (((((((((grown_set w h 0 _).trans (grown_set _ h 1 _)).trans (grown_set _ h 2 _)).trans (grown_set _ h 3 _)).trans (grown_set _ h 4 _)).trans (grown_set _ h 5 _)).trans (grown_set _ h 6 _)).trans (grown_set _ h 7 _)).trans (grown_set _ h 8 _)).trans (grown_set _ h 9 _)
theorem regionI_0 (l : List Int) : { regionI ((0 : Nat) : Int) l with a := spanI l 0 } = regionI ((1 : Nat) : Int) l := by simp [regionI]
theorem regionI_1 (l : List Int) : { regionI ((1 : Nat) : Int) l with b := spanI l 1 } = regionI ((2 : Nat) : Int) l := by simp [regionI]
theorem regionI_2 (l : List Int) : { regionI ((2 : Nat) : Int) l with c := spanI l 2 } = regionI ((3 : Nat) : Int) l := by simp [regionI]
theorem regionI_3 (l : List Int) : { regionI ((3 : Nat) : Int) l with d := spanI l 3 } = regionI ((4 : Nat) : Int) l := by simp [regionI]

set_option maxRecDepth 100000 in
set_option maxHeartbeats 6400000 in
theorem region_ans {m : Md} {a : Option Addr} {n c : Nat} {zs : List Int} {ww : World} (h1 : 1 ≤ m.d) (h4 : m.d ≤ 4) (hI : IsI ww a n c zs) : AnsW ww 20 #[modelV m, .slice a n c] (boxW (regionI m.d zs)) := fun w hjw => by
  have J := rules8
  have HI := hid (hI.jk hjw)
  obtain ⟨d, k, b0, b1, b2, ma, mn, mc, ts⟩ := m
  simp only at h1 h4 ⊢
  obtain ⟨D, rfl⟩ := Int.eq_ofNat_of_zero_le (show 0 ≤ d by omega)
  obtain ⟨wz, hwz⟩ : ∃ wz, (w.alloc (.cells #[.int .i64 (D : Int), .int .i64 k, .int .i64 b0, .int .i64 b1, .int .i64 b2, .slice ma mn mc] 31)).alloc (.cells #[.int .i64 0, .int .i64 0, .int .i64 0, .int .i64 0, .int .i64 0, .int .i64 0, .int .i64 0, .int .i64 0, .int .i64 0, .int .i64 0] 36) = wz := ⟨_, rfl⟩
  obtain ⟨w0, hw0⟩ : ∃ w0, wz.alloc (.cells #[.int .i64 0, .int .i64 0, .int .i64 0, .int .i64 0, .int .i64 0, .int .i64 0, .int .i64 0, .int .i64 0, .int .i64 0, .int .i64 0] 36) = w0 := ⟨_, rfl⟩
  have hsz : wz.heap.size = w.heap.size + 1 + 1 := by rw [← hwz]; simp
  have HJz : Hid (Jk w wz) := hwz ▸ ((Jk.refl w).alloc _).alloc _
  have HJ0 : Hid (Jk wz w0) := hw0 ▸ (Jk.refl wz).alloc _
  have HM0 : Hid (wz.cell? ⟨w.heap.size, 0, none⟩ = some (.int .i64 (D : Int))) := by rw [← hwz]; show _ = _; simp
  have HR0 : Hid (BxB wz (w.heap.size + 1) Bx.nil) := by
    rw [← hwz]
    have := BxB.laid (w.alloc (.cells #[.int .i64 (D : Int), .int .i64 k, .int .i64 b0, .int .i64 b1, .int .i64 b2, .slice ma mn mc] 31)) Bx.nil
    rwa [World.size_alloc] at this
  have HB0 : Hid (BxB w0 (w.heap.size + 1 + 1) (regionI (0 : Nat) zs)) := by
    rw [← hw0, ← hsz]
    exact BxB.laid wz Bx.nil
  have m0 : w0.cell? ⟨w.heap.size, 0, none⟩ = some (.int .i64 (D : Int)) := (HJ0.out.below.cell (p := ⟨w.heap.size, 0, none⟩) (by simp only; omega)).trans HM0.out
  have HZ := hid hsz
  clear hI hjw
  go_enter Tryz.func20, Tryz.ntmps20
  go_upto_region 3 with fail
  go_loopg [10] D (fun r i wr => ∃ (j : Nat), i = .int .i64 (j : Int) ∧ j + r = D ∧ Hid (BxB wr (w.heap.size + 1 + 1) (regionI (j : Int) zs)) ∧ Hid (Jk wz wr))
  case atStart => exact ⟨0, rfl, by omega, by subst hw0; subst hwz; exact HB0, by subst hw0; subst hwz; exact HJ0⟩
  case round =>
    obtain ⟨j, rfl, hj, HB, HJ⟩ := hrel
    clear m0 HB0 HJ0
    have HJw : Hid (Jk w wr) := HJz.out.trans HJ.out
    by_cases hk : gk = 0
    · subst hk
      obtain rfl : j = D := by omega
      have HRr := hid (HR0.out.jk HJ.out)
      obtain ⟨X, hX⟩ : ∃ X, regionI (j : Int) zs = X := ⟨_, rfl⟩
      rw [hX] at HB
      have HX := hid hX
      clear hX
      obtain ⟨⟨xa, xb⟩, ⟨xc, xd⟩, ⟨xe, xg⟩, ⟨xh, xi⟩, ⟨xj, xk⟩⟩ := X
      have HE := hid (putX_is HRr.out ⟨⟨xa, xb⟩, ⟨xc, xd⟩, ⟨xe, xg⟩, ⟨xh, xi⟩, ⟨xj, xk⟩⟩)
      have HJf := hid (putX_jk HJw.out (h := w.heap.size + 1) (Nat.le_succ _) ⟨⟨xa, xb⟩, ⟨xc, xd⟩, ⟨xe, xg⟩, ⟨xh, xi⟩, ⟨xj, xk⟩⟩)
      simp only [putX] at HE HJf
      obtain ⟨x0, x1, x2, x3, x4, x5, x6, x7, x8, x9⟩ := HB.out.in
      obtain ⟨r0, r1, r2, r3, r4, r5, r6, r7, r8, r9⟩ := HRr.out.in
      obtain ⟨y0, y1, y2, y3, y4, y5, y6, y7, y8, y9⟩ := HE.out.in
      have rf := HRr.out.frozen
      have rl := HRr.out.lt
      simp only at x0 x1 x2 x3 x4 x5 x6 x7 x8 x9 y0 y1 y2 y3 y4 y5 y6 y7 y8 y9
      go_wp2
      exact bodyPost_ret (v := boxW ⟨⟨xa, xb⟩, ⟨xc, xd⟩, ⟨xe, xg⟩, ⟨xh, xi⟩, ⟨xj, xk⟩⟩) (by simp [results, Tryz.results20, go_sem, y0, y1, y2, y3, y4, y5, y6, y7, y8, y9]) rfl ⟨by rw [HX.out], HJf.out⟩
    · obtain ⟨r, rfl⟩ : ∃ r, gk = r + 1 := ⟨gk - 1, by omega⟩
      have hlt : (j : Int) < (D : Int) := by omega
      have hjc : j = 0 ∨ j = 1 ∨ j = 2 ∨ j = 3 := by omega
      rcases hjc with rfl | rfl | rfl | rfl
      · have HPa : Hid (AnsW w 18 #[.slice a n c, .int .i64 0] (.int .i64 (pickI zs 0))) := pick_is HI.out 0 rfl
        have HPb : Hid (AnsW w 18 #[.slice a n c, .int .i64 1] (.int .i64 (pickI zs 1))) := pick_is HI.out 1 rfl
        have ha := pick_bd HI.out 0
        have hb := pick_bd HI.out 1
        have HSp : Hid (spanI zs 0 = ⟨withinI (pickI zs 0) (-2) 9, withinI (pickI zs 0) (-2) 9 + withinI (pickI zs 1) 0 11⟩) := rfl
        obtain ⟨Pa, hPa⟩ : ∃ P, pickI zs 0 = P := ⟨_, rfl⟩
        obtain ⟨Pb, hPb⟩ : ∃ P, pickI zs 1 = P := ⟨_, rfl⟩
        rw [hPa] at HPa ha HSp
        rw [hPb] at HPb hb HSp
        have hL := within_bd Pa (-2) 9 (by omega)
        have hS := within_bd Pb 0 11 (by omega)
        have HWa := hid (within_q (n := Pa) (lo := -2) (hi := 9) rfl ha (by omega) (by omega) (by omega))
        have HWb := hid (within_q (n := Pb) (lo := 0) (hi := 11) rfl hb (by omega) (by omega) (by omega))
        obtain ⟨L, hLe⟩ : ∃ L, withinI Pa (-2) 9 = L := ⟨_, rfl⟩
        obtain ⟨Sz, hSe⟩ : ∃ L, withinI Pb 0 11 = L := ⟨_, rfl⟩
        rw [hLe] at hL HWa HSp
        rw [hSe] at hS HWb HSp
        have hws : IntKind.i64.wrap (L + Sz) = L + Sz := i64_in (by omega) (by omega)
        clear hPa hPb hLe hSe ha hb
        have HQa := hid ((HPa.out.up HJw.out).b)
        have HQb := hid ((HPb.out.up HJw.out).b)
        go_wp2_with (first
          | (go_at_call 18; refine (AnsB.on (by with_reducible first | exact HQa.out | exact HQb.out) _ (by first | exact Jk.refl _ | assumption)).mono ?_; rintro e w3 ⟨rfl, hj3⟩; have HB3 := hid (HB.out.jk hj3); obtain ⟨x0, x1, x2, x3, x4, x5, x6, x7, x8, x9⟩ := HB3.out.in; have xf := HB3.out.frozen; have xl := HB3.out.lt)
          | (go_at_call 7; refine (AnsP.on (by with_reducible first | exact HWa.out | exact HWb.out) _).mono ?_; rintro e w' ⟨rfl, hw⟩; obtain rfl := hw.symm))
        go_roundg r
        case measure => omega
        case rel =>
          have hput := HB3.out.putA ⟨L, L + Sz⟩
          rw [← HSp.out, regionI_0] at hput
          rw [HSp.out] at hput
          exact ⟨0 + 1, by go_num, by omega, hid hput, hid (((HJ.out.trans hj3).set (by have := HZ.out; simp only; omega) _).set (by have := HZ.out; simp only; omega) _)⟩
      · have HPa : Hid (AnsW w 18 #[.slice a n c, .int .i64 2] (.int .i64 (pickI zs 2))) := pick_is HI.out 2 rfl
        have HPb : Hid (AnsW w 18 #[.slice a n c, .int .i64 3] (.int .i64 (pickI zs 3))) := pick_is HI.out 3 rfl
        have ha := pick_bd HI.out 2
        have hb := pick_bd HI.out 3
        have HSp : Hid (spanI zs 1 = ⟨withinI (pickI zs 2) (-2) 9, withinI (pickI zs 2) (-2) 9 + withinI (pickI zs 3) 0 11⟩) := rfl
        obtain ⟨Pa, hPa⟩ : ∃ P, pickI zs 2 = P := ⟨_, rfl⟩
        obtain ⟨Pb, hPb⟩ : ∃ P, pickI zs 3 = P := ⟨_, rfl⟩
        rw [hPa] at HPa ha HSp
        rw [hPb] at HPb hb HSp
        have hL := within_bd Pa (-2) 9 (by omega)
        have hS := within_bd Pb 0 11 (by omega)
        have HWa := hid (within_q (n := Pa) (lo := -2) (hi := 9) rfl ha (by omega) (by omega) (by omega))
        have HWb := hid (within_q (n := Pb) (lo := 0) (hi := 11) rfl hb (by omega) (by omega) (by omega))
        obtain ⟨L, hLe⟩ : ∃ L, withinI Pa (-2) 9 = L := ⟨_, rfl⟩
        obtain ⟨Sz, hSe⟩ : ∃ L, withinI Pb 0 11 = L := ⟨_, rfl⟩
        rw [hLe] at hL HWa HSp
        rw [hSe] at hS HWb HSp
        have hws : IntKind.i64.wrap (L + Sz) = L + Sz := i64_in (by omega) (by omega)
        clear hPa hPb hLe hSe ha hb
        have HQa := hid ((HPa.out.up HJw.out).b)
        have HQb := hid ((HPb.out.up HJw.out).b)
        go_wp2_with (first
          | (go_at_call 18; refine (AnsB.on (by with_reducible first | exact HQa.out | exact HQb.out) _ (by first | exact Jk.refl _ | assumption)).mono ?_; rintro e w3 ⟨rfl, hj3⟩; have HB3 := hid (HB.out.jk hj3); obtain ⟨x0, x1, x2, x3, x4, x5, x6, x7, x8, x9⟩ := HB3.out.in; have xf := HB3.out.frozen; have xl := HB3.out.lt)
          | (go_at_call 7; refine (AnsP.on (by with_reducible first | exact HWa.out | exact HWb.out) _).mono ?_; rintro e w' ⟨rfl, hw⟩; obtain rfl := hw.symm))
        go_roundg r
        case measure => omega
        case rel =>
          have hput := HB3.out.putB ⟨L, L + Sz⟩
          rw [← HSp.out, regionI_1] at hput
          rw [HSp.out] at hput
          exact ⟨1 + 1, by go_num, by omega, hid hput, hid (((HJ.out.trans hj3).set (by have := HZ.out; simp only; omega) _).set (by have := HZ.out; simp only; omega) _)⟩
      · have HPa : Hid (AnsW w 18 #[.slice a n c, .int .i64 4] (.int .i64 (pickI zs 4))) := pick_is HI.out 4 rfl
        have HPb : Hid (AnsW w 18 #[.slice a n c, .int .i64 5] (.int .i64 (pickI zs 5))) := pick_is HI.out 5 rfl
        have ha := pick_bd HI.out 4
        have hb := pick_bd HI.out 5
        have HSp : Hid (spanI zs 2 = ⟨withinI (pickI zs 4) (-2) 9, withinI (pickI zs 4) (-2) 9 + withinI (pickI zs 5) 0 11⟩) := rfl
        obtain ⟨Pa, hPa⟩ : ∃ P, pickI zs 4 = P := ⟨_, rfl⟩
        obtain ⟨Pb, hPb⟩ : ∃ P, pickI zs 5 = P := ⟨_, rfl⟩
        rw [hPa] at HPa ha HSp
        rw [hPb] at HPb hb HSp
        have hL := within_bd Pa (-2) 9 (by omega)
        have hS := within_bd Pb 0 11 (by omega)
        have HWa := hid (within_q (n := Pa) (lo := -2) (hi := 9) rfl ha (by omega) (by omega) (by omega))
        have HWb := hid (within_q (n := Pb) (lo := 0) (hi := 11) rfl hb (by omega) (by omega) (by omega))
        obtain ⟨L, hLe⟩ : ∃ L, withinI Pa (-2) 9 = L := ⟨_, rfl⟩
        obtain ⟨Sz, hSe⟩ : ∃ L, withinI Pb 0 11 = L := ⟨_, rfl⟩
        rw [hLe] at hL HWa HSp
        rw [hSe] at hS HWb HSp
        have hws : IntKind.i64.wrap (L + Sz) = L + Sz := i64_in (by omega) (by omega)
        clear hPa hPb hLe hSe ha hb
        have HQa := hid ((HPa.out.up HJw.out).b)
        have HQb := hid ((HPb.out.up HJw.out).b)
        go_wp2_with (first
          | (go_at_call 18; refine (AnsB.on (by with_reducible first | exact HQa.out | exact HQb.out) _ (by first | exact Jk.refl _ | assumption)).mono ?_; rintro e w3 ⟨rfl, hj3⟩; have HB3 := hid (HB.out.jk hj3); obtain ⟨x0, x1, x2, x3, x4, x5, x6, x7, x8, x9⟩ := HB3.out.in; have xf := HB3.out.frozen; have xl := HB3.out.lt)
          | (go_at_call 7; refine (AnsP.on (by with_reducible first | exact HWa.out | exact HWb.out) _).mono ?_; rintro e w' ⟨rfl, hw⟩; obtain rfl := hw.symm))
        go_roundg r
        case measure => omega
        case rel =>
          have hput := HB3.out.putC ⟨L, L + Sz⟩
          rw [← HSp.out, regionI_2] at hput
          rw [HSp.out] at hput
          exact ⟨2 + 1, by go_num, by omega, hid hput, hid (((HJ.out.trans hj3).set (by have := HZ.out; simp only; omega) _).set (by have := HZ.out; simp only; omega) _)⟩
      · have HPa : Hid (AnsW w 18 #[.slice a n c, .int .i64 6] (.int .i64 (pickI zs 6))) := pick_is HI.out 6 rfl
        have HPb : Hid (AnsW w 18 #[.slice a n c, .int .i64 7] (.int .i64 (pickI zs 7))) := pick_is HI.out 7 rfl
        have ha := pick_bd HI.out 6
        have hb := pick_bd HI.out 7
        have HSp : Hid (spanI zs 3 = ⟨withinI (pickI zs 6) (-2) 9, withinI (pickI zs 6) (-2) 9 + withinI (pickI zs 7) 0 11⟩) := rfl
        obtain ⟨Pa, hPa⟩ : ∃ P, pickI zs 6 = P := ⟨_, rfl⟩
        obtain ⟨Pb, hPb⟩ : ∃ P, pickI zs 7 = P := ⟨_, rfl⟩
        rw [hPa] at HPa ha HSp
        rw [hPb] at HPb hb HSp
        have hL := within_bd Pa (-2) 9 (by omega)
        have hS := within_bd Pb 0 11 (by omega)
        have HWa := hid (within_q (n := Pa) (lo := -2) (hi := 9) rfl ha (by omega) (by omega) (by omega))
        have HWb := hid (within_q (n := Pb) (lo := 0) (hi := 11) rfl hb (by omega) (by omega) (by omega))
        obtain ⟨L, hLe⟩ : ∃ L, withinI Pa (-2) 9 = L := ⟨_, rfl⟩
        obtain ⟨Sz, hSe⟩ : ∃ L, withinI Pb 0 11 = L := ⟨_, rfl⟩
        rw [hLe] at hL HWa HSp
        rw [hSe] at hS HWb HSp
        have hws : IntKind.i64.wrap (L + Sz) = L + Sz := i64_in (by omega) (by omega)
        clear hPa hPb hLe hSe ha hb
        have HQa := hid ((HPa.out.up HJw.out).b)
        have HQb := hid ((HPb.out.up HJw.out).b)
        go_wp2_with (first
          | (go_at_call 18; refine (AnsB.on (by with_reducible first | exact HQa.out | exact HQb.out) _ (by first | exact Jk.refl _ | assumption)).mono ?_; rintro e w3 ⟨rfl, hj3⟩; have HB3 := hid (HB.out.jk hj3); obtain ⟨x0, x1, x2, x3, x4, x5, x6, x7, x8, x9⟩ := HB3.out.in; have xf := HB3.out.frozen; have xl := HB3.out.lt)
          | (go_at_call 7; refine (AnsP.on (by with_reducible first | exact HWa.out | exact HWb.out) _).mono ?_; rintro e w' ⟨rfl, hw⟩; obtain rfl := hw.symm))
        go_roundg r
        case measure => omega
        case rel =>
          have hput := HB3.out.putD ⟨L, L + Sz⟩
          rw [← HSp.out, regionI_3] at hput
          rw [HSp.out] at hput
          exact ⟨3 + 1, by go_num, by omega, hid hput, hid (((HJ.out.trans hj3).set (by have := HZ.out; simp only; omega) _).set (by have := HZ.out; simp only; omega) _)⟩
end Go.Proofs.YtkkbeobocbgmeaaGreat
