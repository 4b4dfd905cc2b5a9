/- Queries: what lies in memory; which are right for a model, in plain words; the queries that numbers make (copsekeep.Ask): each is right for a right model. No program's code is spoken of here. -/
import Derived.Test.YtndnijdpafcmoaaMathB
import Derived.Test.YtndnijdpafcmoaaModelE
import Derived.Test.YtndnijdpafcmoaaNodesA
namespace Go.Proofs.Ytndnijdpafcmoaa
open Go.RowKit M

structure Qy where
  kd : Int
  cl : Int
  rg : Bx
  lo : Int
  hi : Int
  f : Int
  fa : Bool
  bu : Int
abbrev queryV (q : Qy) : Value := .agg #[.int .i64 q.kd, .int .i64 q.cl, .int .i64 q.rg.a.lo, .int .i64 q.rg.a.hi, .int .i64 q.rg.b.lo, .int .i64 q.rg.b.hi, .int .i64 q.rg.c.lo, .int .i64 q.rg.c.hi, .int .i64 q.rg.d.lo, .int .i64 q.rg.d.hi, .int .i64 q.rg.e.lo, .int .i64 q.rg.e.hi, .int .i64 q.lo, .int .i64 q.hi, .int .i64 q.f, .bool q.fa, .int .i64 q.bu]
structure Qy.ok (q : Qy) : Prop where
  kd : FitI q.kd
  cl : FitI q.cl
  rg : q.rg.ok
  lo : FitI q.lo
  hi : FitI q.hi
  f : FitI q.f
  bu : FitI q.bu
/-- a span of a region that may be asked for -/
def spanR (s : Sp) : Prop := s.lo ≤ s.hi ∧ fit32 s.lo = true ∧ fit32 s.hi = true
instance (s : Sp) : Decidable (spanR s) := inferInstanceAs (Decidable (_ ∧ _))
def placeR (d i : Int) (s : Sp) : Prop := (i < d → spanR s) ∧ (d ≤ i → s.lo = 0 ∧ s.hi = 0)
def spansR (d : Int) (r : Bx) : Prop := placeR d 0 r.a ∧ placeR d 1 r.b ∧ placeR d 2 r.c ∧ placeR d 3 r.d ∧ placeR d 4 r.e
def kindR (m : Md) (q : Qy) : Prop := (q.kd = 1 ∧ q.lo ≤ q.hi ∧ q.f = 0 ∧ q.fa = false) ∨ (q.kd = 2 ∧ 2 ≤ m.k ∧ q.lo = 0 ∧ q.hi = 0 ∧ q.f = 0 ∧ q.fa = false) ∨ (q.kd = 3 ∧ 0 ≤ q.f ∧ q.f < m.d ∧ q.lo = 0 ∧ q.hi = 0)
structure RightQ (m : Md) (q : Qy) : Prop where
  mr : RightM m
  c0 : 0 ≤ q.cl
  c1 : q.cl < m.k
  b0 : 0 ≤ q.bu
  b1 : q.bu ≤ 65536
  sp : spansR m.d q.rg
  kd : kindR m q
open Classical in
theorem rightQ_bool (m : Md) (q : Qy) : ∃ b : Bool, b = true ↔ RightQ m q := ⟨decide (RightQ m q), by simp⟩

/-! numbers of a query -/
structure Ak where
  kd : Int
  cl : Int
  lo : Int
  sz : Int
  f : Int
  bu : Int
  fa : Bool
  sa : Option Addr
  sn : Nat
  sc : Nat
  sz' : List Int
abbrev askV (a : Ak) : Value := .agg #[.int .i64 a.kd, .int .i64 a.cl, .int .i64 a.lo, .int .i64 a.sz, .int .i64 a.f, .int .i64 a.bu, .bool a.fa, .slice a.sa a.sn a.sc]
structure Ak.ok (w : World) (a : Ak) : Prop where
  kd : FitI a.kd
  cl : FitI a.cl
  lo : FitI a.lo
  sz : FitI a.sz
  f : FitI a.f
  bu : FitI a.bu
  sp : IsI w a.sa a.sn a.sc a.sz'
theorem Ak.ok.jk {w w' : World} {a : Ak} (h : a.ok w) (hj : Jk w w') : a.ok w' := ⟨h.kd, h.cl, h.lo, h.sz, h.f, h.bu, h.sp.jk hj⟩
def spanI (l : List Int) (i : Nat) : Sp := ⟨withinI (pickI l (2 * i)) (-2) 9, withinI (pickI l (2 * i)) (-2) 9 + withinI (pickI l (2 * i + 1)) 0 11⟩
def regionI (d : Int) (l : List Int) : Bx := ⟨if 0 < d then spanI l 0 else Sp.nil, if 1 < d then spanI l 1 else Sp.nil, if 2 < d then spanI l 2 else Sp.nil, if 3 < d then spanI l 3 else Sp.nil, Sp.nil⟩
def kindI (a : Ak) (k : Int) : Int := if withinI a.kd 1 3 = 2 ∧ k < 2 then 1 else withinI a.kd 1 3
def queryI (a : Ak) (d k : Int) : Qy :=
  ⟨kindI a k, withinI a.cl 0 (k - 1), regionI d a.sz', if kindI a k = 1 then withinI a.lo (-9000) 9000 else 0, if kindI a k = 1 then withinI a.lo (-9000) 9000 + withinI a.sz 0 18000 else 0, if withinI a.kd 1 3 = 3 then withinI a.f 0 (d - 1) else 0, if withinI a.kd 1 3 = 3 then a.fa else false, withinI a.bu 0 65536⟩
theorem spanI_right (l : List Int) (i : Nat) : spanR (spanI l i) := by
  have h1 := within_bd (pickI l (2 * i)) (-2) 9 (by omega)
  have h2 := within_bd (pickI l (2 * i + 1)) 0 11 (by omega)
  exact ⟨by simp only [spanI]; omega, fit32_yes (by simp only [spanI]; omega) (by simp only [spanI]; omega), fit32_yes (by simp only [spanI]; omega) (by simp only [spanI]; omega)⟩
theorem region_right (d : Int) (l : List Int) (h4 : d ≤ 4) : spansR d (regionI d l) := by
  refine ⟨⟨fun h => ?_, fun h => ?_⟩, ⟨fun h => ?_, fun h => ?_⟩, ⟨fun h => ?_, fun h => ?_⟩, ⟨fun h => ?_, fun h => ?_⟩, ⟨fun h => ?_, fun h => ?_⟩⟩ <;> simp only [regionI]
  · rw [if_pos h]; exact spanI_right l 0
  · rw [if_neg (by omega)]; exact ⟨rfl, rfl⟩
  · rw [if_pos h]; exact spanI_right l 1
  · rw [if_neg (by omega)]; exact ⟨rfl, rfl⟩
  · rw [if_pos h]; exact spanI_right l 2
  · rw [if_neg (by omega)]; exact ⟨rfl, rfl⟩
  · rw [if_pos h]; exact spanI_right l 3
  · rw [if_neg (by omega)]; exact ⟨rfl, rfl⟩
  · omega
  · exact ⟨rfl, rfl⟩
theorem query_right (a : Ak) {m : Md} (hm : RightM m) : RightQ m (queryI a m.d m.k) := by
  have hd1 := hm.d1
  have hd4 := hm.d4
  have hk1 := hm.k1
  have hk3 := hm.k3
  have hc := within_bd a.cl 0 (m.k - 1) (by omega)
  have hb := within_bd a.bu 0 65536 (by omega)
  have hkd := within_bd a.kd 1 3 (by omega)
  have hsz := within_bd a.sz 0 18000 (by omega)
  have hf := within_bd a.f 0 (m.d - 1) (by omega)
  refine ⟨hm, hc.1, by simp only [queryI]; omega, hb.1, hb.2, region_right m.d a.sz' hd4, ?_⟩
  unfold kindR
  by_cases h2 : withinI a.kd 1 3 = 2
  · by_cases hk : m.k < 2
    · left
      have e : kindI a m.k = 1 := by unfold kindI; rw [if_pos ⟨h2, hk⟩]
      simp only [queryI, e, if_true, h2]
      refine ⟨trivial, by omega, ?_, ?_⟩ <;> rfl
    · right; left
      have e : kindI a m.k = 2 := by unfold kindI; rw [if_neg (by omega), h2]
      simp only [queryI, e, h2]
      refine ⟨trivial, by omega, ?_, ?_, ?_, ?_⟩ <;> rfl
  · have e : kindI a m.k = withinI a.kd 1 3 := by unfold kindI; rw [if_neg (fun h => h2 h.1)]
    by_cases h1 : withinI a.kd 1 3 = 1
    · left
      simp only [queryI, e, h1, if_true]
      refine ⟨trivial, by omega, ?_, ?_⟩ <;> rfl
    · have h3 : withinI a.kd 1 3 = 3 := by omega
      right; right
      simp only [queryI, e, h3, if_true]
      refine ⟨trivial, hf.1, by omega, ?_, ?_⟩ <;> rfl
/-- the place of a pair's second one, and the pair -/
def pairP (q : Qy) : Prop := q.kd = 3 ∧ 0 ≤ q.f ∧ q.f < 4
instance (q : Qy) : Decidable (pairP q) := inferInstanceAs (Decidable (_ ∧ _ ∧ _))
def startI (q : Qy) : Bx := { q.rg with e := if pairP q then q.rg.at q.f else Sp.nil }
/-- a point with another number at a place -/
def putP (p : Int → Int) (i x : Int) : Int → Int := fun j => if j = i then x else p j
def secondI (q : Qy) (p : Int → Int) (t : Int) : Int → Int := if pairP q then putP p q.f t else p

end Go.Proofs.Ytndnijdpafcmoaa
