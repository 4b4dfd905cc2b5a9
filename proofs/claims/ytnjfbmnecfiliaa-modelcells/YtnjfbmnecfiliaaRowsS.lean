/- A slice of ints, of points that came in; the numbers of which a tree is made (copsekeep.Tree). -/
import Derived.Test.YtnjfbmnecfiliaaTreeB
namespace Go.Proofs.Ytnjfbmnecfiliaa
open Go.RowKit M

/-- a slice of ints -/
structure IsI (w : World) (a : Option Addr) (n c : Nat) (zs : List Int) : Prop where
  len : zs.length = n
  cap : n ≤ c
  max : c ≤ maxLen
  bd : ∀ i, i < n → -9223372036854775808 ≤ wd zs i ∧ wd zs i ≤ 9223372036854775807
  lies : 0 < n → ∃ g o, a = some ⟨g, o, none⟩ ∧ g < w.heap.size ∧ AtK .i64 w g o zs
theorem IsI.jk {w w' : World} {a : Option Addr} {n c : Nat} {ws : List Int} (h : IsI w a n c ws) (hj : Jk w w') : IsI w' a n c ws :=
  ⟨h.len, h.cap, h.max, h.bd, fun h0 => by
    obtain ⟨g, o, h1, h2, h3⟩ := h.lies h0
    exact ⟨g, o, h1, Nat.lt_of_lt_of_le h2 hj.below.size, h3.jk hj h2⟩⟩
def PtFit (p : Int → Int) : Prop := ∀ i, -9223372036854775808 ≤ p i ∧ p i ≤ 9223372036854775807
/-- a slice of points -/
structure IsP (w : World) (a : Option Addr) (n c : Nat) (ps : Nat → Int → Int) : Prop where
  cap : n ≤ c
  max : c ≤ maxLen
  bd : ∀ i, PtFit (ps i)
  lies : 0 < n → ∃ g o, a = some ⟨g, o, none⟩ ∧ g < w.heap.size ∧ ∀ i, i < n → w.cell? ⟨g, o + i * 4, none⟩ = some (.int .i64 (ps i 0)) ∧ w.cell? ⟨g, o + i * 4 + 1, none⟩ = some (.int .i64 (ps i 1)) ∧ w.cell? ⟨g, o + i * 4 + 2, none⟩ = some (.int .i64 (ps i 2)) ∧ w.cell? ⟨g, o + i * 4 + 3, none⟩ = some (.int .i64 (ps i 3))
theorem IsP.jk {w w' : World} {a : Option Addr} {n c : Nat} {ps : Nat → Int → Int} (h : IsP w a n c ps) (hj : Jk w w') : IsP w' a n c ps :=
  ⟨h.cap, h.max, h.bd, fun h0 => by
    obtain ⟨g, o, h1, h2, h3⟩ := h.lies h0
    refine ⟨g, o, h1, Nat.lt_of_lt_of_le h2 hj.below.size, fun i hi => ?_⟩
    have q := h3 i hi
    rw [hj.below.cell (p := ⟨g, o + i * 4, none⟩) h2, hj.below.cell (p := ⟨g, o + i * 4 + 1, none⟩) h2, hj.below.cell (p := ⟨g, o + i * 4 + 2, none⟩) h2, hj.below.cell (p := ⟨g, o + i * 4 + 3, none⟩) h2]
    exact q⟩
/-- the numbers of which a tree is made -/
structure Seed where
  cl : Int
  a1 : Option Addr
  n1 : Nat
  c1 : Nat
  z1 : List Int
  a2 : Option Addr
  n2 : Nat
  c2 : Nat
  z2 : List Int
  a3 : Option Addr
  n3 : Nat
  c3 : Nat
  z3 : List Int
  a4 : Option Addr
  n4 : Nat
  c4 : Nat
  z4 : List Int
abbrev seedV (s : Seed) : Value := .agg #[.int .i64 s.cl, .slice s.a1 s.n1 s.c1, .slice s.a2 s.n2 s.c2, .slice s.a3 s.n3 s.c3, .slice s.a4 s.n4 s.c4]
structure Seed.ok (w : World) (s : Seed) : Prop where
  p0 : -9223372036854775808 ≤ s.cl ∧ s.cl ≤ 9223372036854775807
  p1 : IsI w s.a1 s.n1 s.c1 s.z1
  p2 : IsI w s.a2 s.n2 s.c2 s.z2
  p3 : IsI w s.a3 s.n3 s.c3 s.z3
  p4 : IsI w s.a4 s.n4 s.c4 s.z4
theorem Seed.ok.jk {w w' : World} {s : Seed} (h : s.ok w) (hj : Jk w w') : s.ok w' := ⟨h.p0, h.p1.jk hj, h.p2.jk hj, h.p3.jk hj, h.p4.jk hj⟩

end Go.Proofs.Ytnjfbmnecfiliaa
