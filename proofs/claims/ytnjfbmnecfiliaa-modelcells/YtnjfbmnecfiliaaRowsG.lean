/- The numbers of which a model is made (copsekeep.Forest), in memory. -/
import Derived.Test.YtnjfbmnecfiliaaRowsF
import Derived.Test.YtnjfbmnecfiliaaNodesA
namespace Go.Proofs.Ytnjfbmnecfiliaa
open Go.RowKit M

/-- a slice of trees' numbers -/
structure IsSd (w : World) (a : Option Addr) (n c : Nat) (ss : Nat → Seed) : Prop where
  cap : n ≤ c
  max : c ≤ maxLen
  all : ∀ i, i < n → (ss i).ok w
  lies : 0 < n → ∃ g o, a = some ⟨g, o, none⟩ ∧ g < w.heap.size ∧ ∀ i, i < n → w.cell? ⟨g, o + i * 5, none⟩ = some (.int .i64 (ss i).cl) ∧ w.cell? ⟨g, o + i * 5 + 1, none⟩ = some (.slice (ss i).a1 (ss i).n1 (ss i).c1) ∧ w.cell? ⟨g, o + i * 5 + 2, none⟩ = some (.slice (ss i).a2 (ss i).n2 (ss i).c2) ∧ w.cell? ⟨g, o + i * 5 + 3, none⟩ = some (.slice (ss i).a3 (ss i).n3 (ss i).c3) ∧ w.cell? ⟨g, o + i * 5 + 4, none⟩ = some (.slice (ss i).a4 (ss i).n4 (ss i).c4)
theorem IsSd.jk {w w' : World} {a : Option Addr} {n c : Nat} {ss : Nat → Seed} (h : IsSd w a n c ss) (hj : Jk w w') : IsSd w' a n c ss :=
  ⟨h.cap, h.max, fun i hi => (h.all i hi).jk hj, fun h0 => by
    obtain ⟨g, o, h1, h2, h3⟩ := h.lies h0
    refine ⟨g, o, h1, Nat.lt_of_lt_of_le h2 hj.below.size, fun i hi => ?_⟩
    have q := h3 i hi
    have e := fun j => hj.below.cell (p := ⟨g, j, none⟩) h2
    rw [e, e, e, e, e]
    exact q⟩
structure Fo where
  d : Int
  k : Int
  ba : Option Addr
  bn : Nat
  bc : Nat
  bz : List Int
  sa : Option Addr
  sn : Nat
  sc : Nat
  ss : Nat → Seed
abbrev forestV (f : Fo) : Value := .agg #[.int .i64 f.d, .int .i64 f.k, .slice f.ba f.bn f.bc, .slice f.sa f.sn f.sc]
structure Fo.ok (w : World) (f : Fo) : Prop where
  fd : FitI f.d
  fk : FitI f.k
  bias : IsI w f.ba f.bn f.bc f.bz
  seeds : IsSd w f.sa f.sn f.sc f.ss
theorem Fo.ok.jk {w w' : World} {f : Fo} (h : f.ok w) (hj : Jk w w') : f.ok w' := ⟨h.fd, h.fk, h.bias.jk hj, h.seeds.jk hj⟩
/-- a model of the call's own: right; three features, four trees at most -/
def GotM (w : World) (e : Ending) (w' : World) : Prop :=
  ∃ m : Md, e = .returned (modelV m) ∧ RightM m ∧ m.d ≤ 3 ∧ m.n ≤ 4 ∧ FRow w.heap.size w' (.slice m.a m.n m.c) m.n m.ts ∧ Jk w w'
theorem fit_small {n : Int} (h1 : -4294967296 ≤ n) (h2 : n ≤ 4294967296) : FitI n := ⟨by omega, by omega⟩
theorem FRow.mdok {B : Nat} {w : World} {m : Md} (h : FRow B w (.slice m.a m.n m.c) m.n m.ts) (h1 : FitI m.d) (h2 : FitI m.k) (h3 : FitI m.b0) (h4 : FitI m.b1) (h5 : FitI m.b2) : m.ok w := ⟨h1, h2, h3, h4, h5, h.own.isT h.ok⟩
theorem RightM.mdok {B : Nat} {w : World} {m : Md} (hr : RightM m) (h : FRow B w (.slice m.a m.n m.c) m.n m.ts) : m.ok w := by
  obtain ⟨⟨f0, f1, f2⟩, _⟩ := hr.bias
  simp [fit32] at f0 f1 f2
  have := hr.d1; have := hr.d4; have := hr.k1; have := hr.k3
  exact h.mdok ⟨by omega, by omega⟩ ⟨by omega, by omega⟩ ⟨by omega, by omega⟩ ⟨by omega, by omega⟩ ⟨by omega, by omega⟩
/-- the biases of the first j classes are set -/
def BiasTo (j : Nat) (b0 b1 b2 : Int) : Prop := (-500 ≤ b0 ∧ b0 ≤ 500) ∧ (-500 ≤ b1 ∧ b1 ≤ 500) ∧ (-500 ≤ b2 ∧ b2 ≤ 500) ∧ (j ≤ 0 → b0 = 0) ∧ (j ≤ 1 → b1 = 0) ∧ (j ≤ 2 → b2 = 0)
theorem BiasTo.right {K : Nat} {b0 b1 b2 : Int} (h : BiasTo K b0 b1 b2) : BiasP K b0 b1 b2 := by
  obtain ⟨h1, h2, h3, h4, h5, h6⟩ := h
  refine ⟨⟨?_, ?_, ?_⟩, fun h => h4 (by omega), fun h => h5 (by omega), fun h => h6 (by omega)⟩ <;> simp [fit32] <;> omega

end Go.Proofs.Ytnjfbmnecfiliaa
