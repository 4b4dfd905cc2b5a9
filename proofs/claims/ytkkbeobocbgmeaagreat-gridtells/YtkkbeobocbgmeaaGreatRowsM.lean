/- A slice of ints, of points that came in; the numbers of which a tree is made (copsekeep.Tree).
   Trees and models in memory: what lies there, what of it is right, what it comes to. -/
import Derived.Test.YtkkbeobocbgmeaaGreatTreeA
import Derived.Test.YtkkbeobocbgmeaaGreatMathT
namespace Go.Proofs.YtkkbeobocbgmeaaGreat
open Go.RowKit M

/-- a slice of ints -/
structure IsI (w : World) (a : Option Addr) (n c : Nat) (zs : List Int) : Prop where
  len : zs.length = n
  cap : n ≤ c
  max : c ≤ maxLen
  bd : ∀ i, i < n → -9223372036854775808 ≤ wd zs i ∧ wd zs i ≤ 9223372036854775807
  lies : 0 < n → ∃ g o, a = some ⟨g, o, none⟩ ∧ g < w.heap.size ∧ AtK .i64 w g o zs
theorem IsI.jk {w w' : World} {a : Option Addr} {n c : Nat} {ws : List Int} (h : IsI w a n c ws) (hj : Jk w w') : IsI w' a n c ws :=
  ⟨h.len, h.cap, h.max, h.bd, fun h0 => by
    obtain ⟨g, o, h1, h2, h3⟩ := h.lies h0
    exact ⟨g, o, h1, Nat.lt_of_lt_of_le h2 hj.below.size, h3.jk hj h2⟩⟩
def PtFit (p : Int → Int) : Prop := ∀ i, -9223372036854775808 ≤ p i ∧ p i ≤ 9223372036854775807
/-- a slice of points -/
structure IsP (w : World) (a : Option Addr) (n c : Nat) (ps : Nat → Int → Int) : Prop where
  cap : n ≤ c
  max : c ≤ maxLen
  bd : ∀ i, PtFit (ps i)
  lies : 0 < n → ∃ g o, a = some ⟨g, o, none⟩ ∧ g < w.heap.size ∧ ∀ i, i < n → w.cell? ⟨g, o + i * 4, none⟩ = some (.int .i64 (ps i 0)) ∧ w.cell? ⟨g, o + i * 4 + 1, none⟩ = some (.int .i64 (ps i 1)) ∧ w.cell? ⟨g, o + i * 4 + 2, none⟩ = some (.int .i64 (ps i 2)) ∧ w.cell? ⟨g, o + i * 4 + 3, none⟩ = some (.int .i64 (ps i 3))
theorem IsP.jk {w w' : World} {a : Option Addr} {n c : Nat} {ps : Nat → Int → Int} (h : IsP w a n c ps) (hj : Jk w w') : IsP w' a n c ps :=
  ⟨h.cap, h.max, h.bd, fun h0 => by
    obtain ⟨g, o, h1, h2, h3⟩ := h.lies h0
    refine ⟨g, o, h1, Nat.lt_of_lt_of_le h2 hj.below.size, fun i hi => ?_⟩
    have q := h3 i hi
    rw [hj.below.cell (p := ⟨g, o + i * 4, none⟩) h2, hj.below.cell (p := ⟨g, o + i * 4 + 1, none⟩) h2, hj.below.cell (p := ⟨g, o + i * 4 + 2, none⟩) h2, hj.below.cell (p := ⟨g, o + i * 4 + 3, none⟩) h2]
    exact q⟩
/-- the numbers of which a tree is made -/
structure Seed where
  cl : Int
  a1 : Option Addr
  n1 : Nat
  c1 : Nat
  z1 : List Int
  a2 : Option Addr
  n2 : Nat
  c2 : Nat
  z2 : List Int
  a3 : Option Addr
  n3 : Nat
  c3 : Nat
  z3 : List Int
  a4 : Option Addr
  n4 : Nat
  c4 : Nat
  z4 : List Int
abbrev seedV (s : Seed) : Value := .agg #[.int .i64 s.cl, .slice s.a1 s.n1 s.c1, .slice s.a2 s.n2 s.c2, .slice s.a3 s.n3 s.c3, .slice s.a4 s.n4 s.c4]
structure Seed.ok (w : World) (s : Seed) : Prop where
  p0 : -9223372036854775808 ≤ s.cl ∧ s.cl ≤ 9223372036854775807
  p1 : IsI w s.a1 s.n1 s.c1 s.z1
  p2 : IsI w s.a2 s.n2 s.c2 s.z2
  p3 : IsI w s.a3 s.n3 s.c3 s.z3
  p4 : IsI w s.a4 s.n4 s.c4 s.z4
theorem Seed.ok.jk {w w' : World} {s : Seed} (h : s.ok w) (hj : Jk w w') : s.ok w' := ⟨h.p0, h.p1.jk hj, h.p2.jk hj, h.p3.jk hj, h.p4.jk hj⟩

end Go.Proofs.YtkkbeobocbgmeaaGreat

namespace Go.Proofs.YtkkbeobocbgmeaaGreat
open Go.RowKit M

def FitI (n : Int) : Prop := -9223372036854775808 ≤ n ∧ n ≤ 9223372036854775807
/-- a tree: its class, its words -/
structure Tr where
  cl : Int
  a : Option Addr
  n : Nat
  c : Nat
  ws : List Int
def Tr.nil : Tr := ⟨0, none, 0, 0, []⟩
def tA (ts : List Tr) (i : Nat) : Tr := ts.getD i Tr.nil
abbrev trV (t : Tr) : Value := .agg #[.int .i64 t.cl, .slice t.a t.n t.c]
structure Tr.ok (w : World) (t : Tr) : Prop where
  fit : FitI t.cl
  is : IsW w t.a t.n t.c t.ws
theorem Tr.ok.jk {w w' : World} {t : Tr} (h : t.ok w) (hj : Jk w w') : t.ok w' := ⟨h.fit, h.is.jk hj⟩
theorem tA_append_left (a b : List Tr) (i : Nat) (h : i < a.length) : tA (a ++ b) i = tA a i := by simp [tA, List.getElem?_append_left h]
theorem tA_append_right (a b : List Tr) (i : Nat) (h : a.length ≤ i) : tA (a ++ b) i = tA b (i - a.length) := by simp [tA, List.getElem?_append_right h]
theorem tA_take (a : List Tr) (k i : Nat) (h : i < k) : tA (a.take k) i = tA a i := by simp [tA, h]
/-- from place o of block g on, the trees ts -/
def AtT (w : World) (g o : Nat) (ts : List Tr) : Prop := ∀ i, i < ts.length → w.cell? ⟨g, o + i * 2, none⟩ = some (.int .i64 (tA ts i).cl) ∧ w.cell? ⟨g, o + i * 2 + 1, none⟩ = some (.slice (tA ts i).a (tA ts i).n (tA ts i).c)
theorem AtT.jk {w w' : World} {g o : Nat} {ts : List Tr} (h : AtT w g o ts) (hj : Jk w w') (hg : g < w.heap.size) : AtT w' g o ts :=
  fun i hi => by
    have q := h i hi
    rw [hj.below.cell (p := ⟨g, o + i * 2, none⟩) hg, hj.below.cell (p := ⟨g, o + i * 2 + 1, none⟩) hg]
    exact q
/-- a slice of trees -/
structure IsT (w : World) (a : Option Addr) (n c : Nat) (ts : List Tr) : Prop where
  len : ts.length = n
  cap : n ≤ c
  max : c ≤ maxLen
  all : ∀ i, i < n → (tA ts i).ok w
  lies : 0 < n → ∃ g o, a = some ⟨g, o, none⟩ ∧ g < w.heap.size ∧ AtT w g o ts
theorem IsT.jk {w w' : World} {a : Option Addr} {n c : Nat} {ts : List Tr} (h : IsT w a n c ts) (hj : Jk w w') : IsT w' a n c ts :=
  ⟨h.len, h.cap, h.max, fun i hi => (h.all i hi).jk hj, fun h0 => by
    obtain ⟨g, o, h1, h2, h3⟩ := h.lies h0
    exact ⟨g, o, h1, Nat.lt_of_lt_of_le h2 hj.below.size, h3.jk hj h2⟩⟩
theorem IsT.take {w : World} {a : Option Addr} {n c : Nat} {ts : List Tr} (h : IsT w a n c ts) (m : Nat) (hm : m ≤ n) : IsT w a m c (ts.take m) :=
  ⟨by have := h.len; simp; omega, by have := h.cap; omega, h.max, fun i hi => by rw [tA_take _ _ _ hi]; exact h.all i (by omega), fun h0 => by
    obtain ⟨g, o, h1, h2, h3⟩ := h.lies (by omega)
    refine ⟨g, o, h1, h2, fun i hi => ?_⟩
    simp at hi
    rw [tA_take _ _ _ (by omega)]
    exact h3 i (by omega)⟩
/-- a model -/
structure Md where
  d : Int
  k : Int
  b0 : Int
  b1 : Int
  b2 : Int
  a : Option Addr
  n : Nat
  c : Nat
  ts : List Tr
abbrev modelV (m : Md) : Value := .agg #[.int .i64 m.d, .int .i64 m.k, .int .i64 m.b0, .int .i64 m.b1, .int .i64 m.b2, .slice m.a m.n m.c]
structure Md.ok (w : World) (m : Md) : Prop where
  fd : FitI m.d
  fk : FitI m.k
  f0 : FitI m.b0
  f1 : FitI m.b1
  f2 : FitI m.b2
  is : IsT w m.a m.n m.c m.ts
theorem Md.ok.jk {w w' : World} {m : Md} (h : m.ok w) (hj : Jk w w') : m.ok w' := ⟨h.fd, h.fk, h.f0, h.f1, h.f2, h.is.jk hj⟩
/-- a right tree of a model of k classes, d features -/
structure TrP (k d : Int) (t : Tr) : Prop where
  lo : 0 ≤ t.cl
  hi : t.cl < k
  tree : TreeP t.ws d
def TrsP (k d : Int) (ts : List Tr) : Prop := ts.length ≤ 8 ∧ ∀ i, i < ts.length → TrP k d (tA ts i)
structure RightM (m : Md) : Prop where
  d1 : 1 ≤ m.d
  d4 : m.d ≤ 4
  k1 : 1 ≤ m.k
  k3 : m.k ≤ 3
  bias : BiasP m.k m.b0 m.b1 m.b2
  trees : TrsP m.k m.d m.ts
/-- a class's sum over the first j trees -/
def sumTo (ts : List Tr) (p : Int → Int) (c : Int) : Nat → Int
  | 0 => 0
  | j + 1 => sumTo ts p c j + (if (tA ts j).cl = c then valW (tA ts j).ws p else 0)
def Md.b (m : Md) (c : Int) : Int := if c = 0 then m.b0 else if c = 1 then m.b1 else m.b2
def Md.sum (m : Md) (p : Int → Int) (c : Int) : Int := m.b c + sumTo m.ts p c m.ts.length
theorem sumTo_bd (ts : List Tr) (p : Int → Int) (c : Int) (j : Nat) : -2147483648 * j ≤ sumTo ts p c j ∧ sumTo ts p c j ≤ 2147483647 * j := by
  induction j with
  | zero => simp [sumTo]
  | succ j ih =>
    have := valW_bd (tA ts j).ws p
    simp only [sumTo]
    split <;> omega
/-- how many words the first j trees have -/
def sizeTo (ts : List Tr) : Nat → Nat
  | 0 => 0
  | j + 1 => sizeTo ts j + (tA ts j).n

/-- a model that was laid in a block of its own -/
def MdIn (w : World) (h : Nat) (m : Md) : Prop := h < w.heap.size ∧ w.cell? ⟨h, 0, none⟩ = some (.int .i64 m.d) ∧ w.cell? ⟨h, 1, none⟩ = some (.int .i64 m.k) ∧ w.cell? ⟨h, 2, none⟩ = some (.int .i64 m.b0) ∧ w.cell? ⟨h, 3, none⟩ = some (.int .i64 m.b1) ∧ w.cell? ⟨h, 4, none⟩ = some (.int .i64 m.b2) ∧ w.cell? ⟨h, 5, none⟩ = some (.slice m.a m.n m.c)
theorem MdIn.jk {w w' : World} {h : Nat} {m : Md} (H : MdIn w h m) (hj : Jk w w') : MdIn w' h m := by
  obtain ⟨h0, h1, h2, h3, h4, h5, h6⟩ := H
  have e := fun i => hj.below.cell (p := ⟨h, i, none⟩) h0
  exact ⟨Nat.lt_of_lt_of_le h0 hj.below.size, (e 0).trans h1, (e 1).trans h2, (e 2).trans h3, (e 3).trans h4, (e 4).trans h5, (e 5).trans h6⟩
theorem MdIn.laid (w : World) (m : Md) (t : TypeId) : MdIn (w.alloc (.cells #[.int .i64 m.d, .int .i64 m.k, .int .i64 m.b0, .int .i64 m.b1, .int .i64 m.b2, .slice m.a m.n m.c] t)) w.heap.size m :=
  ⟨by simp, World.cell?_alloc_at _ _ _ _ rfl, World.cell?_alloc_at _ _ _ _ rfl, World.cell?_alloc_at _ _ _ _ rfl, World.cell?_alloc_at _ _ _ _ rfl, World.cell?_alloc_at _ _ _ _ rfl, World.cell?_alloc_at _ _ _ _ rfl⟩
theorem lt_more3 {n m : Nat} (h : n < m) : (∀ a : Nat, n < m + a) ∧ (∀ a b : Nat, n < m + a + b) ∧ (∀ a b c : Nat, n < m + a + b + c) := by
  refine ⟨?_, ?_, ?_⟩ <;> (intros; omega)
theorem lt_more8 {n m : Nat} (h : n < m) : (∀ a : Nat, n < m + a) ∧ (∀ a b : Nat, n < m + a + b) ∧ (∀ a b c : Nat, n < m + a + b + c) ∧ (∀ a b c d : Nat, n < m + a + b + c + d) ∧ (∀ a b c d e : Nat, n < m + a + b + c + d + e) ∧ (∀ a b c d e f : Nat, n < m + a + b + c + d + e + f) ∧ (∀ a b c d e f g : Nat, n < m + a + b + c + d + e + f + g) ∧ (∀ a b c d e f g i : Nat, n < m + a + b + c + d + e + f + g + i) := by
  refine ⟨?_, ?_, ?_, ?_, ?_, ?_, ?_, ?_⟩ <;> (intros; omega)

end Go.Proofs.YtkkbeobocbgmeaaGreat
