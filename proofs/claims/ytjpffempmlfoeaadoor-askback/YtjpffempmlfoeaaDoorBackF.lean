/- Models that numbers made, laid into a block: what keeps them. No conditions. -/
import Derived.Test.YtjpffempmlfoeaaDoorForestA
import Derived.Test.YtjpffempmlfoeaaDoorStart
namespace Go.Proofs.YtjpffempmlfoeaaDoor
open Go.RowKit M

/-- a block for a model, not written yet; a model that numbers made -/
def Zr (w0 w : World) (v : Value) : Prop := ∃ h, v = .pointer (some ⟨h, 0, none⟩) ∧ w0.heap.size ≤ h ∧ MdB w h ⟨0, 0, 0, 0, 0, none, 0, 0, []⟩
def Gd (w0 w : World) (v : Value) : Prop := ∃ m : Md, v = modelV m ∧ RightM m ∧ m.d ≤ 3 ∧ m.n ≤ 4 ∧ FRow w0.heap.size w (.slice m.a m.n m.c) m.n m.ts
theorem Zr.jk {w0 w w' : World} {v : Value} (h : Zr w0 w v) (hj : Jk w w') : Zr w0 w' v := by
  obtain ⟨h, rfl, h1, h2⟩ := h
  exact ⟨h, rfl, h1, h2.jk hj⟩
theorem Gd.jk {w0 w w' : World} {v : Value} (h : Gd w0 w v) (hj : Jk w w') : Gd w0 w' v := by
  obtain ⟨m, rfl, h1, h2, h3, h4⟩ := h
  exact ⟨m, rfl, h1, h2, h3, h4.jk hj⟩
theorem GotM.gd {w0 w w' : World} {v : Value} (hj : Jk w0 w) (h : GotM w (.returned v) w') : Gd w0 w' v := by
  obtain ⟨m, e, h1, h2, h3, h4, _⟩ := h
  cases e
  exact ⟨m, rfl, h1, h2, h3, h4.mono hj.below.size⟩
theorem zr_new {w0 w : World} (hj : Jk w0 w) : Zr w0 (w.alloc (.cells #[.int .i64 0, .int .i64 0, .int .i64 0, .int .i64 0, .int .i64 0, .slice none 0 0] 41)) (.pointer (some ⟨w.heap.size, 0, none⟩)) :=
  ⟨_, rfl, hj.below.size, MdB.laid w ⟨0, 0, 0, 0, 0, none, 0, 0, []⟩⟩
theorem Zr.ne {w0 w : World} {v : Value} (h : Zr w0 w v) : v ≠ .pointer (some ⟨w.heap.size, 0, none⟩) := fun e => by
  obtain ⟨h, rfl, _, h2⟩ := h
  simp at e
  have := h2.lt
  omega

theorem FRow.apart {B : Nat} {w : World} {v : Value} {n b : Nat} {ts : List Tr} {m0 : Md} (h : FRow B w v n ts) (hp : ∀ i, i < n → 0 < (tA ts i).n) (hM : MdB w b m0) : v.ownBlock ≠ some b ∧ ∀ i, i < n → ∀ g, (tA ts i).a = some ⟨g, 0, none⟩ → g ≠ b := by
  constructor
  · intro e
    rcases h.own.2.2 with ⟨rfl, _⟩ | ⟨g, cap, cur, rfl, _, hg, _⟩
    · simp [Value.ownBlock] at e
    · simp [Value.ownBlock] at e
      subst e
      unfold MdB at hM
      rw [hM] at hg
      simp at hg
  · rintro i hi g e rfl
    obtain ⟨g', o', e2, _, hat⟩ := (h.ok i hi).is.lies (hp i hi)
    rw [e] at e2
    simp at e2
    obtain ⟨rfl, rfl⟩ := e2
    have h1 := hat 0 (by rw [(h.ok i hi).is.len]; exact hp i hi)
    have h2 := hM.in.2.1
    rw [Nat.zero_add, h2] at h1
    cases h1
theorem FRow.keep {B : Nat} {w w' : World} {v : Value} {n b : Nat} {ts : List Tr} {m0 : Md} (h : FRow B w v n ts) (hp : ∀ i, i < n → 0 < (tA ts i).n) (hM : MdB w b m0) (hg : w.grownBy w' (some b)) : FRow B w' v n ts := by
  obtain ⟨h1, h2⟩ := h.apart hp hM
  refine ⟨h.own.kept hg (.inr h1), fun i hi => ?_, fun i hi => ?_, h.small⟩
  · obtain ⟨g, q1, q2, q3, q4⟩ := h.each i hi
    exact ⟨g, q1, q2, Nat.lt_of_lt_of_le q3 hg.size, q4⟩
  · obtain ⟨g, q1, q2, q3, q4⟩ := h.each i hi
    refine ⟨(h.ok i hi).fit, (h.ok i hi).is.kept hg fun g' o e => ?_⟩
    rw [q1] at e
    simp at e
    intro e2
    simp at e2
    exact h2 i hi g q1 (by omega)
theorem RightM.pos {B : Nat} {w : World} {m : Md} (hr : RightM m) (h : FRow B w (.slice m.a m.n m.c) m.n m.ts) : ∀ i, i < m.n → 0 < (tA m.ts i).n := fun i hi => by
  have h1 := (hr.trees.2 i (by rw [h.own.1]; exact hi)).tree.full
  have h2 := (h.ok i hi).is.len
  omega
/-- a model is laid into a block -/
def putW (w : World) (h : Nat) (m : Md) : World := (((((w.setCell ⟨h, 0, none⟩ (.int .i64 m.d)).setCell ⟨h, 1, none⟩ (.int .i64 m.k)).setCell ⟨h, 2, none⟩ (.int .i64 m.b0)).setCell ⟨h, 3, none⟩ (.int .i64 m.b1)).setCell ⟨h, 4, none⟩ (.int .i64 m.b2)).setCell ⟨h, 5, none⟩ (.slice m.a m.n m.c)
theorem grown_putW (w : World) (h : Nat) (m : Md) : w.grownBy (putW w h m) (some h) := (((((grown_set w h 0 _).trans (grown_set _ h 1 _)).trans (grown_set _ h 2 _)).trans (grown_set _ h 3 _)).trans (grown_set _ h 4 _)).trans (grown_set _ h 5 _)
theorem MdB.putW {w : World} {h : Nat} {m0 : Md} (H : MdB w h m0) (m : Md) : MdB (putW w h m) h m := ((((((H.setD m.d).setK m.k).setB0 m.b0).setB1 m.b1).setB2 m.b2).setT m.a m.n m.c m.ts)
theorem Jk.putW {w0 w : World} {h : Nat} (hj : Jk w0 w) (hh : w0.heap.size ≤ h) (m : Md) : Jk w0 (putW w h m) := hj.grown (grown_putW w h m) (fun k hk => by cases hk; exact hh)

end Go.Proofs.YtjpffempmlfoeaaDoor
