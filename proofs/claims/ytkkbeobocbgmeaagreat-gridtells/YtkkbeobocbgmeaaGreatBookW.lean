/- What the books of memory (copsebook: Same, Roomy, Intact, Clamp) answer over rows of words and of ints; no row of more than 1000. -/
import Derived.Test.YtkkbeobocbgmeaaGreatRowsT
import Derived.Laws.CopyOwn
namespace Go.Proofs.YtkkbeobocbgmeaaGreat
open Go.RowKit M

def AtO (k : IntKind) (w : World) (a : Option Addr) (ws : List Int) : Prop := 0 < ws.length → ∃ g o, a = some ⟨g, o, none⟩ ∧ g < w.heap.size ∧ AtK k w g o ws
theorem AtO.jk {k : IntKind} {w w' : World} {a : Option Addr} {ws : List Int} (h : AtO k w a ws) (hj : Jk w w') : AtO k w' a ws := fun h0 => by
  obtain ⟨g, o, h1, h2, h3⟩ := h h0
  exact ⟨g, o, h1, Nat.lt_of_lt_of_le h2 hj.below.size, h3.jk hj h2⟩
theorem lit_atO (k : IntKind) (w : World) (zs : List Int) (e : TypeId) (b : Nat) (hb : b = w.heap.size) : AtO k (w.alloc (.cells (zs.map (Value.int k)).toArray e)) (some ⟨b, 0, none⟩) zs := fun _ =>
  ⟨b, 0, rfl, by rw [World.size_alloc]; omega, fun i hi => new_cells w _ e b hb (0 + i) _ (by simp [wd, hi])⟩
theorem IsW.atO {w : World} {a : Option Addr} {n c : Nat} {ws : List Int} (h : IsW w a n c ws) : AtO .u64 w a ws := fun h0 => h.lies (by rw [← h.len]; exact h0)

theorem same_ints {a1 a2 : Option Addr} {n c1 c2 : Nat} {zs : List Int} {w : World} (hn : zs.length = n) (hl : n ≤ 1000) (h1 : AtO .i64 w a1 zs) (h2 : AtO .i64 w a2 zs) :
    AnsW w 13 #[.slice a1 n c1, .slice a2 n c2] (.bool true) := fun w0 hj => by
  have H1 := hid (h1.jk hj)
  have H2 := hid (h2.jk hj)
  clear h1 h2 hj
  go_enter Tryz.func13, Tryz.ntmps13
  go_wp2
  go_loopg [5] n (fun k i wr => ∃ j : Nat, j + k = n ∧ i = .int .i64 (j : Int) ∧ Jk w0 wr)
  case atStart => exact ⟨0, by omega, rfl, Jk.refl _⟩
  case round =>
    obtain ⟨j, hj, rfl, hw⟩ := hrel
    have HW := hid hw
    clear hw
    by_cases hlt : j < n
    · obtain ⟨g1, o1, rfl, hg1, q1⟩ := H1.out (by omega)
      obtain ⟨g2, o2, rfl, hg2, q2⟩ := H2.out (by omega)
      have e1 : wr.cell? ⟨g1, o1 + j, none⟩ = some (.int .i64 (wd zs j)) := (q1.jk HW.out hg1) j (by omega)
      have e2 : wr.cell? ⟨g2, o2 + j, none⟩ = some (.int .i64 (wd zs j)) := (q2.jk HW.out hg2) j (by omega)
      have i0 : (0 : Int) ≤ (j : Int) := by omega
      have i1 : (j : Int) < (n : Int) := by omega
      clear q1 q2
      go_wp2
      go_quiet (fail)
      go_wp2
      go_roundg (gk - 1)
      case measure => omega
      case rel => exact ⟨j + 1, by omega, by go_num, HW.out.drewN _⟩
    · go_wp2
      go_ret
      exact ⟨rfl, HW.out⟩

end Go.Proofs.YtkkbeobocbgmeaaGreat
