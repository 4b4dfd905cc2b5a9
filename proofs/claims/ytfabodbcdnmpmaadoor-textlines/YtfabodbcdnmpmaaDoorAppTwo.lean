/- A model's trees behind each other in a row of one's own, and one tree more. -/
import Derived.Test.YtfabodbcdnmpmaaDoorRowsF
import Derived.Test.YtfabodbcdnmpmaaDoorStart
namespace Go.Proofs.YtfabodbcdnmpmaaDoor
open Go.RowKit M

/-- an empty row that has a block -/
theorem own_empty (w : World) {b : Nat} (hb : b = w.heap.size) {B : Nat} (hB : B ≤ w.heap.size) : OwnT B (w.alloc (.cells #[] 29)) (.slice (some ⟨b, 0, none⟩) 0 0) 0 [] := by
  subst hb
  exact ⟨rfl, World.ownsRow_lit w #[] 0 hB (by unfold maxLen; omega) (by simp)⟩
/-- trees are appended onto an empty row (there may be none of them) -/
theorem run_app0 {B : Nat} {w : World} {b n c : Nat} {a : Option Addr} {ts : List Tr} (ty : TypeId) (hown : OwnT B w (.slice (some ⟨b, 0, none⟩) 0 0) 0 []) (hB : B ≤ w.heap.size) (hT : IsT w a n c ts) (hn : n ≤ 1000) :
    ∃ g' cap' w', (Builtin.append_ #[30, 30] ty #[.slice (some ⟨b, 0, none⟩) 0 0, .slice a n c]).run Tryd.prog w = .ok (.slice (some ⟨g', 0, none⟩) n cap') w' ∧
      OwnT B w' (.slice (some ⟨g', 0, none⟩) n cap') n ts ∧ w.grownBy w' (some b) := by
  by_cases h0 : n = 0
  · subst h0
    obtain rfl : ts = [] := List.eq_nil_of_length_eq_zero hT.len
    exact ⟨b, 0, w, run_appT0 ty b a c, hown, ⟨rfl, rfl, rfl, Nat.le_refl _, fun _ _ _ => rfl⟩⟩
  · obtain ⟨g, o, h1, h2, h3⟩ := hT.lies (by omega)
    obtain ⟨g', cap', w', r1, r2, r3, _⟩ := run_appT (ys := ts) ty hown hB a n c hT.len (by omega) ⟨g, o, h1, h3⟩ (by omega)
    rw [Nat.zero_add] at r1 r2
    exact ⟨g', cap', w', r1, by simpa using r2, by simpa [Value.ownBlock] using r3⟩
theorem wp_app0 {o : Oper} {act : Act} {K : Act → World → Prop} {Q : Exit → Act → World → Prop} {B : Nat} {w : World} {b n c : Nat} {a : Option Addr} {ts : List Tr} (s x : Operand) (ho : o.op = .call { callee := .builtin .append, args := #[s, x], argTypes := #[30, 30] })
    (hown : OwnT B w (.slice (some ⟨b, 0, none⟩) 0 0) 0 []) (hB : B ≤ w.heap.size) (hs : act.eval s = .slice (some ⟨b, 0, none⟩) 0 0) (hx : act.eval x = .slice a n c) (hT : IsT w a n c ts) (hn : n ≤ 1000)
    (h : ∀ g' c' w', OwnT B w' (.slice (some ⟨g', 0, none⟩) n c') n ts → w.grownBy w' (some b) → K (act.put o.dst (.slice (some ⟨g', 0, none⟩) n c')) w') : o.wp Tryd.prog act w K Q := by
  obtain ⟨g', cap', w', hrun, h2, h3⟩ := run_app0 o.type hown hB hT hn
  unfold Oper.wp execOp
  simp only [ho, resolve, invoke, builtin, Sem.run_bind, Sem.run_pure, Result.andThen_ok, List.map_toArray, List.map_cons, List.map_nil, hs, hx, hrun]
  exact h g' cap' w' h2 h3
theorem list_app0 {ops : Array Oper} {rest : List Oper} {o : Oper} {act : Act} {Q : Exit → Act → World → Prop} {B : Nat} {w : World} {b n c : Nat} {a : Option Addr} {ts : List Tr} (hgd : o.guard = none) (s x : Operand) (ho : o.op = .call { callee := .builtin .append, args := #[s, x], argTypes := #[30, 30] })
    (hown : OwnT B w (.slice (some ⟨b, 0, none⟩) 0 0) 0 []) (hB : B ≤ w.heap.size) (hs : act.eval s = .slice (some ⟨b, 0, none⟩) 0 0) (hx : act.eval x = .slice a n c) (hT : IsT w a n c ts) (hn : n ≤ 1000)
    (h : ∀ g' c' w', OwnT B w' (.slice (some ⟨g', 0, none⟩) n c') n ts → w.grownBy w' (some b) → wpList Tryd.prog ops Q rest (act.put o.dst (.slice (some ⟨g', 0, none⟩) n c')) w') : wpList Tryd.prog ops Q (o :: rest) act w :=
  wpList_plain hgd fun _ hK' => wp_app0 s x ho hown hB hs hx hT hn fun g' c' w' h1 h2 => hK' _ _ (h g' c' w' h1 h2)
/-- the trees of the row are right in memory, one more is -/
theorem isT_app {w : World} {B g c n : Nat} {ts : List Tr} {t : Tr} (ho : OwnT B w (.slice (some ⟨g, 0, none⟩) (n + 1) c) (n + 1) (ts ++ [t])) (hl : ts.length = n) (h1 : ∀ i, i < n → (tA ts i).ok w) (h2 : t.ok w) : IsT w (some ⟨g, 0, none⟩) (n + 1) c (ts ++ [t]) :=
  ho.isT fun i hi => by
    by_cases e : i < n
    · rw [tA_append_left _ _ _ (by omega)]; exact h1 i e
    · rw [tA_append_right _ _ _ (by omega), show i - ts.length = 0 by omega]; exact h2
theorem tA_last (ts : List Tr) (t : Tr) : tA (ts ++ [t]) ts.length = t := by simp [tA]
theorem nilW (w : World) : IsW w none 0 0 [] := ⟨rfl, Nat.le_refl _, by unfold maxLen; omega, fun i hi => by omega, fun h => by omega⟩
/-- the row with one tree more is laid into the model -/
theorem app_store {w1 wj wB wz : World} {h g2 c2 B : Nat} {m : Md} {t : Tr} (hM : MdB wj h m) (hJc : Jk w1 wj) (hJB : Jk wj wB) (hh : w1.heap.size ≤ h) (hok : m.ok w1) (hOB : OwnT B wB (.slice (some ⟨g2, 0, none⟩) (m.n + 1) c2) (m.n + 1) (m.ts ++ [t])) (hB : h < B)
    (ht : ∀ wz, wB.grownBy wz (some h) → t.ok wz) (hwz : wB.setCell ⟨h, 5, none⟩ (.slice (some ⟨g2, 0, none⟩) (m.n + 1) c2) = wz) :
    MdB wz h { m with a := some ⟨g2, 0, none⟩, n := m.n + 1, c := c2, ts := m.ts ++ [t] } ∧ Md.ok wz { m with a := some ⟨g2, 0, none⟩, n := m.n + 1, c := c2, ts := m.ts ++ [t] } ∧ Jk w1 wz := by
  have hJz : Jk w1 wz := hwz ▸ (hJc.trans hJB).set hh _
  refine ⟨hwz ▸ (hM.jk hJB).setT _ _ _ _, ⟨hok.fd, hok.fk, hok.f0, hok.f1, hok.f2, isT_app (B := B) ?_ hok.is.len (fun i hi => (hok.is.all i hi).jk hJz) (ht wz (hwz ▸ grown_set _ _ _ _))⟩, hJz⟩
  rw [← hwz]
  exact hOB.kept (grown_set _ _ _ _) (.inr (fun e => by have := hOB.base _ e; omega))

end Go.Proofs.YtfabodbcdnmpmaaDoor
