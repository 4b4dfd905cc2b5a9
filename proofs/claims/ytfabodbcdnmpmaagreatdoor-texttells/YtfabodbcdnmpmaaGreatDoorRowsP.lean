/- A model that is being read: a block of its own, its row of trees, each tree's row of words; what a number that is set, a tree more, a word more leave. No conditions. -/
import Derived.Test.YtfabodbcdnmpmaaGreatDoorRowsF
import Derived.Test.YtfabodbcdnmpmaaGreatDoorTextU
namespace Go.Proofs.YtfabodbcdnmpmaaGreatDoor
open Go.RowKit M

theorem ownU_nil (B : Nat) (w : World) : OwnU B w (.slice none 0 0) 0 [] := ⟨rfl, World.ownsRow_nil _ _ _ _⟩
/-- append of words onto a row of one's own -/
theorem run_appW {B : Nat} {w : World} {v : Value} {n : Nat} {xs ys : List Int} (ty : TypeId) (hown : OwnU B w v n xs) (hB : B ≤ w.heap.size) (b off m c : Nat) (hm : ys.length = m) (hp : 0 < m) (hx : AtK .u64 w b off ys) (hl : n + m ≤ 1000) :
    ∃ g' cap' w', (Builtin.append_ #[41, 41] ty #[v, .slice (some ⟨b, off, none⟩) m c]).run Tryz.prog w = .ok (.slice (some ⟨g', 0, none⟩) (n + m) cap') w' ∧
      OwnU B w' (.slice (some ⟨g', 0, none⟩) (n + m) cap') (n + m) (xs ++ ys) ∧ w.grownBy w' v.ownBlock ∧ (v.ownBlock = some g' ∨ g' = w.heap.size) := by
  obtain ⟨i0, hi0, hz0, hz1, hz2⟩ := info_parts infoU
  obtain ⟨g', cap', w', hr, h2, h3, h4, _⟩ := run_append_lies (P := Tryz.prog) w 41 ty B 55 i0 _ 1 8 Tryz.underlying41 hi0 hz0 hz1 hz2 rfl (by omega) v n (xs.map (Value.int .u64)) hown.2 ⟨b, off, none⟩ m c (ys.map (Value.int .u64)) (by simp [hm])
    (fun j u hu => by
      rw [add_at]
      have hj : j < ys.length := by
        have := (List.getElem?_eq_some_iff.1 hu).1
        simpa using this
      rw [hx j hj]
      simp [hj] at hu
      simp [wd, hj, hu]) (ints_one _ _) hp (by unfold maxLen; omega) (by omega) hB w.heap.size rfl
  exact ⟨g', cap', w', hr, ⟨by rw [List.length_append, hown.1, hm], by rw [List.map_append]; exact h2⟩, h3, h4⟩
theorem step_appW {ops : Array Oper} {o : Oper} {act : Act} {K : Act → World → Prop} {Q : Exit → Act → World → Prop} {E : Prop} {B : Nat} {w : World} {v : Value} {n : Nat} {xs ys : List Int}
    (hgd : o.guard = none) (s x : Operand) (ho : o.op = .call { callee := .builtin .append, args := #[s, x], argTypes := #[41, 41] })
    (hown : OwnU B w v n xs) (hB : B ≤ w.heap.size) (hs : act.eval s = v) (b off m c : Nat) (hm : ys.length = m) (hxv : act.eval x = .slice (some ⟨b, off, none⟩) m c) (hp : 0 < m) (hx : AtK .u64 w b off ys) (hl : n + m ≤ 1000) (r : Nat) (hr : n + m = r)
    (h : ∀ g' cap' w', OwnU B w' (.slice (some ⟨g', 0, none⟩) r cap') r (xs ++ ys) → w.grownBy w' v.ownBlock → (v.ownBlock = some g' ∨ g' = w.heap.size) → K (act.put o.dst (.slice (some ⟨g', 0, none⟩) r cap')) w') :
    if Region.wanted o (yielded ops act.tmps) = true then Oper.wp Tryz.prog o act w K Q else E := by
  subst hr
  have hw : Region.wanted o (yielded ops act.tmps) = true := by simp [Region.wanted, hgd]
  rw [if_pos hw]
  obtain ⟨g', cap', w', hrun, h2, h3, h4⟩ := run_appW (ys := ys) o.type hown hB b off m c hm hp hx hl
  unfold Oper.wp execOp
  simp only [ho, resolve, invoke, builtin, Sem.run_bind, Sem.run_pure, Result.andThen_ok, List.map_toArray, List.map_cons, List.map_nil, hs, hxv, hrun]
  exact h g' cap' w' h2 h3 h4

/-- a tree's words' value -/
abbrev wv (t : Tr) : Value := .slice t.a t.n t.c
theorem row_apart {B B' : Nat} {w : World} {v v' : Value} {n m : Nat} {L : List Tr} {zs : List Int} (h : OwnT B w v n L) (h' : OwnU B' w v' m zs) (k : Nat) (hk : v.ownBlock = some k) : v'.ownBlock ≠ some k := by
  rcases h.2.2 with ⟨rfl, _⟩ | ⟨g1, cap, cur, rfl, _, hg, _⟩
  · simp [Value.ownBlock] at hk
  · rcases h'.2.2 with ⟨rfl, _⟩ | ⟨g2, cap', cur', rfl, _, hg', _⟩
    · simp [Value.ownBlock]
    · simp [Value.ownBlock] at hk ⊢
      rintro rfl
      subst hk
      rw [hg] at hg'
      simp at hg'

structure PS (B : Nat) (w : World) (h : Nat) (m : Md) : Prop where
  box : MdB w h m
  lt : h < B
  sz : B ≤ w.heap.size
  own : OwnT B w (.slice m.a m.n m.c) m.n m.ts
  each : ∀ i, i < m.n → OwnU B w (wv (tA m.ts i)) (tA m.ts i).n (tA m.ts i).ws
  bd : ∀ i, i < m.n → FitI (tA m.ts i).cl ∧ ∀ j, j < (tA m.ts i).n → 0 ≤ wd (tA m.ts i).ws j ∧ wd (tA m.ts i).ws j ≤ 18446744073709551615
  last : ∀ i, i + 1 < m.n → ∀ k, (wv (tA m.ts (m.n - 1))).ownBlock = some k → (wv (tA m.ts i)).ownBlock ≠ some k
  fit : FitI m.d ∧ FitI m.k ∧ FitI m.b0 ∧ FitI m.b1 ∧ FitI m.b2

theorem PS.ok {B : Nat} {w : World} {h : Nat} {m : Md} (H : PS B w h m) : m.ok w :=
  ⟨H.fit.1, H.fit.2.1, H.fit.2.2.1, H.fit.2.2.2.1, H.fit.2.2.2.2, H.own.isT fun i hi => ⟨(H.bd i hi).1, (H.each i hi).isW (H.bd i hi).2⟩⟩
theorem PS.jk {B : Nat} {w w' : World} {h : Nat} {m : Md} (H : PS B w h m) (hj : Jk w w') : PS B w' h m :=
  ⟨H.box.jk hj, H.lt, Nat.le_trans H.sz hj.below.size, H.own.jk hj, fun i hi => (H.each i hi).jk hj, H.bd, H.last, H.fit⟩
/-- a block below is written to -/
theorem PS.ok_far {B : Nat} {w w' : World} {h g : Nat} {m : Md} (H : PS B w h m) (hg : w.grownBy w' (some g)) (hb : g < B) : m.ok w' := by
  have hne : ∀ v : Value, (∀ k, v.ownBlock = some k → B ≤ k) → v.ownBlock = none ∨ v.ownBlock ≠ some g := fun v hv => by
    right
    intro e
    have := hv g e
    omega
  exact ⟨H.fit.1, H.fit.2.1, H.fit.2.2.1, H.fit.2.2.2.1, H.fit.2.2.2.2, (H.own.kept hg (hne _ H.own.base)).isT fun i hi => ⟨(H.bd i hi).1, ((H.each i hi).kept hg (hne _ (H.each i hi).base)).isW (H.bd i hi).2⟩⟩
/-- the block alone is written to: its numbers -/
theorem PS.put {B : Nat} {w w' : World} {h : Nat} {m m' : Md} (H : PS B w h m) (hg : w.grownBy w' (some h)) (hb : MdB w' h m') (ea : m'.a = m.a) (en : m'.n = m.n) (ec : m'.c = m.c) (et : m'.ts = m.ts) (hf : FitI m'.d ∧ FitI m'.k ∧ FitI m'.b0 ∧ FitI m'.b1 ∧ FitI m'.b2) : PS B w' h m' := by
  have hne : ∀ v : Value, (∀ k, v.ownBlock = some k → B ≤ k) → v.ownBlock = none ∨ v.ownBlock ≠ some h := fun v hv => by
    right
    intro e
    have := hv h e
    have := H.lt
    omega
  refine ⟨hb, H.lt, Nat.le_trans H.sz hg.size, ?_, ?_, ?_, ?_, hf⟩
  · rw [ea, en, ec, et]
    exact H.own.kept hg (hne _ H.own.base)
  · rw [en, et]
    exact fun i hi => (H.each i hi).kept hg (hne _ (H.each i hi).base)
  · rw [en, et]
    exact H.bd
  · rw [en, et]
    exact H.last
/-- a row of its own is written to -/
theorem PS.box_own {B : Nat} {w w1 : World} {h : Nat} {m : Md} (H : PS B w h m) {v : Value} (hv : ∀ k, v.ownBlock = some k → B ≤ k) (hg : w.grownBy w1 v.ownBlock) : MdB w1 h m := (hg.block h H.box.lt (fun e => by
  have := hv h e.symm
  have := H.lt
  omega)).trans H.box
theorem PS.box_app {B : Nat} {w w1 : World} {h : Nat} {m : Md} (H : PS B w h m) (hg : w.grownBy w1 (Value.slice m.a m.n m.c).ownBlock) : MdB w1 h m := H.box_own H.own.base hg
/-- a tree without words more -/
theorem PS.add {B : Nat} {w w1 w2 : World} {h : Nat} {m : Md} (H : PS B w h m) {g c : Nat} {cl : Int} (ho : OwnT B w1 (.slice (some ⟨g, 0, none⟩) (m.n + 1) c) (m.n + 1) (m.ts ++ [⟨cl, none, 0, 0, []⟩])) (hg : w.grownBy w1 (Value.slice m.a m.n m.c).ownBlock) (hc : FitI cl)
    (h2 : w1.setCell ⟨h, 5, none⟩ (.slice (some ⟨g, 0, none⟩) (m.n + 1) c) = w2) : PS B w2 h { m with a := some ⟨g, 0, none⟩, n := m.n + 1, c := c, ts := m.ts ++ [⟨cl, none, 0, 0, []⟩] } := by
  have hne : ∀ v : Value, (∀ k, v.ownBlock = some k → B ≤ k) → v.ownBlock = none ∨ v.ownBlock ≠ some h := fun v hv => by
    right
    intro e
    have := hv h e
    have := H.lt
    omega
  have hl := H.own.1
  have hbox : MdB w1 h m := (hg.block h H.box.lt (fun e => by
    have := H.own.base h e.symm
    have := H.lt
    omega)).trans H.box
  have hg2 : w1.grownBy w2 (some h) := h2 ▸ grown_set _ _ _ _
  have hat : ∀ i, i < m.n + 1 → (tA (m.ts ++ [⟨cl, none, 0, 0, []⟩]) i = tA m.ts i ∧ i < m.n) ∨ (tA (m.ts ++ [⟨cl, none, 0, 0, []⟩]) i = ⟨cl, none, 0, 0, []⟩ ∧ i = m.n) := fun i hi => by
    by_cases e : i < m.n
    · exact .inl ⟨tA_append_left _ _ _ (by omega), e⟩
    · right
      rw [tA_append_right _ _ _ (by omega)]
      have : i - m.ts.length = 0 := by omega
      rw [this]
      exact ⟨rfl, by omega⟩
  refine ⟨h2 ▸ hbox.setT _ _ _ _, H.lt, Nat.le_trans H.sz (Nat.le_trans hg.size hg2.size), ho.kept hg2 (hne _ ho.base), ?_, ?_, ?_, H.fit⟩
  · intro i hi
    rcases hat i hi with ⟨e, h1⟩ | ⟨e, -⟩
    · have hu := H.each i h1
      rw [e]
      refine (hu.kept hg ?_).kept hg2 (hne _ hu.base)
      cases hv : (Value.slice m.a m.n m.c).ownBlock with
      | none =>
        cases hv2 : (wv (tA m.ts i)).ownBlock with
        | none => exact .inl rfl
        | some k => right; simp
      | some k => exact .inr (row_apart H.own hu k hv)
    · rw [e]
      exact ownU_nil _ _
  · intro i hi
    rcases hat i hi with ⟨e, h1⟩ | ⟨e, -⟩
    · rw [e]; exact H.bd i h1
    · rw [e]; exact ⟨hc, fun j hj => by simp at hj⟩
  · intro i hi k hk
    have hi' : i + 1 < m.n + 1 := hi
    rcases hat m.n (by omega) with ⟨_, h1⟩ | ⟨e, -⟩
    · omega
    · have e1 : m.n + 1 - 1 = m.n := by omega
      simp only [e1] at hk
      rw [e] at hk
      simp [Value.ownBlock] at hk

theorem last_of {ts : List Tr} (h : 0 < ts.length) : ∃ ts0 t, ts = ts0 ++ [t] ∧ ts0.length + 1 = ts.length ∧ tA ts (ts.length - 1) = t := by
  have hne : ts ≠ [] := by rintro rfl; simp at h
  refine ⟨ts.dropLast, ts.getLast hne, (List.dropLast_concat_getLast hne).symm, by simp; omega, ?_⟩
  rw [List.getLast_eq_getElem]
  simp [tA]
  rw [List.getElem?_eq_getElem (by omega)]
  rfl
theorem flatT_set_last (ts0 : List Tr) (t t' : Tr) (hc : t'.cl = t.cl) : (flatT (ts0 ++ [t])).set (ts0.length * 2 + 1) (.slice t'.a t'.n t'.c) = flatT (ts0 ++ [t']) := by
  rw [flatT_append, flatT_append, List.set_append_right _ _ (by rw [flatT_length]; omega), flatT_length]
  have e : ts0.length * 2 + 1 - ts0.length * 2 = 1 := by omega
  rw [e]
  simp [flatT, hc]
theorem row_cellP {w : World} {B : Nat} {e : TypeId} {size g n c : Nat} {xs : List Value} (h : w.ownsRow B e size (.slice (some ⟨g, 0, none⟩) n c) n xs) {j : Nat} (hj : j < n * size) : (∃ u, w.cell? ⟨g, j, none⟩ = some u) ∧ w.frozen? ⟨g, j, none⟩ = false := by
  refine ⟨⟨xs[j]'(by rw [h.1]; exact hj), ?_⟩, h.frozenAt j⟩
  rw [h.cellAt j hj]
  exact List.getElem?_eq_getElem _
/-- a word more for the last tree -/
theorem PS.word {B : Nat} {w w1 w2 : World} {h : Nat} {m : Md} (H : PS B w h m) {b : Nat} {ts0 : List Tr} {t : Tr} (hts : m.ts = ts0 ++ [t]) (ha : m.a = some ⟨b, 0, none⟩) {g c : Nat} {x : Int}
    (ho : OwnU B w1 (.slice (some ⟨g, 0, none⟩) (t.n + 1) c) (t.n + 1) (t.ws ++ [x])) (hg : w.grownBy w1 (wv t).ownBlock) (hgg : (wv t).ownBlock = some g ∨ g = w.heap.size) (hx : 0 ≤ x ∧ x ≤ 18446744073709551615)
    (h2 : w1.setCell ⟨b, ts0.length * 2 + 1, none⟩ (.slice (some ⟨g, 0, none⟩) (t.n + 1) c) = w2) : PS B w2 h { m with ts := ts0 ++ [⟨t.cl, some ⟨g, 0, none⟩, t.n + 1, c, t.ws ++ [x]⟩] } ∧ w1.cell? ⟨b, ts0.length * 2 + 1, none⟩ = some (wv t) ∧ w1.frozen? ⟨b, ts0.length * 2 + 1, none⟩ = false ∧ B ≤ b := by
  have hl := H.own.1
  have hn : m.n = ts0.length + 1 := by rw [← hl, hts]; simp
  have hown := H.own
  rw [ha, hts] at hown
  have hbB : B ≤ b := hown.base b rfl
  have hat : ∀ (u : Tr) i, i < m.n → (tA (ts0 ++ [u]) i = tA ts0 i ∧ i < ts0.length) ∨ (tA (ts0 ++ [u]) i = u ∧ i = ts0.length) := fun u i hi => by
    by_cases e : i < ts0.length
    · exact .inl ⟨tA_append_left _ _ _ (by omega), e⟩
    · right
      rw [tA_append_right _ _ _ (by omega)]
      have : i - ts0.length = 0 := by omega
      rw [this]
      exact ⟨rfl, by omega⟩
  have hlast : tA m.ts ts0.length = t := by
    rw [hts]
    rcases hat t ts0.length (by omega) with ⟨_, h1⟩ | ⟨e, -⟩
    · omega
    · exact e
  have htU := H.each ts0.length (by omega)
  rw [hlast] at htU
  have hbt : (wv t).ownBlock ≠ some b := row_apart hown htU b rfl
  -- behind the append
  have hown1 : OwnT B w1 (.slice (some ⟨b, 0, none⟩) m.n m.c) m.n (ts0 ++ [t]) := hown.kept hg (by
    cases hv : (wv t).ownBlock with
    | none => right; simp [Value.ownBlock]
    | some k => right; simp only [Value.ownBlock]; intro e; rw [← e] at hv; exact hbt hv)
  have hst := hown1.2.stored (ts0.length * 2 + 1) (.slice (some ⟨g, 0, none⟩) (t.n + 1) c)
  have hbox1 : MdB w1 h m := (hg.block h H.box.lt (fun e => by
    have := htU.base h e.symm
    have := H.lt
    omega)).trans H.box
  have hg2 : w1.grownBy w2 (some b) := h2 ▸ grown_set _ _ _ _
  have hgb : g ≠ b := by
    rcases hgg with e | e
    · rintro rfl; exact hbt e
    · have := (World.ownsRow.lt hown.2 b rfl).2
      omega
  have hbox2 : MdB w2 h m := hbox1.by hg2 (by have := H.lt; omega)
  have hrow := row_cellP hown1.2 (j := ts0.length * 2 + 1) (by omega)
  refine ⟨⟨hbox2, H.lt, Nat.le_trans H.sz (Nat.le_trans hg.size hg2.size), ?_, ?_, ?_, ?_, H.fit⟩, ?_, hrow.2, hbB⟩
  · refine ⟨by simp [hn], ?_⟩
    rw [← flatT_set_last ts0 t ⟨t.cl, some ⟨g, 0, none⟩, t.n + 1, c, t.ws ++ [x]⟩ rfl, ha]
    rw [h2] at hst
    exact hst.1
  · intro i hi
    rcases hat ⟨t.cl, some ⟨g, 0, none⟩, t.n + 1, c, t.ws ++ [x]⟩ i hi with ⟨e, h1⟩ | ⟨e, -⟩
    · have hu := H.each i hi
      have e0 : tA m.ts i = tA ts0 i := by rw [hts]; exact tA_append_left _ _ _ h1
      have hlk := H.last i (by omega)
      rw [show m.n - 1 = ts0.length by omega, hlast] at hlk
      rw [e0] at hu hlk
      simp only
      rw [e]
      have hub : (wv (tA ts0 i)).ownBlock ≠ some b := row_apart hown hu b rfl
      refine (hu.kept hg ?_).kept hg2 (.inr hub)
      cases hv : (wv t).ownBlock with
      | none =>
        cases hv2 : (wv (tA ts0 i)).ownBlock with
        | none => exact .inl rfl
        | some k => right; simp
      | some k => exact .inr (hlk k hv)
    · simp only
      rw [e]
      exact ho.kept hg2 (.inr (by simpa [Value.ownBlock] using hgb))
  · intro i hi
    rcases hat ⟨t.cl, some ⟨g, 0, none⟩, t.n + 1, c, t.ws ++ [x]⟩ i hi with ⟨e, h1⟩ | ⟨e, -⟩
    · have e0 : tA m.ts i = tA ts0 i := by rw [hts]; exact tA_append_left _ _ _ h1
      have hb := H.bd i hi
      rw [e0] at hb
      simp only
      rw [e]
      exact hb
    · have hb := H.bd ts0.length (by omega)
      rw [hlast] at hb
      simp only
      rw [e]
      refine ⟨hb.1, fun j hj => ?_⟩
      have hj' : j < t.n + 1 := hj
      have hwl : t.ws.length = t.n := htU.1
      by_cases e2 : j < t.n
      · have e3 : wd (t.ws ++ [x]) j = wd t.ws j := wd_append_left _ _ _ (by omega)
        simp only
        rw [e3]
        exact hb.2 j e2
      · have e3 : wd (t.ws ++ [x]) j = x := by
          have : j = t.ws.length := by omega
          subst this
          simp [wd]
        simp only
        rw [e3]
        exact hx
  · intro i hi k hk
    have hi' : i + 1 < m.n := hi
    have e0 : tA m.ts i = tA ts0 i := by rw [hts]; exact tA_append_left _ _ _ (by omega)
    have e1 : tA (ts0 ++ [⟨t.cl, some ⟨g, 0, none⟩, t.n + 1, c, t.ws ++ [x]⟩]) i = tA ts0 i := tA_append_left _ _ _ (by omega)
    have e2 : tA (ts0 ++ [⟨t.cl, some ⟨g, 0, none⟩, t.n + 1, c, t.ws ++ [x]⟩]) (m.n - 1) = ⟨t.cl, some ⟨g, 0, none⟩, t.n + 1, c, t.ws ++ [x]⟩ := by
      rcases hat ⟨t.cl, some ⟨g, 0, none⟩, t.n + 1, c, t.ws ++ [x]⟩ (m.n - 1) (by omega) with ⟨_, h1⟩ | ⟨e, -⟩
      · omega
      · exact e
    simp only [e2] at hk
    simp only
    rw [e1]
    simp [Value.ownBlock] at hk
    subst hk
    have hlk := H.last i hi'
    rw [show m.n - 1 = ts0.length by omega, hlast, e0] at hlk
    rcases hgg with e | e
    · exact hlk g e
    · intro e3
      have hu := H.each i (by omega)
      rw [e0] at hu
      have := (World.ownsRow.lt hu.2 g e3).2
      omega
  · have hc := hown1.2.cellAt (ts0.length * 2 + 1) (by omega)
    rw [hc, flatT_append, List.getElem?_append_right (by rw [flatT_length]; omega), flatT_length]
    have e : ts0.length * 2 + 1 - ts0.length * 2 = 1 := by omega
    rw [e]
    rfl

theorem PS.wordN {B : Nat} {w w1 w2 : World} {h : Nat} {m : Md} (H : PS B w h m) {b N : Nat} {ts0 : List Tr} {t : Tr} (hts : m.ts = ts0 ++ [t]) (hN : ts0.length = N) (ha : m.a = some ⟨b, 0, none⟩) {g c : Nat} {x : Int}
    (ho : OwnU B w1 (.slice (some ⟨g, 0, none⟩) (t.n + 1) c) (t.n + 1) (t.ws ++ [x])) (hg : w.grownBy w1 (wv t).ownBlock) (hgg : (wv t).ownBlock = some g ∨ g = w.heap.size) (hx : 0 ≤ x ∧ x ≤ 18446744073709551615)
    (h2 : w1.setCell ⟨b, N * 2 + 1, none⟩ (.slice (some ⟨g, 0, none⟩) (t.n + 1) c) = w2) : PS B w2 h { m with ts := ts0 ++ [⟨t.cl, some ⟨g, 0, none⟩, t.n + 1, c, t.ws ++ [x]⟩] } ∧ w1.cell? ⟨b, N * 2 + 1, none⟩ = some (wv t) ∧ w1.frozen? ⟨b, N * 2 + 1, none⟩ = false ∧ B ≤ b := by
  subst hN
  exact H.word hts ha ho hg hgg hx h2
theorem NdB.jk' {w w' : World} {b : Nat} {x : Nd} (h : NdB w b x) (hj : Jk w w') : NdB w' b x := (hj.below.block b h.lt).trans h
/-- the same append, in a plain list of operations -/
theorem list_appW {ops : Array Oper} {rest : List Oper} {o : Oper} {act : Act} {Q : Exit → Act → World → Prop} {B : Nat} {w : World} {v : Value} {n : Nat} {xs ys : List Int}
    (hgd : o.guard = none) (s x : Operand) (ho : o.op = .call { callee := .builtin .append, args := #[s, x], argTypes := #[41, 41] })
    (hown : OwnU B w v n xs) (hB : B ≤ w.heap.size) (hs : act.eval s = v) (b off m c : Nat) (hm : ys.length = m) (hxv : act.eval x = .slice (some ⟨b, off, none⟩) m c) (hp : 0 < m) (hx : AtK .u64 w b off ys) (hl : n + m ≤ 1000) (r : Nat) (hr : n + m = r)
    (h : ∀ g' cap' w', OwnU B w' (.slice (some ⟨g', 0, none⟩) r cap') r (xs ++ ys) → w.grownBy w' v.ownBlock → (v.ownBlock = some g' ∨ g' = w.heap.size) → wpList Tryz.prog ops Q rest (act.put o.dst (.slice (some ⟨g', 0, none⟩) r cap')) w') :
    wpList Tryz.prog ops Q (o :: rest) act w := by
  subst hr
  refine wpList_plain hgd fun K' hK' => ?_
  obtain ⟨g', cap', w', hrun, h2, h3, h4⟩ := run_appW (ys := ys) o.type hown hB b off m c hm hp hx hl
  unfold Oper.wp execOp
  simp only [ho, resolve, invoke, builtin, Sem.run_bind, Sem.run_pure, Result.andThen_ok, List.map_toArray, List.map_cons, List.map_nil, hs, hxv, hrun]
  exact hK' _ _ (h g' cap' w' h2 h3 h4)

theorem wp_appW {o : Oper} {act : Act} {K : Act → World → Prop} {Q : Exit → Act → World → Prop} {B : Nat} {w : World} {v : Value} {n : Nat} {xs ys : List Int}
    (s x : Operand) (ho : o.op = .call { callee := .builtin .append, args := #[s, x], argTypes := #[41, 41] })
    (hown : OwnU B w v n xs) (hB : B ≤ w.heap.size) (hs : act.eval s = v) (b off m c : Nat) (hm : ys.length = m) (hxv : act.eval x = .slice (some ⟨b, off, none⟩) m c) (hp : 0 < m) (hx : AtK .u64 w b off ys) (hl : n + m ≤ 1000) (r : Nat) (hr : n + m = r)
    (h : ∀ g' cap' w', OwnU B w' (.slice (some ⟨g', 0, none⟩) r cap') r (xs ++ ys) → w.grownBy w' v.ownBlock → (v.ownBlock = some g' ∨ g' = w.heap.size) → K (act.put o.dst (.slice (some ⟨g', 0, none⟩) r cap')) w') : o.wp Tryz.prog act w K Q := by
  subst hr
  obtain ⟨g', cap', w', hrun, h2, h3, h4⟩ := run_appW (ys := ys) o.type hown hB b off m c hm hp hx hl
  unfold Oper.wp execOp
  simp only [ho, resolve, invoke, builtin, Sem.run_bind, Sem.run_pure, Result.andThen_ok, List.map_toArray, List.map_cons, List.map_nil, hs, hxv, hrun]
  exact h g' cap' w' h2 h3 h4
/-- a world in which a cell and a node lie -/
structure NdC (bb off : Nat) (v : Value) (nb : Nat) (x : Nd) where
  w' : World
  c : w'.cell? ⟨bb, off, none⟩ = some v
  n : NdB w' nb x
theorem own_nd {B : Nat} {w : World} {v : Value} {n : Nat} {zs : List Int} {b : Nat} {x : Nd} (h : OwnU B w v n zs) (hn : NdB w b x) : v.ownBlock ≠ some b := by
  rcases h.2.2 with ⟨rfl, _⟩ | ⟨g, cap, cur, rfl, _, hg, _⟩
  · simp [Value.ownBlock]
  · simp [Value.ownBlock]
    rintro rfl
    unfold NdB at hn
    rw [hn] at hg
    simp at hg

end Go.Proofs.YtfabodbcdnmpmaaGreatDoor
