/- What copsekeep's Tree.Nodes answers: the words of a tree, for whatever numbers. -/
import Derived.Test.YtkkbeobocbgmeaaGreatNodesA
import Derived.Test.YtkkbeobocbgmeaaGreatMathT
import Derived.Test.YtkkbeobocbgmeaaGreatHeld
import Derived.Test.YtkkbeobocbgmeaaGreatRefNode
import Derived.Test.YtkkbeobocbgmeaaGreatTreeA
import Derived.Deep.DeepCutAuto
namespace Go.Proofs.YtkkbeobocbgmeaaGreat
open Go.RowKit M

/-- words of the call's own that are a tree -/
def GotT (w : World) (dim : Int) (e : Ending) (w' : World) : Prop :=
  ∃ g n c ws, e = .returned (.slice (some ⟨g, 0, none⟩) n c) ∧ IsW w' (some ⟨g, 0, none⟩) n c ws ∧ TreeP ws dim ∧ n ≤ 15 ∧ w.heap.size ≤ g ∧ Jk w w'

theorem own_lit {B b : Nat} (w : World) (cs : Array Value) (e : TypeId) (size n : Nat) (hb : b = w.heap.size) (hB : B ≤ w.heap.size) (hn : n ≤ 1000) (hs : cs.size = n * size) : (w.alloc (.cells cs e)).ownsRow B e size (.slice (some ⟨b, 0, none⟩) n n) n cs.toList := by
  subst hb
  exact World.ownsRow_lit w cs n hB (by unfold maxLen; omega) hs
theorem row_cell {w : World} {B : Nat} {e : TypeId} {size g n c : Nat} {xs : List Value} (h : w.ownsRow B e size (.slice (some ⟨g, 0, none⟩) n c) n xs) {j : Nat} (hj : j < n * size) : (∃ u, w.cell? ⟨g, j, none⟩ = some u) ∧ w.frozen? ⟨g, j, none⟩ = false := by
  refine ⟨⟨xs[j]'(by rw [h.1]; exact hj), ?_⟩, h.frozenAt j⟩
  rw [h.cellAt j hj]
  exact List.getElem?_eq_getElem _
theorem OwnN.store {B : Nat} {w : World} {g c n : Nat} {L : List Nd} (h : OwnN B w (.slice (some ⟨g, 0, none⟩) n c) n L) {A : Nat} (hA : A < n) (x : Nd) :
    ((∃ u, w.cell? ⟨g, A * 6, none⟩ = some u) ∧ w.frozen? ⟨g, A * 6, none⟩ = false) ∧
    ((∃ u, (w.setCell ⟨g, A * 6, none⟩ (.bool x.leaf)).cell? ⟨g, A * 6 + 1, none⟩ = some u) ∧ (w.setCell ⟨g, A * 6, none⟩ (.bool x.leaf)).frozen? ⟨g, A * 6 + 1, none⟩ = false) ∧
    ((∃ u, ((w.setCell ⟨g, A * 6, none⟩ (.bool x.leaf)).setCell ⟨g, A * 6 + 1, none⟩ (.int .i64 x.v)).cell? ⟨g, A * 6 + 2, none⟩ = some u) ∧ ((w.setCell ⟨g, A * 6, none⟩ (.bool x.leaf)).setCell ⟨g, A * 6 + 1, none⟩ (.int .i64 x.v)).frozen? ⟨g, A * 6 + 2, none⟩ = false) ∧
    ((∃ u, (((w.setCell ⟨g, A * 6, none⟩ (.bool x.leaf)).setCell ⟨g, A * 6 + 1, none⟩ (.int .i64 x.v)).setCell ⟨g, A * 6 + 2, none⟩ (.int .i64 x.f)).cell? ⟨g, A * 6 + 3, none⟩ = some u) ∧ (((w.setCell ⟨g, A * 6, none⟩ (.bool x.leaf)).setCell ⟨g, A * 6 + 1, none⟩ (.int .i64 x.v)).setCell ⟨g, A * 6 + 2, none⟩ (.int .i64 x.f)).frozen? ⟨g, A * 6 + 3, none⟩ = false) ∧
    ((∃ u, ((((w.setCell ⟨g, A * 6, none⟩ (.bool x.leaf)).setCell ⟨g, A * 6 + 1, none⟩ (.int .i64 x.v)).setCell ⟨g, A * 6 + 2, none⟩ (.int .i64 x.f)).setCell ⟨g, A * 6 + 3, none⟩ (.int .i64 x.a)).cell? ⟨g, A * 6 + 4, none⟩ = some u) ∧ ((((w.setCell ⟨g, A * 6, none⟩ (.bool x.leaf)).setCell ⟨g, A * 6 + 1, none⟩ (.int .i64 x.v)).setCell ⟨g, A * 6 + 2, none⟩ (.int .i64 x.f)).setCell ⟨g, A * 6 + 3, none⟩ (.int .i64 x.a)).frozen? ⟨g, A * 6 + 4, none⟩ = false) ∧
    ((∃ u, (((((w.setCell ⟨g, A * 6, none⟩ (.bool x.leaf)).setCell ⟨g, A * 6 + 1, none⟩ (.int .i64 x.v)).setCell ⟨g, A * 6 + 2, none⟩ (.int .i64 x.f)).setCell ⟨g, A * 6 + 3, none⟩ (.int .i64 x.a)).setCell ⟨g, A * 6 + 4, none⟩ (.int .i64 x.l)).cell? ⟨g, A * 6 + 5, none⟩ = some u) ∧ (((((w.setCell ⟨g, A * 6, none⟩ (.bool x.leaf)).setCell ⟨g, A * 6 + 1, none⟩ (.int .i64 x.v)).setCell ⟨g, A * 6 + 2, none⟩ (.int .i64 x.f)).setCell ⟨g, A * 6 + 3, none⟩ (.int .i64 x.a)).setCell ⟨g, A * 6 + 4, none⟩ (.int .i64 x.l)).frozen? ⟨g, A * 6 + 5, none⟩ = false) ∧
    OwnN B ((((((w.setCell ⟨g, A * 6, none⟩ (.bool x.leaf)).setCell ⟨g, A * 6 + 1, none⟩ (.int .i64 x.v)).setCell ⟨g, A * 6 + 2, none⟩ (.int .i64 x.f)).setCell ⟨g, A * 6 + 3, none⟩ (.int .i64 x.a)).setCell ⟨g, A * 6 + 4, none⟩ (.int .i64 x.l)).setCell ⟨g, A * 6 + 5, none⟩ (.int .i64 x.r)) (.slice (some ⟨g, 0, none⟩) n c) n (L.set A x) ∧
    w.grownBy ((((((w.setCell ⟨g, A * 6, none⟩ (.bool x.leaf)).setCell ⟨g, A * 6 + 1, none⟩ (.int .i64 x.v)).setCell ⟨g, A * 6 + 2, none⟩ (.int .i64 x.f)).setCell ⟨g, A * 6 + 3, none⟩ (.int .i64 x.a)).setCell ⟨g, A * 6 + 4, none⟩ (.int .i64 x.l)).setCell ⟨g, A * 6 + 5, none⟩ (.int .i64 x.r)) (some g) := by
  have s0 := h.2
  have s1 := s0.stored (A * 6) (.bool x.leaf)
  have s2 := s1.1.stored (A * 6 + 1) (.int .i64 x.v)
  have s3 := s2.1.stored (A * 6 + 2) (.int .i64 x.f)
  have s4 := s3.1.stored (A * 6 + 3) (.int .i64 x.a)
  have s5 := s4.1.stored (A * 6 + 4) (.int .i64 x.l)
  have s6 := s5.1.stored (A * 6 + 5) (.int .i64 x.r)
  refine ⟨row_cell s0 (by omega), row_cell s1.1 (by omega), row_cell s2.1 (by omega), row_cell s3.1 (by omega), row_cell s4.1 (by omega), row_cell s5.1 (by omega), ⟨by simpa using h.1, ?_⟩, ?_⟩
  · rw [flatN_set L A x (by rw [h.1]; exact hA)]
    exact s6.1
  · exact ((((s1.2.trans s2.2).trans s3.2).trans s4.2).trans s5.2).trans s6.2
/-- a row of nodes and a row of ints of one's own lie in two blocks -/
theorem own_apart {B B' : Nat} {w : World} {g c n g' c' m : Nat} {L : List Nd} {zs : List Int} (h : OwnN B w (.slice (some ⟨g, 0, none⟩) n c) n L) (h' : OwnI B' w (.slice (some ⟨g', 0, none⟩) m c') m zs) : g ≠ g' := by
  rcases h.2.2 with ⟨e, _⟩ | ⟨g1, cap, cur, e, _, hg, _⟩
  · simp at e
  · rcases h'.2.2 with ⟨e', _⟩ | ⟨g2, cap', cur', e', _, hg', _⟩
    · simp at e'
    · simp at e e'
      obtain ⟨rfl, _⟩ := e
      obtain ⟨rfl, _⟩ := e'
      intro h
      subst h
      rw [hg] at hg'
      simp at hg'
/-- how numbers part a tree, round by round -/
inductive St (z1 z2 z3 z4 : List Int) (dim : Int) : Nat → List Nd → List Int → Prop
  | zero : St z1 z2 z3 z4 dim 0 [ndLeaf (withinI (pickI z4 0) (-3000) 3000)] [0]
  | part {j : Nat} {L : List Nd} {lv : List Int} {k A : Nat} : St z1 z2 z3 z4 dim j L lv → withinI (wd z1 j) 0 (j : Int) = (k : Int) → wd lv k = (A : Int) →
      St z1 z2 z3 z4 dim (j + 1) (L.set A ⟨false, 0, withinI (pickI z2 j) 0 (dim - 1), withinI (pickI z3 j) 0 9, 2 * (j : Int) + 1, 2 * (j : Int) + 1 + 1⟩ ++ [ndLeaf (withinI (pickI z4 (2 * j + 1)) (-3000) 3000), ndLeaf (withinI (pickI z4 (2 * j + 2)) (-3000) 3000)]) (lvNext lv k (2 * (j : Int) + 1))
/-- the state of a round is a function of the numbers -/
theorem St.func {z1 z2 z3 z4 : List Int} {dim : Int} {j : Nat} {L : List Nd} {lv : List Int} (h : St z1 z2 z3 z4 dim j L lv) : ∀ {L' : List Nd} {lv' : List Int}, St z1 z2 z3 z4 dim j L' lv' → L = L' ∧ lv = lv' := by
  induction h with
  | zero => intro L' lv' h'; cases h'; exact ⟨rfl, rfl⟩
  | part h1 h2 h3 ih =>
    intro L' lv' h'
    cases h' with
    | part g1 g2 g3 =>
      obtain ⟨rfl, rfl⟩ := ih g1
      have e1 := Int.ofNat.inj (h2.symm.trans g2)
      subst e1
      have e2 := Int.ofNat.inj (h3.symm.trans g3)
      subst e2
      exact ⟨rfl, rfl⟩
def BuS (z1 z2 z3 z4 : List Int) (n1 : Nat) (dim : Int) (j : Nat) (L : List Nd) (lv : List Int) : Prop := Bush L lv dim ∧ St z1 z2 z3 z4 dim j L lv ∧ j ≤ n1
/-- words that are the tree of these numbers -/
def NodesOf (s : Seed) (dim : Int) (ws : List Int) : Prop := ∃ j L lv, j = min s.n1 7 ∧ St s.z1 s.z2 s.z3 s.z4 dim j L lv ∧ ws = L.map Nd.pack
theorem NodesOf.func {s : Seed} {dim : Int} {ws ws' : List Int} (h : NodesOf s dim ws) (h' : NodesOf s dim ws') : ws = ws' := by
  obtain ⟨j, L, lv, rfl, hS, rfl⟩ := h
  obtain ⟨j', L', lv', rfl, hS', rfl⟩ := h'
  rw [(hS.func hS').1]
def GotSd (s : Seed) (w : World) (dim : Int) (e : Ending) (w' : World) : Prop :=
  ∃ g n c ws, e = .returned (.slice (some ⟨g, 0, none⟩) n c) ∧ IsW w' (some ⟨g, 0, none⟩) n c ws ∧ TreeP ws dim ∧ n ≤ 15 ∧ w.heap.size ≤ g ∧ Jk w w' ∧ NodesOf s dim ws
/-- a round's state -/
def Rnd (w0 : World) (z1 z2 z3 z4 : List Int) (n1 : Nat) (dim : Int) (v5 v6 v7 : Value) (wr : World) (j : Nat) : Prop :=
  ∃ (L : List Nd) (lv : List Int) (gn cn gl cl : Nat), v7 = .int .i64 (j : Int) ∧ v5 = .slice (some ⟨gn, 0, none⟩) (2 * j + 1) cn ∧ v6 = .slice (some ⟨gl, 0, none⟩) (j + 1) cl ∧
    OwnN w0.heap.size wr v5 (2 * j + 1) L ∧ OwnI w0.heap.size wr v6 (j + 1) lv ∧ gn ≠ gl ∧ Jk w0 wr ∧ BuS z1 z2 z3 z4 n1 dim j L lv ∧ j ≤ 7

set_option maxRecDepth 100000 in
set_option maxHeartbeats 4000000 in
theorem nodes_is (s : Seed) (dim : Int) (w : World) (hs : s.ok w) (h1 : 1 ≤ dim) (h4 : dim ≤ 4) :
    Calls Tryz.prog 19 #[seedV s, .int .i64 dim] w fun e w' => GotSd s w dim e w' := by
  have J := rules8
  obtain ⟨cl, a1, n1, c1, z1, a2, n2, c2, z2, a3, n3, c3, z3, a4, n4, c4, z4⟩ := s
  obtain ⟨w0, hw0⟩ : ∃ w0, w.alloc (.cells #[.int .i64 cl, .slice a1 n1 c1, .slice a2 n2 c2, .slice a3 n3 c3, .slice a4 n4 c4] 56) = w0 := ⟨_, rfl⟩
  have HS : Hid (Seed.ok w0 ⟨cl, a1, n1, c1, z1, a2, n2, c2, z2, a3, n3, c3, z3, a4, n4, c4, z4⟩) := hw0 ▸ hs.jk ((Jk.refl w).alloc _)
  have HJ0 : Hid (Jk w w0) := hw0 ▸ (Jk.refl w).alloc _
  have HC : Hid (w0.cell? ⟨w.heap.size, 1, none⟩ = some (.slice a1 n1 c1) ∧ w0.cell? ⟨w.heap.size, 2, none⟩ = some (.slice a2 n2 c2) ∧ w0.cell? ⟨w.heap.size, 3, none⟩ = some (.slice a3 n3 c3) ∧ w0.cell? ⟨w.heap.size, 4, none⟩ = some (.slice a4 n4 c4)) := by
    rw [← hw0]
    exact ⟨World.cell?_alloc_at _ _ _ _ rfl, World.cell?_alloc_at _ _ _ _ rfl, World.cell?_alloc_at _ _ _ _ rfl, World.cell?_alloc_at _ _ _ _ rfl⟩
  have hlt : w.heap.size < w0.heap.size := by rw [← hw0]; simp
  have hc1 := hs.p1.cap
  have hm1 := hs.p1.max
  have hc4 := hs.p4.cap
  have hm4 := hs.p4.max
  unfold maxLen at hm1 hm4
  simp only at hc1 hm1 hc4 hm4
  clear hs
  show Calls Tryz.prog 19 #[.agg #[.int .i64 cl, .slice a1 n1 c1, .slice a2 n2 c2, .slice a3 n3 c3, .slice a4 n4 c4], .int .i64 dim] w fun e w' => GotSd ⟨cl, a1, n1, c1, z1, a2, n2, c2, z2, a3, n3, c3, z3, a4, n4, c4, z4⟩ w dim e w'
  go_enter Tryz.func19, Tryz.ntmps19
  go_upto_region 1 with fail
  obtain ⟨r0, hr0⟩ : ∃ r, pickI z4 0 = r := ⟨_, rfl⟩
  obtain ⟨v0, hv0⟩ : ∃ v, withinI r0 (-3000) 3000 = v := ⟨_, rfl⟩
  have br0 := hr0 ▸ pick_bd HS.out.p4 0
  have bv0 := hv0 ▸ within_bd r0 (-3000) 3000 (by decide)
  have HP0 := hid (pick_is HS.out.p4 0 hr0)
  have HW0 := hid (within_is hv0 br0.1 br0.2 (by decide) (by decide) (by decide))
  have hcs := HC.out
  obtain ⟨k1, k2, k3, k4⟩ := hcs
  have HBu := hid (show BuS z1 z2 z3 z4 n1 dim 0 [ndLeaf v0] [0] from ⟨bush_one bv0.1 bv0.2 dim, by rw [← hv0, ← hr0]; exact .zero, Nat.zero_le _⟩)
  clear hw0 hr0 hv0 br0 bv0
  go_wp2_with (first | (go_at_call 18; refine (HP0.out.on _ (by repeat (with_reducible first | exact Jk.refl _ | apply Jk.junk | apply Jk.alloc))).mono ?_; rintro e w1 ⟨rfl, X1, rfl⟩) | (go_at_call 7; refine (HW0.out.on _).mono ?_; rintro e w1 ⟨rfl, X2, rfl⟩))
  go_loopg [5, 6, 7] 7 (fun k v5 v6 v7 wr => ∃ j : Nat, j + k = 7 ∧ Rnd w0 z1 z2 z3 z4 n1 dim v5 v6 v7 wr j)
  case atStart =>
    refine ⟨0, rfl, [ndLeaf v0], [0], _, 1, _, 1, rfl, rfl, rfl, ⟨rfl, ?_⟩, ⟨rfl, ?_⟩, ?_, ?_, HBu.out, by decide⟩
    · exact row_below (own_lit _ _ 77 6 1 (by simp only [junk_size]) (by simp only [junk_size]; omega) (by decide) rfl) ((Jk.refl _).alloc _)
    · exact own_lit _ _ 3 1 1 (by simp only [World.size_alloc, junk_size]) (by simp only [World.size_alloc, junk_size]; omega) (by decide) rfl
    · omega
    · repeat (with_reducible first | exact Jk.refl _ | apply Jk.junk | apply Jk.alloc)
  case round =>
    obtain ⟨j, hjk, L, lv, gn, cn, gl, cl, rfl, rfl, rfl, hON, hOI, hne, hJ, hBu, hj7⟩ := hrel
    have HON := hid hON
    have HOI := hid hOI
    have HJ := hid hJ
    have HBu' := hid hBu
    have hszr := hJ.below.size
    have hL : L.length = 2 * j + 1 := hON.1
    have hlv : lv.length = j + 1 := hOI.1
    obtain ⟨hgn1, hgn2⟩ : w0.heap.size ≤ gn ∧ gn < wr.heap.size := World.ownsRow.lt hON.2 gn rfl
    obtain ⟨hgl1, hgl2⟩ : w0.heap.size ≤ gl ∧ gl < wr.heap.size := World.ownsRow.lt hOI.2 gl rfl
    obtain ⟨_, _, e1, hcn, hcn2, _⟩ := row_form hON.2
    obtain ⟨_, _, e2, hcl, hcl2, _⟩ := row_form hOI.2
    cases e1
    cases e2
    unfold maxLen at hcn2 hcl2
    have k1' : wr.cell? ⟨w.heap.size, 1, none⟩ = some (.slice a1 n1 c1) := (hJ.below.cell (p := ⟨w.heap.size, 1, none⟩) hlt).trans k1
    have k2' : wr.cell? ⟨w.heap.size, 2, none⟩ = some (.slice a2 n2 c2) := (hJ.below.cell (p := ⟨w.heap.size, 2, none⟩) hlt).trans k2
    have k3' : wr.cell? ⟨w.heap.size, 3, none⟩ = some (.slice a3 n3 c3) := (hJ.below.cell (p := ⟨w.heap.size, 3, none⟩) hlt).trans k3
    have k4' : wr.cell? ⟨w.heap.size, 4, none⟩ = some (.slice a4 n4 c4) := (hJ.below.cell (p := ⟨w.heap.size, 4, none⟩) hlt).trans k4
    have hltr : w.heap.size < wr.heap.size := by omega
    clear hON hOI hJ hBu k1 k2 k3 k4 HP0 HW0 HBu
    by_cases hgo : j < n1 ∧ j < 7
    · obtain ⟨hj1, hj2⟩ := hgo
      have i1 : (j : Int) < (n1 : Int) := by omega
      have i2 : (j : Int) < 7 := by omega
      have i0 : (0 : Int) ≤ (j : Int) := by omega
      obtain ⟨g1, o1, rfl, hg1, hat1⟩ := HS.out.p1.lies (by show 0 < n1; omega)
      have kp : wr.cell? ⟨g1, o1 + j, none⟩ = some (.int .i64 (wd z1 j)) := (hat1.jk HJ.out hg1) j (by rw [HS.out.p1.len]; exact hj1)
      have bz := HS.out.p1.bd j hj1
      obtain ⟨x1, hx1⟩ : ∃ x, wd z1 j = x := ⟨_, rfl⟩
      rw [hx1] at kp bz
      obtain ⟨y1, hy1⟩ : ∃ y, withinI x1 0 (j : Int) = y := ⟨_, rfl⟩
      have by1 := hy1 ▸ within_bd x1 0 (j : Int) (by omega)
      have HW1 := hid (within_is hy1 bz.1 bz.2 (by omega) (by omega) (by omega))
      obtain ⟨k, rfl⟩ := Int.eq_ofNat_of_zero_le by1.1
      have hk : k < lv.length := by omega
      obtain ⟨A, hA, hAL, hAl⟩ := HBu'.out.1.leaf k hk
      have kl : wr.cell? ⟨gl, k, none⟩ = some (.int .i64 (A : Int)) := by
        have := HOI.out.at k hk
        rw [hA, Nat.zero_add] at this
        exact this
      have hkl : (k : Int) < ((j : Int) + 1) := by omega
      have hk0 : (0 : Int) ≤ (k : Int) := by omega
      have HA := hid hA
      have HK1 := hid (show withinI (wd z1 j) 0 (j : Int) = (k : Int) from by rw [hx1]; exact hy1)
      clear hat1 hx1 hy1 bz hA hAl
      go_upto_region 9 with (first | (go_at_call 7; refine (HW1.out.on _).mono ?_; rintro e w1 ⟨rfl, X1, rfl⟩))
      obtain ⟨wq, hwq⟩ : ∃ wq, junk wr X1 = wq := ⟨_, rfl⟩
      have HJq : Hid (Jk wr wq) := hwq ▸ (Jk.refl wr).junk X1
      have HSq := hid (HS.out.jk (HJ.out.trans HJq.out))
      have hszq := HJq.out.below.size
      have q2 : wq.cell? ⟨w.heap.size, 2, none⟩ = some (.slice a2 n2 c2) := (HJq.out.below.cell (p := ⟨w.heap.size, 2, none⟩) hltr).trans k2'
      have q3 : wq.cell? ⟨w.heap.size, 3, none⟩ = some (.slice a3 n3 c3) := (HJq.out.below.cell (p := ⟨w.heap.size, 3, none⟩) hltr).trans k3'
      have q4 : wq.cell? ⟨w.heap.size, 4, none⟩ = some (.slice a4 n4 c4) := (HJq.out.below.cell (p := ⟨w.heap.size, 4, none⟩) hltr).trans k4'
      obtain ⟨r2, hr2⟩ : ∃ r, pickI z2 j = r := ⟨_, rfl⟩
      obtain ⟨r3, hr3⟩ : ∃ r, pickI z3 j = r := ⟨_, rfl⟩
      obtain ⟨f, hf⟩ : ∃ v, withinI r2 0 (dim - 1) = v := ⟨_, rfl⟩
      obtain ⟨t, ht⟩ : ∃ v, withinI r3 0 9 = v := ⟨_, rfl⟩
      have br2 := hr2 ▸ pick_bd HS.out.p2 j
      have br3 := hr3 ▸ pick_bd HS.out.p3 j
      have bf := hf ▸ within_bd r2 0 (dim - 1) (by omega)
      have bt := ht ▸ within_bd r3 0 9 (by decide)
      have HP2 := hid (pick_is HSq.out.p2 j hr2)
      have HP3 := hid (pick_is HSq.out.p3 j hr3)
      have HW2 := hid ((within_is hf br2.1 br2.2 (by omega) (by omega) (by omega)).ansW wq)
      have HW3 := hid ((within_is ht br3.1 br3.2 (by decide) (by decide) (by decide)).ansW wq)
      have HONq := hid (HON.out.jk HJq.out)
      have HOIq := hid (HOI.out.jk HJq.out)
      have HJ0q := hid (HJ.out.trans HJq.out)
      have HFT := hid (show withinI (pickI z2 j) 0 (dim - 1) = f ∧ withinI (pickI z3 j) 0 9 = t from ⟨by rw [hr2]; exact hf, by rw [hr3]; exact ht⟩)
      simp only [hwq]
      clear hr2 hr3 hf ht br2 br3 hwq HSq HON HOI HJ HJq k1' k2' k3' k4' kp kl HW1
      have hltq : w.heap.size < wq.heap.size := by omega
      have hgnq : gn < wq.heap.size := by omega
      have hglq : gl < wq.heap.size := by omega
      go_cut [10] (fun v10 wc => v10 = .int .i64 (2 * (j : Int) + 1) ∧ OwnN w0.heap.size wc (.slice (some ⟨gn, 0, none⟩) (2 * j + 1) cn) (2 * j + 1) (L.set A ⟨false, 0, f, t, 2 * (j : Int) + 1, 2 * (j : Int) + 1 + 1⟩) ∧ OwnI w0.heap.size wc (.slice (some ⟨gl, 0, none⟩) (j + 1) cl) (j + 1) lv ∧ Jk w0 wc)
      case first =>
        have hA1 : (A : Int) < 2 * (j : Int) + 1 := by omega
        have hA0 : (0 : Int) ≤ (A : Int) := by omega
        have hA2 : A < 2 * j + 1 := by omega
        refine region_tail 19 #[true, true, true, true, true, true, true, true, true, true, true, true, true, true, true, true, true, true, true, false] (by kernel_rfl) (by decide) (by kernel_rfl) ?_
        dsimp only [List.take, List.drop]
        repeat (go_big_quiet_step (first | (go_at_call 18; exact AnsW.junk (by with_reducible first | exact HP2.out | exact HP3.out) _) | (go_at_call 7; exact AnsW.junk (by with_reducible first | exact HW2.out | exact HW3.out) _) | exact rfl))
        refine wpQuiet_nil ?_
        rintro _ ⟨X, rfl⟩
        have hst := HONq.out.store hA2 ⟨false, 0, f, t, 2 * (j : Int) + 1, 2 * (j : Int) + 1 + 1⟩
        obtain ⟨⟨⟨u0, t0⟩, t0'⟩, ⟨⟨u1, t1⟩, t1'⟩, ⟨⟨u2, t2⟩, t2'⟩, ⟨⟨u3, t3⟩, t3'⟩, ⟨⟨u4, t4⟩, t4'⟩, ⟨⟨u5, t5⟩, t5'⟩, t6, t7⟩ := hst
        have HT6 := hid t6
        have HT7 := hid t7
        clear t6 t7
        simp only at t0 t0' t1 t1' t2 t2' t3 t3' t4 t4' t5 t5'
        go_wp2
        go_meet
        case rel =>
          have hj7 := (Jk.refl (junk wq X))
          refine ⟨rfl, HT6.out.jk ((Jk.refl _).junk X), (HOIq.out.kept HT7.out (.inr (by simpa [Value.ownBlock] using Ne.symm hne))).jk ((Jk.refl _).junk X), (HJ0q.out.grown HT7.out (fun k hk => by cases hk; exact hgn1)).trans ((Jk.refl _).junk X)⟩
      case rest =>
        obtain ⟨rfl, hON, hOI, hJ⟩ := hcut
        have HON := hid hON
        have HOI := hid hOI
        have HJ := hid hJ
        have hszc := hJ.below.size
        have hgnc : gn < wc.heap.size := (World.ownsRow.lt hON.2 gn rfl).2
        have hglc : gl < wc.heap.size := (World.ownsRow.lt hOI.2 gl rfl).2
        have k4c : wc.cell? ⟨w.heap.size, 4, none⟩ = some (.slice a4 n4 c4) := (hJ.below.cell (p := ⟨w.heap.size, 4, none⟩) hlt).trans HC.out.2.2.2
        have HSc := hid (HS.out.jk hJ)
        obtain ⟨r5, hr5⟩ : ∃ r, pickI z4 (2 * j + 1) = r := ⟨_, rfl⟩
        obtain ⟨r6, hr6⟩ : ∃ r, pickI z4 (2 * j + 2) = r := ⟨_, rfl⟩
        obtain ⟨v5, hv5⟩ : ∃ v, withinI r5 (-3000) 3000 = v := ⟨_, rfl⟩
        obtain ⟨v6, hv6⟩ : ∃ v, withinI r6 (-3000) 3000 = v := ⟨_, rfl⟩
        have br5 := hr5 ▸ pick_bd HS.out.p4 (2 * j + 1)
        have br6 := hr6 ▸ pick_bd HS.out.p4 (2 * j + 2)
        have bv5 := hv5 ▸ within_bd r5 (-3000) 3000 (by decide)
        have bv6 := hv6 ▸ within_bd r6 (-3000) 3000 (by decide)
        have HP5 : Hid (AnsW wc 18 #[.slice a4 n4 c4, .int .i64 (2 * (j : Int) + 1)] (.int .i64 r5)) := pick_is HSc.out.p4 (2 * j + 1) hr5
        have HP6 : Hid (AnsW wc 18 #[.slice a4 n4 c4, .int .i64 (2 * (j : Int) + 2)] (.int .i64 r6)) := pick_is HSc.out.p4 (2 * j + 2) hr6
        have HW5 := hid ((within_is hv5 br5.1 br5.2 (by decide) (by decide) (by decide)).ansW wc)
        have HW6 := hid ((within_is hv6 br6.1 br6.2 (by decide) (by decide) (by decide)).ansW wc)
        have hltc : w.heap.size < wc.heap.size := by omega
        have HSt2 := hid (show St z1 z2 z3 z4 dim (j + 1) (L.set A ⟨false, 0, f, t, 2 * (j : Int) + 1, 2 * (j : Int) + 1 + 1⟩ ++ [ndLeaf v5, ndLeaf v6]) (lvNext lv k (2 * (j : Int) + 1)) from by rw [← HFT.out.1, ← HFT.out.2, ← hv5, ← hr5, ← hv6, ← hr6]; exact .part HBu'.out.2.1 HK1.out HA.out)
        have HN1 := hid (show j + 1 ≤ n1 from hj1)
        have HBu2 := hid (HBu'.out.1.part (by omega) hk HA.out bf.1 (by omega) h4 bt.1 bt.2 bv5.1 bv5.2 bv6.1 bv6.2 (by omega))
        clear hON hOI hJ hr5 hr6 hv5 hv6 br5 br6 HSc HP2 HP3 HW2 HW3 HONq HOIq HJ0q q2 q3 q4 hgnq hglq hltq hszq HBu'
        go_upto_region 10 with fail
        go_cut [5, 10] (fun v5' v10 wc' => v10 = .int .i64 (2 * (j : Int) + 1) ∧ ∃ gn' cn', v5' = .slice (some ⟨gn', 0, none⟩) (2 * j + 1 + 2) cn' ∧ OwnN w0.heap.size wc' (.slice (some ⟨gn', 0, none⟩) (2 * j + 1 + 2) cn') (2 * j + 1 + 2) (L.set A ⟨false, 0, f, t, 2 * (j : Int) + 1, 2 * (j : Int) + 1 + 1⟩ ++ [ndLeaf v5, ndLeaf v6]) ∧ OwnI w0.heap.size wc' (.slice (some ⟨gl, 0, none⟩) (j + 1) cl) (j + 1) lv ∧ gn' ≠ gl ∧ Jk w0 wc')
        case first =>
          refine region_tail2 (.slice (some ⟨gn, 0, none⟩) (2 * j + 1) cn) 16 #[true, true, true, true, true, true, true, true, true, true, true, true, true, true, true, true, true, false, false, false] (by kernel_rfl) (by decide) (by kernel_rfl) (by kernel_rfl) (by kernel_rfl) (fun _ _ _ h => h) (by rfl) (fun _ => rfl) (by kernel_rfl) ?_
          dsimp only [List.take, List.drop]
          repeat (go_big_quiet_step (first | (go_at_call 18; exact AnsW.junk (by with_reducible first | exact HP5.out | exact HP6.out) _) | (go_at_call 7; exact AnsW.junk (by with_reducible first | exact HW5.out | exact HW6.out) _) | exact rfl))
          refine wpQuiet_nil ?_
          rintro _ ⟨X, rfl⟩
          go_wp2_with (at_builtin; refine list_appN rfl _ _ rfl (HON.out.jk (((Jk.refl wc).junk X).alloc _)) (by rw [World.size_alloc, junk_size]; omega) rfl _ 2 _ [ndLeaf v5, ndLeaf v6] rfl (by decide) rfl (new_cells _ _ _ _ (by rw [junk_size])) (by omega) ?_; intro g2 c2 w2 hO2 hG2; have HO2 := hid hO2; have HG2 := hid hG2; clear hO2 hG2)
          go_meet
          case rel =>
            have hI2 := (HOI.out.jk (((Jk.refl wc).junk X).alloc _)).kept HG2.out (.inr (by simpa [Value.ownBlock] using Ne.symm hne))
            exact ⟨rfl, _, _, rfl, HO2.out, hI2, own_apart HO2.out hI2, ((HJ.out.junk X).alloc _).grown HG2.out (fun k hk => by cases hk; exact hgn1)⟩
        case rest =>
          obtain ⟨rfl, gn', cn', rfl, hON, hOI, hne', hJ⟩ := hcut
          have HON' := hid hON
          have HOI' := hid hOI
          have HJ' := hid hJ
          have hsz' := hJ.below.size
          have hgn' : w0.heap.size ≤ gn' ∧ gn' < wc.heap.size := World.ownsRow.lt hON.2 gn' rfl
          have hgl' : w0.heap.size ≤ gl ∧ gl < wc.heap.size := World.ownsRow.lt hOI.2 gl rfl
          clear hON hOI hJ HP5 HP6 HW5 HW6 k4c hltc
          go_upto_region 11 with fail
          obtain ⟨h0, hh0⟩ : ∃ h0, wc.heap.size = h0 := ⟨_, rfl⟩
          rw [hh0] at hgn' hgl' hsz'
          obtain ⟨ys1, hy1⟩ : ∃ ys, lv.take k = ys := ⟨_, rfl⟩
          obtain ⟨ys2, hy2⟩ : ∃ ys, lv.drop (k + 1) = ys := ⟨_, rfl⟩
          have HLv : Hid (lvNext lv k (2 * (j : Int) + 1) = [] ++ ys1 ++ ys2 ++ [2 * (j : Int) + 1, 2 * (j : Int) + 1 + 1]) := by show _ = _; rw [← hy1, ← hy2]; rfl
          have HL1 : Hid (ys1.length = k) := by show _ = _; rw [← hy1]; simp; omega
          have HL2 : Hid (ys2.length = j - k) := by show _ = _; rw [← hy2]; simp; omega
          have HS1 : Hid (∀ W, Jk wc W → 0 < k → ∃ b o, some (⟨gl, 0, none⟩ : Addr) = some ⟨b, o, none⟩ ∧ AtK .i64 W b o ys1) := fun W hW _ => ⟨gl, 0, rfl, hy1 ▸ (HOI'.out.at.jk hW (by rw [hh0]; exact hgl'.2)).take k⟩
          have HS2 : Hid (∀ W, Jk wc W → 0 < j - k → ∃ b o, some (⟨gl, k + 1, none⟩ : Addr) = some ⟨b, o, none⟩ ∧ AtK .i64 W b o ys2) := fun W hW _ => ⟨gl, k + 1, rfl, by
            have := (HOI'.out.at.jk hW (by rw [hh0]; exact hgl'.2)).drop (k + 1)
            rw [hy2, Nat.zero_add] at this
            exact this⟩
          have HOa : Hid (OwnI h0 (wc.alloc (.cells #[] 3)).drew (.slice (some ⟨h0, 0, none⟩) 0 0) 0 []) := ⟨rfl, own_lit wc #[] 3 1 0 hh0.symm (Nat.le_of_eq hh0.symm) (by decide) rfl⟩
          have HOb : Hid (OwnI h0 ((wc.alloc (.cells #[] 3)).alloc (.cells #[.int .i64 (2 * (j : Int) + 1), .int .i64 (2 * (j : Int) + 1 + 1)] 3)).drew (.slice (some ⟨h0, 0, none⟩) 0 0) 0 []) := ⟨rfl, World.ownsRow.alloc (own_lit wc #[] 3 1 0 hh0.symm (Nat.le_of_eq hh0.symm) (by decide) rfl) _⟩
          have HOc : Hid (OwnI h0 ((wc.alloc (.cells #[.int .i64 (2 * (j : Int) + 1), .int .i64 (2 * (j : Int) + 1 + 1)] 3)).alloc (.cells #[] 3)).drew (.slice (some ⟨h0 + 1, 0, none⟩) 0 0) 0 []) := ⟨rfl, own_lit (wc.alloc (.cells #[.int .i64 (2 * (j : Int) + 1), .int .i64 (2 * (j : Int) + 1 + 1)] 3)) #[] 3 1 0 (by rw [World.size_alloc, hh0]) (by rw [World.size_alloc, hh0]; omega) (by decide) rfl⟩
          have HLb : Hid (AtK .i64 ((wc.alloc (.cells #[] 3)).alloc (.cells #[.int .i64 (2 * (j : Int) + 1), .int .i64 (2 * (j : Int) + 1 + 1)] 3)).drew (h0 + 1) 0 [2 * (j : Int) + 1, 2 * (j : Int) + 1 + 1] ∧ ¬ h0 = h0 + 1 ∧ h0 + 1 < ((wc.alloc (.cells #[] 3)).alloc (.cells #[.int .i64 (2 * (j : Int) + 1), .int .i64 (2 * (j : Int) + 1 + 1)] 3)).drew.heap.size) := by
            refine ⟨fun i hi => ?_, by omega, by show _ < ((wc.alloc (.cells #[] 3)).alloc (.cells #[.int .i64 (2 * (j : Int) + 1), .int .i64 (2 * (j : Int) + 1 + 1)] 3)).heap.size; rw [World.size_alloc, World.size_alloc]; omega⟩
            refine new_cells (wc.alloc (.cells #[] 3)) _ 3 (h0 + 1) (by rw [World.size_alloc, hh0]) (0 + i) _ ?_
            match i, hi with
            | 0, _ => rfl
            | 1, _ => rfl
            | q + 2, h => simp at h; omega
          have HLc : Hid (AtK .i64 ((wc.alloc (.cells #[.int .i64 (2 * (j : Int) + 1), .int .i64 (2 * (j : Int) + 1 + 1)] 3)).alloc (.cells #[] 3)).drew h0 0 [2 * (j : Int) + 1, 2 * (j : Int) + 1 + 1] ∧ ¬ h0 + 1 = h0 ∧ h0 < ((wc.alloc (.cells #[.int .i64 (2 * (j : Int) + 1), .int .i64 (2 * (j : Int) + 1 + 1)] 3)).alloc (.cells #[] 3)).drew.heap.size) := by
            have hq : AtK .i64 (wc.alloc (.cells #[.int .i64 (2 * (j : Int) + 1), .int .i64 (2 * (j : Int) + 1 + 1)] 3)) h0 0 [2 * (j : Int) + 1, 2 * (j : Int) + 1 + 1] := fun i hi => by
              refine new_cells wc _ 3 h0 hh0.symm (0 + i) _ ?_
              match i, hi with
              | 0, _ => rfl
              | 1, _ => rfl
              | q + 2, h => simp at h; omega
            exact ⟨(hq.jk ((Jk.refl _).alloc _).drew (by rw [World.size_alloc]; omega)), by omega, by show _ < ((wc.alloc (.cells #[.int .i64 (2 * (j : Int) + 1), .int .i64 (2 * (j : Int) + 1 + 1)] 3)).alloc (.cells #[] 3)).heap.size; rw [World.size_alloc, World.size_alloc]; omega⟩
          have HLn : Hid (∀ (W : World) (p : Nat), p < W.heap.size → AtK .i64 (W.alloc (.cells #[.int .i64 (2 * (j : Int) + 1), .int .i64 (2 * (j : Int) + 1 + 1)] 3)) W.heap.size 0 [2 * (j : Int) + 1, 2 * (j : Int) + 1 + 1] ∧ ¬ p = W.heap.size ∧ W.heap.size < (W.alloc (.cells #[.int .i64 (2 * (j : Int) + 1), .int .i64 (2 * (j : Int) + 1 + 1)] 3)).heap.size) := by
            intro W p hp
            refine ⟨fun i hi => ?_, by omega, by rw [World.size_alloc]; omega⟩
            refine new_cells W _ 3 _ rfl (0 + i) _ ?_
            match i, hi with
            | 0, _ => rfl
            | 1, _ => rfl
            | q + 2, h => simp at h; omega
          have HK : Hid (∀ (W x : World) (b p p' : Nat), (AtK .i64 W b 0 [2 * (j : Int) + 1, 2 * (j : Int) + 1 + 1] ∧ ¬ p = b ∧ b < W.heap.size) → W.grownBy x (some p) → (p' = p ∨ p' = W.heap.size) → AtK .i64 x b 0 [2 * (j : Int) + 1, 2 * (j : Int) + 1 + 1] ∧ ¬ p' = b ∧ b < x.heap.size) := by
            rintro W x b p p' ⟨q1, q2, q3⟩ hg hp
            refine ⟨fun i hi => ?_, by omega, Nat.lt_of_lt_of_le q3 hg.size⟩
            exact hg.cell (q1 i hi) (by simpa using fun e => q2 e.symm)
          have HG : Hid (∀ (W x : World) (p c' n' : Nat) (zs : List Int), Jk wc W → OwnI h0 W (.slice (some ⟨p, 0, none⟩) n' c') n' zs → W.grownBy x (some p) → Jk wc x ∧ h0 ≤ x.heap.size) := by
            intro W x p c' n' zs hW hO hg
            have hj := hW.grown hg (fun q hq => by rw [hh0]; exact hO.base q hq)
            exact ⟨hj, by rw [← hh0]; exact hj.below.size⟩
          have HP : Hid (∀ (W : World) (p c' n' : Nat) (zs : List Int), OwnI h0 W (.slice (some ⟨p, 0, none⟩) n' c') n' zs → p < W.heap.size) := fun W p c' n' zs hO => (World.ownsRow.lt hO.2 p rfl).2
          have HBa : Hid (h0 ≤ (wc.alloc (.cells #[] 3)).drew.heap.size) := by show h0 ≤ (wc.alloc (.cells #[] 3)).heap.size; rw [World.size_alloc]; omega
          have HBb : Hid (h0 ≤ ((wc.alloc (.cells #[] 3)).alloc (.cells #[.int .i64 (2 * (j : Int) + 1), .int .i64 (2 * (j : Int) + 1 + 1)] 3)).drew.heap.size) := by show h0 ≤ ((wc.alloc (.cells #[] 3)).alloc (.cells #[.int .i64 (2 * (j : Int) + 1), .int .i64 (2 * (j : Int) + 1 + 1)] 3)).heap.size; rw [World.size_alloc, World.size_alloc]; omega
          have HBc : Hid (h0 ≤ ((wc.alloc (.cells #[.int .i64 (2 * (j : Int) + 1), .int .i64 (2 * (j : Int) + 1 + 1)] 3)).alloc (.cells #[] 3)).drew.heap.size) := by show h0 ≤ ((wc.alloc (.cells #[.int .i64 (2 * (j : Int) + 1), .int .i64 (2 * (j : Int) + 1 + 1)] 3)).alloc (.cells #[] 3)).heap.size; rw [World.size_alloc, World.size_alloc]; omega
          have HJa : Hid (Jk wc (wc.alloc (.cells #[] 3)).drew) := ((Jk.refl _).alloc _).drew
          have HJb : Hid (Jk wc ((wc.alloc (.cells #[] 3)).alloc (.cells #[.int .i64 (2 * (j : Int) + 1), .int .i64 (2 * (j : Int) + 1 + 1)] 3)).drew) := (((Jk.refl _).alloc _).alloc _).drew
          have HJc : Hid (Jk wc ((wc.alloc (.cells #[.int .i64 (2 * (j : Int) + 1), .int .i64 (2 * (j : Int) + 1 + 1)] 3)).alloc (.cells #[] 3)).drew) := (((Jk.refl _).alloc _).alloc _).drew
          have HC1 : Hid (0 + k ≤ 1000) := by show _ ≤ _; omega
          have HC2 : Hid (k + (j - k) ≤ 1000) := by show _ ≤ _; omega
          have HC3 : Hid (j + 2 ≤ 1000) := by show _ ≤ _; omega
          have HR1 : Hid (0 + k = k) := Nat.zero_add k
          have HR2 : Hid (k + (j - k) = j) := by show _ = _; omega
          have kc1 : (k : Int) ≤ (cl : Int) := by omega
          have kc2 : (k : Int) + 1 ≤ (j : Int) + 1 := by omega
          have kc3 : (j : Int) + 1 ≤ (cl : Int) := by omega
          have kc4 : (0 : Int) ≤ (k : Int) + 1 := by omega
          have kc5 : (k : Int) ≤ (j : Int) := by omega
          have kc6 : k ≤ j := by omega
          have kc7 : k + 1 ≤ cl := by omega
          have kc8 : (k : Int) + 1 ≤ (cl : Int) := by omega
          clear hy1 hy2
          have HBu3 : Hid (Bush (L.set A ⟨false, 0, f, t, 2 * (j : Int) + 1, 2 * (j : Int) + 1 + 1⟩ ++ [ndLeaf v5, ndLeaf v6]) (lvNext lv k (2 * (j : Int) + 1)) dim) := by
            have := HBu2.out
            rw [show (L.length : Int) = 2 * (j : Int) + 1 by omega] at this
            exact this
          clear HBu2
          have kw1 : IntKind.i64.wrap ((k : Int) + 1) = (k : Int) + 1 := i64_in (by omega) (by omega)
          have kw2 : IntKind.i64.wrap (2 * (j : Int) + 1 + 1) = 2 * (j : Int) + 1 + 1 := i64_in (by omega) (by omega)
          have kw3 : ((k : Int) + 1).toNat = k + 1 := by omega
          by_cases hkc : cl = k + 1
          · have hjk' : j = k := by omega
            subst hkc
            subst hjk'
            have HL2' : Hid (ys2.length = 0) := by have := HL2.out; show _ = _; omega
            have HC2' : Hid (j + 0 ≤ 1000) := by show _ ≤ _; omega
            have HR2' : Hid (j + 0 = j) := rfl
            have m1 : (j : Int) ≤ (j : Int) + 1 := by omega
            have m2 : j ≤ j + 1 := by omega
            have m3 : (0 : Int) ≤ (j : Int) + 1 := by omega
            clear kc1 kc2 kc3 kc5 kc6 kc7 kc8
            go_region_law (first | (refine step_appI (ys := ys1) (by rfl) (.tmp 85) (.tmp 88) (by rfl) HOa.out HBa.out (by rfl) (some ⟨gl, 0, none⟩) j (j + 1) HL1.out (by rfl) (HS1.out _ HJa.out) HC1.out j HR1.out ?_; intro p1 q1 x1 hO1 hG1 hp1; obtain ⟨hJ1, hB1⟩ := HG.out _ x1 _ _ _ _ HJa.out HOa.out hG1) | (refine step_appI (ys := ys1) (by rfl) (.tmp 85) (.tmp 88) (by rfl) HOb.out HBb.out (by rfl) (some ⟨gl, 0, none⟩) j (j + 1) HL1.out (by rfl) (HS1.out _ HJb.out) HC1.out j HR1.out ?_; intro p1 q1 x1 hO1 hG1 hp1; obtain ⟨hJ1, hB1⟩ := HG.out _ x1 _ _ _ _ HJb.out HOb.out hG1; have hL1 := HK.out _ x1 _ _ p1 HLb.out hG1 hp1) | (refine step_appI (ys := ys1) (by rfl) (.tmp 85) (.tmp 88) (by rfl) HOc.out HBc.out (by rfl) (some ⟨gl, 0, none⟩) j (j + 1) HL1.out (by rfl) (HS1.out _ HJc.out) HC1.out j HR1.out ?_; intro p1 q1 x1 hO1 hG1 hp1; obtain ⟨hJ1, hB1⟩ := HG.out _ x1 _ _ _ _ HJc.out HOc.out hG1; have hL1 := HK.out _ x1 _ _ p1 HLc.out hG1 hp1) | (refine step_appI (xs := [] ++ ys1) (ys := ys2) (by rfl) (.tmp 89) (.tmp 93) (by rfl) hO1 hB1 (by rfl) (some ⟨gl, 0, none⟩) 0 0 HL2'.out (by rfl) (fun h => absurd h (Nat.lt_irrefl 0)) HC2'.out j HR2'.out ?_; intro p2 q2 x2 hO2 hG2 hp2; obtain ⟨hJ2, hB2⟩ := HG.out _ x2 _ _ _ _ hJ1 hO1 hG2; first | (have hL2 := HK.out _ x2 _ _ p2 hL1 hG2 hp2) | skip) | (refine step_appI (xs := [] ++ ys1) (ys := ys2) (by rfl) (.tmp 89) (.tmp 93) (by rfl) (hO1.jk ((Jk.refl _).alloc (.cells #[.int .i64 (2 * (j : Int) + 1), .int .i64 (2 * (j : Int) + 1 + 1)] 3))) (Nat.le_trans hB1 ((Jk.refl _).alloc (.cells #[.int .i64 (2 * (j : Int) + 1), .int .i64 (2 * (j : Int) + 1 + 1)] 3)).below.size) (by rfl) (some ⟨gl, 0, none⟩) 0 0 HL2'.out (by rfl) (fun h => absurd h (Nat.lt_irrefl 0)) HC2'.out j HR2'.out ?_; intro p2 q2 x2 hO2 hG2 hp2; obtain ⟨hJ2, hB2⟩ := HG.out _ x2 _ _ _ _ (hJ1.alloc (.cells #[.int .i64 (2 * (j : Int) + 1), .int .i64 (2 * (j : Int) + 1 + 1)] 3)) (hO1.jk ((Jk.refl _).alloc (.cells #[.int .i64 (2 * (j : Int) + 1), .int .i64 (2 * (j : Int) + 1 + 1)] 3))) hG2; have hL2 := HK.out _ x2 _ _ p2 (HLn.out x1 p1 (HP.out _ _ _ _ _ hO1)) hG2 hp2) | (refine step_appI (xs := [] ++ ys1 ++ ys2) (ys := [2 * (j : Int) + 1, 2 * (j : Int) + 1 + 1]) (by rfl) (.tmp 94) (.tmp 98) (by rfl) hO2 hB2 (by rfl) _ 2 2 rfl (by rfl) (fun _ => ⟨_, 0, rfl, hL2.1⟩) HC3.out (j + 2) rfl ?_; intro p3 q3 x3 hO3 hG3 hp3; obtain ⟨hJ3, hB3⟩ := HG.out _ x3 _ _ _ _ hJ2 hO2 hG3) | (refine step_appI (xs := [] ++ ys1 ++ ys2) (ys := [2 * (j : Int) + 1, 2 * (j : Int) + 1 + 1]) (by rfl) (.tmp 94) (.tmp 98) (by rfl) (hO2.jk ((Jk.refl _).alloc (.cells #[.int .i64 (2 * (j : Int) + 1), .int .i64 (2 * (j : Int) + 1 + 1)] 3))) (Nat.le_trans hB2 ((Jk.refl _).alloc (.cells #[.int .i64 (2 * (j : Int) + 1), .int .i64 (2 * (j : Int) + 1 + 1)] 3)).below.size) (by rfl) _ 2 2 rfl (by rfl) (fun _ => ⟨_, 0, rfl, (HLn.out x2 p2 (HP.out _ _ _ _ _ hO2)).1⟩) HC3.out (j + 2) rfl ?_; intro p3 q3 x3 hO3 hG3 hp3; obtain ⟨hJ3, hB3⟩ := HG.out _ x3 _ _ _ _ (hJ2.alloc (.cells #[.int .i64 (2 * (j : Int) + 1), .int .i64 (2 * (j : Int) + 1 + 1)] 3)) (hO2.jk ((Jk.refl _).alloc (.cells #[.int .i64 (2 * (j : Int) + 1), .int .i64 (2 * (j : Int) + 1 + 1)] 3))) hG3))
            all_goals
              go_wp2_with fail
              go_roundg (gk - 1)
              case measure => omega
              case rel =>
                refine ⟨j + 1, by omega, _, _, gn', cn', p3, q3, by go_num, by rw [show 2 * (j + 1) + 1 = 2 * j + 1 + 2 by omega], rfl, ?_, ?_, ?_, HJ'.out.trans hJ3, ⟨HBu3.out, HSt2.out, HN1.out⟩, by omega⟩
                · rw [show 2 * (j + 1) + 1 = 2 * j + 1 + 2 by omega]; exact HON'.out.jk hJ3
                · rw [HLv.out]; exact ⟨hO3.1, row_mono hO3.2 hsz'⟩
                · have := hO3.base p3 rfl
                  omega
          · go_region_law (first | (refine step_appI (ys := ys1) (by rfl) (.tmp 85) (.tmp 88) (by rfl) HOa.out HBa.out (by rfl) (some ⟨gl, 0, none⟩) k cl HL1.out (by rfl) (HS1.out _ HJa.out) HC1.out k HR1.out ?_; intro p1 q1 x1 hO1 hG1 hp1; obtain ⟨hJ1, hB1⟩ := HG.out _ x1 _ _ _ _ HJa.out HOa.out hG1) | (refine step_appI (ys := ys1) (by rfl) (.tmp 85) (.tmp 88) (by rfl) HOb.out HBb.out (by rfl) (some ⟨gl, 0, none⟩) k cl HL1.out (by rfl) (HS1.out _ HJb.out) HC1.out k HR1.out ?_; intro p1 q1 x1 hO1 hG1 hp1; obtain ⟨hJ1, hB1⟩ := HG.out _ x1 _ _ _ _ HJb.out HOb.out hG1; have hL1 := HK.out _ x1 _ _ p1 HLb.out hG1 hp1) | (refine step_appI (ys := ys1) (by rfl) (.tmp 85) (.tmp 88) (by rfl) HOc.out HBc.out (by rfl) (some ⟨gl, 0, none⟩) k cl HL1.out (by rfl) (HS1.out _ HJc.out) HC1.out k HR1.out ?_; intro p1 q1 x1 hO1 hG1 hp1; obtain ⟨hJ1, hB1⟩ := HG.out _ x1 _ _ _ _ HJc.out HOc.out hG1; have hL1 := HK.out _ x1 _ _ p1 HLc.out hG1 hp1) | (refine step_appI (xs := [] ++ ys1) (ys := ys2) (by rfl) (.tmp 89) (.tmp 93) (by rfl) hO1 hB1 (by rfl) (some ⟨gl, k + 1, none⟩) (j - k) (cl - (k + 1)) HL2.out (by rfl) (HS2.out _ hJ1) HC2.out j HR2.out ?_; intro p2 q2 x2 hO2 hG2 hp2; obtain ⟨hJ2, hB2⟩ := HG.out _ x2 _ _ _ _ hJ1 hO1 hG2; first | (have hL2 := HK.out _ x2 _ _ p2 hL1 hG2 hp2) | skip) | (refine step_appI (xs := [] ++ ys1) (ys := ys2) (by rfl) (.tmp 89) (.tmp 93) (by rfl) (hO1.jk ((Jk.refl _).alloc (.cells #[.int .i64 (2 * (j : Int) + 1), .int .i64 (2 * (j : Int) + 1 + 1)] 3))) (Nat.le_trans hB1 ((Jk.refl _).alloc (.cells #[.int .i64 (2 * (j : Int) + 1), .int .i64 (2 * (j : Int) + 1 + 1)] 3)).below.size) (by rfl) (some ⟨gl, k + 1, none⟩) (j - k) (cl - (k + 1)) HL2.out (by rfl) (HS2.out _ (hJ1.alloc (.cells #[.int .i64 (2 * (j : Int) + 1), .int .i64 (2 * (j : Int) + 1 + 1)] 3))) HC2.out j HR2.out ?_; intro p2 q2 x2 hO2 hG2 hp2; obtain ⟨hJ2, hB2⟩ := HG.out _ x2 _ _ _ _ (hJ1.alloc (.cells #[.int .i64 (2 * (j : Int) + 1), .int .i64 (2 * (j : Int) + 1 + 1)] 3)) (hO1.jk ((Jk.refl _).alloc (.cells #[.int .i64 (2 * (j : Int) + 1), .int .i64 (2 * (j : Int) + 1 + 1)] 3))) hG2; have hL2 := HK.out _ x2 _ _ p2 (HLn.out x1 p1 (HP.out _ _ _ _ _ hO1)) hG2 hp2) | (refine step_appI (xs := [] ++ ys1 ++ ys2) (ys := [2 * (j : Int) + 1, 2 * (j : Int) + 1 + 1]) (by rfl) (.tmp 94) (.tmp 98) (by rfl) hO2 hB2 (by rfl) _ 2 2 rfl (by rfl) (fun _ => ⟨_, 0, rfl, hL2.1⟩) HC3.out (j + 2) rfl ?_; intro p3 q3 x3 hO3 hG3 hp3; obtain ⟨hJ3, hB3⟩ := HG.out _ x3 _ _ _ _ hJ2 hO2 hG3) | (refine step_appI (xs := [] ++ ys1 ++ ys2) (ys := [2 * (j : Int) + 1, 2 * (j : Int) + 1 + 1]) (by rfl) (.tmp 94) (.tmp 98) (by rfl) (hO2.jk ((Jk.refl _).alloc (.cells #[.int .i64 (2 * (j : Int) + 1), .int .i64 (2 * (j : Int) + 1 + 1)] 3))) (Nat.le_trans hB2 ((Jk.refl _).alloc (.cells #[.int .i64 (2 * (j : Int) + 1), .int .i64 (2 * (j : Int) + 1 + 1)] 3)).below.size) (by rfl) _ 2 2 rfl (by rfl) (fun _ => ⟨_, 0, rfl, (HLn.out x2 p2 (HP.out _ _ _ _ _ hO2)).1⟩) HC3.out (j + 2) rfl ?_; intro p3 q3 x3 hO3 hG3 hp3; obtain ⟨hJ3, hB3⟩ := HG.out _ x3 _ _ _ _ (hJ2.alloc (.cells #[.int .i64 (2 * (j : Int) + 1), .int .i64 (2 * (j : Int) + 1 + 1)] 3)) (hO2.jk ((Jk.refl _).alloc (.cells #[.int .i64 (2 * (j : Int) + 1), .int .i64 (2 * (j : Int) + 1 + 1)] 3))) hG3))
            all_goals
              go_wp2_with fail
              go_roundg (gk - 1)
              case measure => omega
              case rel =>
                refine ⟨j + 1, by omega, _, _, gn', cn', p3, q3, by go_num, by rw [show 2 * (j + 1) + 1 = 2 * j + 1 + 2 by omega], rfl, ?_, ?_, ?_, HJ'.out.trans hJ3, ⟨HBu3.out, HSt2.out, HN1.out⟩, by omega⟩
                · rw [show 2 * (j + 1) + 1 = 2 * j + 1 + 2 by omega]; exact HON'.out.jk hJ3
                · rw [HLv.out]; exact ⟨hO3.1, row_mono hO3.2 hsz'⟩
                · have := hO3.base p3 rfl
                  omega
    · have HW : Hid (∀ i, i < (L.map Nd.pack).length → 0 ≤ wd (L.map Nd.pack) i ∧ wd (L.map Nd.pack) i ≤ 18446744073709551615) := by
        intro i hi
        rw [nA_map L i (by simpa using hi)]
        exact Nd.pack_bd _
      have HT : Hid (TreeP (L.map Nd.pack) dim) := HBu'.out.1.tree (by omega) (by omega)
      have HStE := hid HBu'.out.2
      have hex : (¬ j < n1) ∨ (j < n1 ∧ ¬ j < 7) := by omega
      obtain ⟨h0, hh0⟩ : ∃ h0, wr.heap.size = h0 := ⟨_, rfl⟩
      have HH0 : Hid (h0 ≤ wr.heap.size) := Nat.le_of_eq hh0.symm
      rw [hh0] at hgn2 hszr
      obtain ⟨N, hN⟩ : ∃ N, 2 * j + 1 = N := ⟨_, rfl⟩
      have HN : Hid (2 * j + 1 = N) := hN
      have hN15 : N ≤ 15 := by omega
      have hN1 : 1 ≤ N := by omega
      rw [hN] at HON hL hcn ⊢
      clear hh0 HBu' HOI hgl1 hgl2 hcl hcl2 hne k2' k3' k4' hN
      have e2 : ¬ (j : Int) < 7 ∨ True := .inr trivial
      rcases hex with hex | ⟨hex, hex2⟩
      case' inl => have e1 : ¬ (j : Int) < (n1 : Int) := by omega
      case' inr => have e1 : (j : Int) < (n1 : Int) := by omega
      case' inr => have e3 : ¬ (j : Int) < 7 := by omega
      all_goals
        go_wp2
        go_loopg [11, 102] N (fun k v i wx => ∃ q : Nat, q + k = N ∧ i = .int .i64 (q : Int) ∧ OwnU h0 wx v q ((L.map Nd.pack).take q) ∧ OwnN w0.heap.size wx (.slice (some ⟨gn, 0, none⟩) N cn) N L ∧ Jk w0 wx ∧ h0 ≤ wx.heap.size)
        case atStart => exact ⟨0, by omega, rfl, ⟨rfl, World.ownsRow_nil _ _ _ _⟩, HON.out, HJ.out, HH0.out⟩
        case round =>
          obtain ⟨q, hq, rfl, hU, hO, hJx, hhx⟩ := hrel
          have HU := hid hU
          have HO := hid hO
          have HJx := hid hJx
          clear hU hO hJx HON HJ HH0
          by_cases hlt2 : q < N
          · have i0 : (0 : Int) ≤ (q : Int) := by omega
            have i1 : (q : Int) < (N : Int) := by omega
            have hcs := HO.out.cells hlt2
            have hgs : gn < wr.heap.size := by omega
            have HTk : Hid ((L.map Nd.pack).take (q + 1) = (L.map Nd.pack).take q ++ [(nA L q).pack]) := by
              show _ = _
              rw [List.take_add_one]
              congr 1
              simp [nA, show q < L.length by omega]
            obtain ⟨x, hx⟩ : ∃ x, nA L q = x := ⟨_, rfl⟩
            rw [hx] at hcs HTk
            obtain ⟨leaf, v, f, a', l, r⟩ := x
            obtain ⟨c0, c1', c2', c3', c4', c5'⟩ := hcs
            have HPk := hid (rpack_ans ⟨leaf, v, f, a', l, r⟩)
            obtain ⟨pk, hpk⟩ : ∃ y, Nd.pack ⟨leaf, v, f, a', l, r⟩ = y := ⟨_, rfl⟩
            rw [hpk] at HPk HTk
            clear hx hpk
            go_wp2_with (first | (go_at_call 33; refine (HPk.out.on _).mono ?_; rintro e w1 ⟨rfl, X1, rfl⟩) | (at_builtin; refine list_appU rfl _ _ rfl (HU.out.jk ((((Jk.refl wr).alloc _).junk X1).alloc _)) (by rw [World.size_alloc, junk_size, World.size_alloc]; omega) rfl _ 0 1 _ [pk] rfl (by decide) rfl (fun i hi => new_cells _ #[.int .u64 pk] _ _ (by rw [junk_size, World.size_alloc]) (0 + i) _ (by simp at hi; subst hi; rfl)) (by omega) ?_; intro g2 c2 w2 hU2 hG2; have HU2 := hid hU2; have HG2 := hid hG2; clear hU2 hG2))
            go_roundg (gk - 1)
            case measure => omega
            case rel =>
              refine ⟨q + 1, by omega, by go_num, by rw [HTk.out]; exact HU2.out, (HO.out.jk ((((Jk.refl wr).alloc _).junk X1).alloc _)).kept HG2.out (.inr ?_), (((HJx.out.alloc _).junk X1).alloc _).grown HG2.out (fun k hk => Nat.le_trans hszr (HU.out.base k hk)), ?_⟩
              · intro e
                have := HU.out.base gn (by rw [← e]; rfl)
                omega
              · have := HG2.out.size
                rw [World.size_alloc, junk_size, World.size_alloc] at this
                omega
          · have e : q = N := by omega
            subst e
            obtain ⟨av, cv, rfl, hcv1, hcv2, hform⟩ := row_form HU.out.2
            obtain ⟨gv, rfl, hgv1, hgv2⟩ := hform (by omega)
            have HE : Hid ((L.map Nd.pack).take q = L.map Nd.pack) := List.take_of_length_le (by simp; omega)
            go_wp2
            go_ret
            have hU := HU.out
            rw [HE.out] at hU
            refine ⟨gv, q, cv, L.map Nd.pack, rfl, hU.isW (fun i hi => HW.out i (by simp; omega)), HT.out, hN15, ?_, HJ0.out.trans HJx.out, j, L, lv, (by have := HStE.out.2; show j = min n1 7; omega), HStE.out.1, rfl⟩
            have := HJ0.out.below.size
            omega

theorem nodes_any (s : Seed) (dim : Int) (w : World) (hs : s.ok w) (h1 : 1 ≤ dim) (h4 : dim ≤ 4) :
    Calls Tryz.prog 19 #[seedV s, .int .i64 dim] w fun e w' => GotT w dim e w' :=
  (nodes_is s dim w hs h1 h4).mono (by
    rintro e w' ⟨g, n, c, ws, a, b, d, f, h, i, _⟩
    exact ⟨g, n, c, ws, a, b, d, f, h, i⟩)

end Go.Proofs.YtkkbeobocbgmeaaGreat
