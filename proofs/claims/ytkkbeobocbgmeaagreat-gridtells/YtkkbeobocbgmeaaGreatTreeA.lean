/- What unpackAll, namesTwo and side of package tree answer: the nodes of a row, if each word is one.
   What namesTwo, side, unpackTree and Right of package tree answer: is a row of words a tree?
   What walk, Walk and Value of package tree answer: the leaf of a point.
   What Leaves and Depth of package tree answer. -/
import Derived.Test.YtkkbeobocbgmeaaGreatRowsT
import Derived.Deep.DeepCutAuto
namespace Go.Proofs.YtkkbeobocbgmeaaGreat
open Go.RowKit M

def nodesTo (ws : List Int) (j : Nat) : List Nd := (List.range j).map (ndA ws)
theorem nodesTo_succ (ws : List Int) (j : Nat) : nodesTo ws (j + 1) = nodesTo ws j ++ [ndA ws j] := by simp [nodesTo, List.range_succ]
theorem nodesTo_length (ws : List Int) (j : Nat) : (nodesTo ws j).length = j := by simp [nodesTo]
theorem nodesTo_at (ws : List Int) (n i : Nat) (h : i < n) : nA (nodesTo ws n) i = ndA ws i := by simp [nA, nodesTo, h]

/-- 1 to 31 words, each of them a node -/
def AllP (ws : List Int) : Prop := 1 ≤ ws.length ∧ ws.length ≤ 31 ∧ ∀ i, i < ws.length → unB (wd ws i) = true

/-- nodes of a row of the call's own, and true; or none, and false -/
def GotN (w : World) (n : Nat) (L : List Nd) (b : Bool) (e : Ending) (w' : World) : Prop :=
  ∃ v, e = .returned (.tuple #[v, .bool b]) ∧ (b = true → ∃ g c', v = .slice (some ⟨g, 0, none⟩) n c' ∧ OwnN w.heap.size w' v n L) ∧ (b = false → v = .slice none 0 0) ∧ Jk w w'

set_option maxRecDepth 100000 in
set_option maxHeartbeats 1600000 in
theorem unpackAll_any (a : Option Addr) (n c : Nat) (ws : List Int) (b : Bool) (w : World) (hw : IsW w a n c ws) (hb : b = true ↔ AllP ws) :
    Calls Tryz.prog 97 #[.slice a n c] w fun e w' => GotN w n (nodesTo ws n) b e w' := by
  have J := rules8
  have hm := hw.max
  unfold maxLen at hm
  have hcap := hw.cap
  by_cases h1 : n < 1
  · have : b = false := by
      cases b
      · rfl
      · have := (hb.1 rfl).1; have := hw.len; omega
    subst this
    have : n = 0 := by omega
    subst this
    clear hw hb
    go_enter Tryz.func97, Tryz.ntmps97
    go_wp2
    refine bodyPost_ret (v := .tuple #[.slice none 0 0, .bool false]) (by simp [results, Tryz.results97, go_sem]) rfl ⟨_, rfl, fun h => Bool.noConfusion h, fun _ => rfl, Jk.refl _⟩
  · by_cases h2 : 31 < n
    · have : b = false := by
        cases b
        · rfl
        · have := (hb.1 rfl).2.1; have := hw.len; omega
      subst this
      clear hw hb
      go_enter Tryz.func97, Tryz.ntmps97
      go_wp2
      refine bodyPost_ret (v := .tuple #[.slice none 0 0, .bool false]) (by simp [results, Tryz.results97, go_sem]) rfl ⟨_, rfl, fun h => Bool.noConfusion h, fun _ => rfl, Jk.refl _⟩
    · obtain ⟨g, o, rfl, hg, hat⟩ := hw.lies (by omega)
      have HA : Hid (AtK .u64 w g o ws) := hat
      have HL : Hid (ws.length = n) := hw.len
      have HBD : Hid (∀ i, i < n → 0 ≤ wd ws i ∧ wd ws i ≤ 18446744073709551615) := hw.bd
      have HB : Hid (b = true ↔ AllP ws) := hb
      clear hat hw hb
      obtain ⟨i0, hi, hz0, hz1, hz2⟩ := info_parts infoN
      obtain ⟨w0, hmk, hown0, hg0⟩ := run_make_own (P := Tryz.prog) w w.heap.size 80 77 i0 (nodeV Nd.nil) 6 Tryz.underlying80 hi hz0 hz1 .i64 .i64 n (by rw [hz2]; omega) (by unfold maxLen; omega) (Nat.le_refl _)
      have HO : Hid (OwnN w.heap.size w0 (.slice (some ⟨w.heap.size, 0, none⟩) 0 n) 0 (nodesTo ws 0)) := ⟨rfl, hown0⟩
      have HJ : Hid (Jk w w0) := (Jk.refl w).grown hg0 (by simp)
      clear hown0 hg0 hz0 hz1 hz2 hi
      have n0 : ¬ (n : Int) < 1 := by omega
      have n1 : ¬ (31 : Int) < (n : Int) := by omega
      go_enter Tryz.func97, Tryz.ntmps97
      go_wp2
      go_loopg [4, 22] n (fun k v i wr => ∃ j : Nat, j + k = n ∧ i = .int .i64 (j : Int) ∧ ∃ g' c', v = .slice (some ⟨g', 0, none⟩) j c' ∧ OwnN w.heap.size wr v j (nodesTo ws j) ∧ Jk w wr ∧ ∀ q, q < j → unB (wd ws q) = true)
      case atStart => exact ⟨0, by omega, rfl, _, _, rfl, HO.out, HJ.out, fun q hq => by omega⟩
      case round =>
        obtain ⟨j, hj, rfl, g', c', rfl, hO, hJ, hall⟩ := hrel
        have HO' := hid hO
        have HJ' := hid hJ
        have HAll := hid hall
        clear hO hJ hall HO HJ
        by_cases hlt : j < n
        · have i0 : (0 : Int) ≤ (j : Int) := by omega
          have i1 : (j : Int) < (n : Int) := by omega
          have e1 : wr.cell? ⟨g, o + j, none⟩ = some (.int .u64 (wd ws j)) := (HA.out.jk HJ'.out hg) j (by rw [HL.out]; exact hlt)
          obtain ⟨b1, b2⟩ := HBD.out j hlt
          have HU := hid (unpack_ans (wd ws j) b1 b2)
          have HN : Hid (unI (wd ws j) = ndA ws j) := rfl
          rw [HN.out] at HU
          clear b1 b2
          cases hu : unB (wd ws j)
          · rw [hu] at HU
            have hbf : b = false := by
              cases b
              · rfl
              · have := (HB.out.1 rfl).2.2 j (by rw [HL.out]; exact hlt)
                rw [hu] at this
                cases this
            subst hbf
            go_wp2_with (first | (go_at_call 95; refine (HU.out.on _).mono ?_; rintro e w1 ⟨rfl, X1, rfl⟩))
            refine bodyPost_ret (v := .tuple #[.slice none 0 0, .bool false]) (by simp [results, Tryz.results97, go_sem]) rfl ⟨_, rfl, fun h => Bool.noConfusion h, fun _ => rfl, ?_⟩
            exact (HJ'.out.junk _).alloc _
          · rw [hu] at HU
            go_wp2_with (first | (go_at_call 95; refine (HU.out.on _).mono ?_; rintro e w1 ⟨rfl, X1, rfl⟩) | (at_builtin; refine list_appN rfl _ _ rfl (HO'.out.jk ((((Jk.refl wr).junk X1).alloc _).alloc _)) ((HJ'.out.junk X1).alloc _ |>.alloc _).below.size rfl _ 1 _ [ndA ws j] rfl (by decide) rfl (new_cells _ _ _ _ (by rw [World.size_alloc, junk_size])) (by omega) ?_; intro g2 c2 w2 hO2 hG2; have HO2 := hid hO2; have HG2 := hid hG2; clear hO2 hG2))
            go_roundg (gk - 1)
            case measure => omega
            case rel =>
              refine ⟨j + 1, by omega, by go_num, g2, c2, rfl, by rw [nodesTo_succ]; exact HO2.out, ((HJ'.out.junk X1).alloc _ |>.alloc _).grown HG2.out HO'.out.base, fun q hq => ?_⟩
              by_cases e : q = j
              · subst e; exact hu
              · exact HAll.out q (by omega)
        · have e : j = n := by omega
          subst e
          have hbt : b = true := HB.out.2 ⟨by rw [HL.out]; omega, by rw [HL.out]; omega, fun i hi => HAll.out i (by rw [HL.out] at hi; exact hi)⟩
          subst hbt
          go_wp2
          refine bodyPost_ret (v := .tuple #[.slice (some ⟨g', 0, none⟩) j c', .bool true]) (by simp [results, Tryz.results97, go_sem]) rfl ⟨_, rfl, fun _ => ⟨g', c', rfl, HO'.out⟩, fun h => (Bool.noConfusion h), HJ'.out⟩

end Go.Proofs.YtkkbeobocbgmeaaGreat

namespace Go.Proofs.YtkkbeobocbgmeaaGreat
open Go.RowKit M

def namesB (l r i n : Int) : Bool := decide (i < l) && decide (i < r) && decide (l < n) && decide (r < n) && !(l == r)
set_option maxRecDepth 100000 in
set_option maxHeartbeats 1600000 in
theorem names_ans (x : Nd) (i n : Int) : Ans 98 #[nodeV x, .int .i64 i, .int .i64 n] (.bool (namesB x.l x.r i n)) := fun w => by
  have J := rules8
  obtain ⟨leaf, v, f, a, l, r⟩ := x
  by_cases h1 : i < l
  case' neg => have e : namesB l r i n = false := by simp [namesB, h1]
  case' pos => by_cases h2 : i < r
  case' neg => have e : namesB l r i n = false := by simp [namesB, h2]
  case' pos => by_cases h3 : l < n
  case' neg => have e : namesB l r i n = false := by simp [namesB, h3]
  case' pos => by_cases h4 : r < n
  case' neg => have e : namesB l r i n = false := by simp [namesB, h4]
  case' pos => by_cases h5 : l = r
  case' neg => have e : namesB l r i n = true := by simp [namesB, h1, h2, h3, h4, h5]
  case' pos => have e : namesB l r i n = false := by simp [namesB, h5]
  all_goals
    show Calls Tryz.prog 98 #[nodeV ⟨leaf, v, f, a, l, r⟩, .int .i64 i, .int .i64 n] w fun e w' => e = .returned (.bool (namesB l r i n)) ∧ Jk w w'
    rw [e]
    clear e
    go_enter Tryz.func98, Tryz.ntmps98
    go_wp2
    go_ret
    exact ⟨by simp [*], (Jk.refl _).alloc _⟩

theorem names_is {l r i n : Int} {b : Bool} (h : namesB l r i n = b) (leaf : Bool) (v f a : Int) : Ans 98 #[.agg #[.bool leaf, .int .i64 v, .int .i64 f, .int .i64 a, .int .i64 l, .int .i64 r], .int .i64 i, .int .i64 n] (.bool b) := by
  subst h
  exact names_ans ⟨leaf, v, f, a, l, r⟩ i n

/-- a point's value -/
abbrev pointV (p : Int → Int) : Value := .agg #[.int .i64 (p 0), .int .i64 (p 1), .int .i64 (p 2), .int .i64 (p 3)]

set_option maxRecDepth 100000 in
set_option maxHeartbeats 1600000 in
theorem side_raw (leaf : Bool) (v a l r : Int) (F : Nat) (p0 p1 p2 p3 y s : Int) (hf : F < 4) (hy : [p0, p1, p2, p3][F]? = some y) (hs : (if y ≤ a then l else r) = s) : Ans 96 #[.agg #[.bool leaf, .int .i64 v, .int .i64 (F : Int), .int .i64 a, .int .i64 l, .int .i64 r], .agg #[.int .i64 p0, .int .i64 p1, .int .i64 p2, .int .i64 p3]] (.int .i64 s) := fun w => by
  have J := rules8
  have hF : F = 0 ∨ F = 1 ∨ F = 2 ∨ F = 3 := by omega
  by_cases h : y ≤ a
  · rw [if_pos h] at hs
    subst hs
    rcases hF with rfl | rfl | rfl | rfl
    all_goals
      simp at hy
      subst hy
      go_enter Tryz.func96, Tryz.ntmps96
      go_wp2
      go_quiet (fail)
      go_wp2
      go_ret
      exact ⟨rfl, by repeat (with_reducible first | exact Jk.refl _ | apply Jk.junk | apply Jk.alloc | apply Jk.drewN)⟩
  · rw [if_neg h] at hs
    subst hs
    rcases hF with rfl | rfl | rfl | rfl
    all_goals
      simp at hy
      subst hy
      go_enter Tryz.func96, Tryz.ntmps96
      go_wp2
      go_quiet (fail)
      go_wp2
      go_ret
      exact ⟨rfl, by repeat (with_reducible first | exact Jk.refl _ | apply Jk.junk | apply Jk.alloc | apply Jk.drewN)⟩
theorem way_ans {x : Nd} (h0 : 0 ≤ x.f) (h1 : x.f < 4) (p : Int → Int) : Ans 96 #[nodeV x, pointV p] (.int .i64 (sideI x p)) := by
  obtain ⟨leaf, v, f, a, l, r⟩ := x
  obtain ⟨F, rfl⟩ := Int.eq_ofNat_of_zero_le h0
  refine side_raw leaf v a l r F (p 0) (p 1) (p 2) (p 3) (p F) _ (by simp at h1; omega) ?_ rfl
  have : F = 0 ∨ F = 1 ∨ F = 2 ∨ F = 3 := by simp at h1; omega
  rcases this with rfl | rfl | rfl | rfl <;> rfl

/-- 31 ints in block h -/
def Ints31 (t : TypeId) (w : World) (h : Nat) (f : Nat → Int) : Prop := ∃ cur : Array Value, w.heap[h]? = some (.cells cur t (0, 0)) ∧ cur.size = 31 ∧ ∀ q, q < 31 → cur[q]? = some (.int .i64 (f q))
def updN (f : Nat → Int) (k : Nat) (x : Int) : Nat → Int := fun q => if q = k then x else f q
theorem Ints31.cell {t : TypeId} {w : World} {h : Nat} {f : Nat → Int} (H : Ints31 t w h f) {q : Nat} (hq : q < 31) : w.cell? ⟨h, q, none⟩ = some (.int .i64 (f q)) := by
  obtain ⟨cur, h1, h2, h3⟩ := H
  rw [cell_of_row _ _ _ _ _ _ h1]
  exact h3 q hq
theorem Ints31.frozen {t : TypeId} {w : World} {h : Nat} {f : Nat → Int} (H : Ints31 t w h f) (q : Nat) : w.frozen? ⟨h, q, none⟩ = false := by
  obtain ⟨cur, h1, h2, h3⟩ := H
  exact frozen_of_row _ _ _ _ _ h1
theorem Ints31.set {t : TypeId} {w : World} {h : Nat} {f : Nat → Int} (H : Ints31 t w h f) {q : Nat} (hq : q < 31) (x : Int) : Ints31 t (w.setCell ⟨h, q, none⟩ (.int .i64 x)) h (updN f q x) := by
  obtain ⟨cur, h1, h2, h3⟩ := H
  refine ⟨_, heap_setCell_same _ _ _ _ _ _ h1, by simpa using h2, fun k hk => ?_⟩
  unfold updN
  by_cases e : k = q
  · subst e
    rw [Array.getElem?_setIfInBounds_self_of_lt (by omega), if_pos rfl]
  · rw [Array.getElem?_setIfInBounds_ne (by omega), if_neg e]
    exact h3 k hk
theorem Ints31.lt {t : TypeId} {w : World} {h : Nat} {f : Nat → Int} (H : Ints31 t w h f) : h < w.heap.size := by
  obtain ⟨cur, h1, h2, h3⟩ := H
  exact (Array.getElem?_eq_some_iff.1 h1).1
theorem Ints31.jk {t : TypeId} {w w' : World} {h : Nat} {f : Nat → Int} (H : Ints31 t w h f) (hj : Jk w w') : Ints31 t w' h f := by
  have hl := H.lt
  obtain ⟨cur, h1, h2, h3⟩ := H
  exact ⟨cur, by rw [hj.below.block h hl]; exact h1, h2, h3⟩
theorem Ints31.congr {t : TypeId} {w : World} {h : Nat} {f f' : Nat → Int} (H : Ints31 t w h f) (e : ∀ q, q < 31 → f q = f' q) : Ints31 t w h f' := by
  obtain ⟨cur, h1, h2, h3⟩ := H
  exact ⟨cur, h1, h2, fun q hq => by rw [← e q hq]; exact h3 q hq⟩

theorem grown_set (w : World) (h q : Nat) (u : Value) : w.grownBy (w.setCell ⟨h, q, none⟩ u) (some h) :=
  ⟨rfl, rfl, rfl, by simp [World.setCell], fun k _ hk => Below.heap_setCell _ _ _ _ (fun e => hk (by simp [e]))⟩
theorem OwnN.set {B : Nat} {w : World} {g c n : Nat} {L : List Nd} (H : OwnN B w (.slice (some ⟨g, 0, none⟩) n c) n L) {h : Nat} (hne : g ≠ h) (q : Nat) (u : Value) : OwnN B (w.setCell ⟨h, q, none⟩ u) (.slice (some ⟨g, 0, none⟩) n c) n L :=
  H.kept (grown_set w h q u) (.inr (by simpa [Value.ownBlock] using hne))

theorem run_cut31 (w : World) (h j : Nat) (h1 : 1 ≤ j) (h2 : j ≤ 31) : (Instr.sliceAt 136 (.pointer (some ⟨h, 0, none⟩)) (some (.int .i64 1)) (some (.int .i64 (j : Int))) none).run Tryz.prog w = .ok (.slice (some ⟨h, 1, none⟩) (j - 1) 30) w := by
  have hal : Tryz.prog.arrayLen 136 = 31 := by kernel_rfl
  have hsz : (sizeOf (Tryz.prog.elem 136)).run Tryz.prog w = .ok 1 w := by kernel_rfl
  rw [run_sliceAt_array_lh (P := Tryz.prog) w 136 ⟨h, 0, none⟩ (by kernel_rfl) .i64 .i64 1 (j : Int) (by omega) (by omega) (by rw [hal]; omega), hsz]
  simp [slicedAt, hal, add_at]
set_option maxRecDepth 100000 in
set_option maxHeartbeats 1600000 in
theorem unpackTree_any (a : Option Addr) (n c : Nat) (ws : List Int) (dim : Int) (b : Bool) (w : World) (hw : IsW w a n c ws) (hb : b = true ↔ TreeP ws dim) :
    Calls Tryz.prog 88 #[.slice a n c, .int .i64 dim] w fun e w' => GotN w n (nodesTo ws n) b e w' := by
  have J := rules8
  have HL : Hid (ws.length = n) := hw.len
  have HB : Hid (b = true ↔ TreeP ws dim) := hb
  clear hb
  by_cases hAll : AllP ws
  · have HA := hid (unpackAll_any a n c ws true w hw (by simp [hAll]))
    have n1 : 1 ≤ n := by rw [← HL.out]; exact hAll.1
    have n2 : n ≤ 31 := by rw [← HL.out]; exact hAll.2.1
    have HAll := hid hAll
    clear hw hAll
    go_enter Tryz.func88, Tryz.ntmps88
    go_wp2_with (first | (go_at_call 97; refine HA.out.mono ?_; rintro e w1 ⟨v, rfl, hv, _, hj⟩; obtain ⟨g, c', rfl, hO⟩ := hv rfl; have HO := hid hO; have HJ := hid hj; clear hO hj hv))
    have HI : Hid (Ints31 136 (w1.alloc (.cells #[.int .i64 0, .int .i64 0, .int .i64 0, .int .i64 0, .int .i64 0, .int .i64 0, .int .i64 0, .int .i64 0, .int .i64 0, .int .i64 0, .int .i64 0, .int .i64 0, .int .i64 0, .int .i64 0, .int .i64 0, .int .i64 0, .int .i64 0, .int .i64 0, .int .i64 0, .int .i64 0, .int .i64 0, .int .i64 0, .int .i64 0, .int .i64 0, .int .i64 0, .int .i64 0, .int .i64 0, .int .i64 0, .int .i64 0, .int .i64 0, .int .i64 0] 136)) w1.heap.size (fun q => cnt (ndA ws) 0 q)) := by
      refine ⟨_, heap_alloc_new _ _, rfl, ?_⟩
      intro q hq
      match q, hq with
      | 0, _ | 1, _ | 2, _ | 3, _ | 4, _ | 5, _ | 6, _ | 7, _ | 8, _ | 9, _ | 10, _ | 11, _ | 12, _ | 13, _ | 14, _ | 15, _ | 16, _ | 17, _ | 18, _ | 19, _ | 20, _ | 21, _ | 22, _ | 23, _ | 24, _ | 25, _ | 26, _ | 27, _ | 28, _ | 29, _ | 30, _ => rfl
      | q + 31, h => omega
    have hgl : w.heap.size ≤ g ∧ g < w1.heap.size := World.ownsRow.lt HO.out.2 g rfl
    have hwl : w.heap.size ≤ w1.heap.size := HJ.out.below.size
    obtain ⟨h, hh⟩ : ∃ h, w1.heap.size = h := ⟨_, rfl⟩
    rw [hh] at HI hgl hwl
    obtain ⟨w2, hw2⟩ : ∃ w2, w1.alloc (.cells #[.int .i64 0, .int .i64 0, .int .i64 0, .int .i64 0, .int .i64 0, .int .i64 0, .int .i64 0, .int .i64 0, .int .i64 0, .int .i64 0, .int .i64 0, .int .i64 0, .int .i64 0, .int .i64 0, .int .i64 0, .int .i64 0, .int .i64 0, .int .i64 0, .int .i64 0, .int .i64 0, .int .i64 0, .int .i64 0, .int .i64 0, .int .i64 0, .int .i64 0, .int .i64 0, .int .i64 0, .int .i64 0, .int .i64 0, .int .i64 0, .int .i64 0] 136) = w2 := ⟨_, rfl⟩
    have HO2 : Hid (OwnN w.heap.size w2 (.slice (some ⟨g, 0, none⟩) n c') n (nodesTo ws n)) := hw2 ▸ HO.out.jk ((Jk.refl _).alloc _)
    have HJ2 : Hid (Jk w w2) := hw2 ▸ HJ.out.alloc _
    rw [hw2] at HI ⊢
    rw [hh]
    clear hw2 hh HO HJ HA
    go_loopg [22] n (fun k i wr => ∃ j : Nat, j + k = n ∧ i = .int .i64 (j : Int) ∧ Ints31 136 wr h (fun q => cnt (ndA ws) j q) ∧ OwnN w.heap.size wr (.slice (some ⟨g, 0, none⟩) n c') n (nodesTo ws n) ∧ Jk w wr ∧ ∀ q, q < j → Fine dim n q (ndA ws q))
    case atStart => exact ⟨0, by omega, rfl, HI.out, HO2.out, HJ2.out, fun q hq => by omega⟩
    case round =>
      obtain ⟨j, hj, rfl, hI, hO, hJ, hF⟩ := hrel
      have HI' := hid hI
      have HO' := hid hO
      have HJ' := hid hJ
      have HF' := hid hF
      have hhs := hI.lt
      clear hI hO hJ hF HI HO2 HJ2
      by_cases hlt : j < n
      · have i0 : (0 : Int) ≤ (j : Int) := by omega
        have i1 : (j : Int) < (n : Int) := by omega
        have hcs := HO'.out.cells hlt
        rw [nodesTo_at ws n j hlt] at hcs
        have HR : Hid ((ndA ws j).rightB = true) := (un_of (HAll.out.2.2 j (by rw [HL.out]; exact hlt))).1
        obtain ⟨x, hx⟩ : ∃ x, ndA ws j = x := ⟨_, rfl⟩
        have HX := hid hx
        rw [hx] at hcs HR
        obtain ⟨leaf, v, f, a', l, r⟩ := x
        clear hx
        obtain ⟨c0, c1, c2, c3, c4, c5⟩ := hcs
        have hgs : g < wr.heap.size := by omega
        cases leaf
        case true =>
          go_wp2
          go_roundg (gk - 1)
          case measure => omega
          case rel =>
            refine ⟨j + 1, by omega, by go_num, ?_, HO'.out.jk ((Jk.refl _).alloc _), HJ'.out.alloc _, fun q hq => ?_⟩
            · refine (HI'.out.jk ((Jk.refl _).alloc _)).congr fun q _ => ?_
              simp only [cnt]
              rw [HX.out, hit_leaf rfl, Int.add_zero]
            · by_cases e : q = j
              · subst e; rw [HX.out]; exact .inl rfl
              · exact HF'.out q (by omega)
        case false =>
          have hR := Nd.right_iff.1 HR.out
          simp [Nd.Right] at hR
          have HNo : Hid (¬ Fine dim n j ⟨false, v, f, a', l, r⟩ → b = false) := by
            intro hn
            cases b
            · rfl
            · have := (HB.out.1 rfl).shape.fine j (by rw [HL.out]; exact hlt)
              rw [HX.out, HL.out] at this
              exact absurd this hn
          by_cases hfd : dim ≤ f
          · have hbf : b = false := HNo.out (by rintro (h | h); cases h; exact absurd h.1 (by simp; omega))
            subst hbf
            clear HNo HB hR
            go_wp2
            refine bodyPost_ret (v := .tuple #[.slice none 0 0, .bool false]) (by simp [results, Tryz.results88, go_sem]) rfl ⟨_, rfl, fun h => Bool.noConfusion h, fun _ => rfl, HJ'.out.alloc _⟩
          · cases hnb : namesB l r j n
            · have hbf : b = false := HNo.out (by
                rintro (h | h)
                · cases h
                · obtain ⟨_, h1, h2, h3, h4, h5⟩ := h
                  have : namesB l r j n = true := by simp [namesB, h1, h2, h3, h4]; exact h5
                  rw [hnb] at this; cases this)
              subst hbf
              have HN := hid (names_is hnb false v f a')
              clear HNo HB hR hnb
              go_wp2_with (first | (go_at_call 98; refine (HN.out.on _).mono ?_; rintro e w1 ⟨rfl, X1, rfl⟩))
              refine bodyPost_ret (v := .tuple #[.slice none 0 0, .bool false]) (by simp [results, Tryz.results88, go_sem]) rfl ⟨_, rfl, fun h => Bool.noConfusion h, fun _ => rfl, (HJ'.out.alloc _).junk _⟩
            · have HN := hid (names_is hnb false v f a')
              obtain ⟨L, rfl⟩ := Int.eq_ofNat_of_zero_le (show 0 ≤ l by omega)
              obtain ⟨R, rfl⟩ := Int.eq_ofNat_of_zero_le (show 0 ≤ r by omega)
              have hFi : Fine dim n j ⟨false, v, f, a', L, R⟩ := by
                simp [namesB] at hnb
                obtain ⟨⟨⟨⟨h1, h2⟩, h3⟩, h4⟩, h5⟩ := hnb
                exact .inr ⟨by simp; omega, by simp; omega, by simp; omega, by simp; omega, by simp; omega, by simp; omega⟩
              have HFi := hid hFi
              have hLR : ¬ L = R ∧ j < L ∧ j < R ∧ L < n ∧ R < n := by
                rcases hFi with h | ⟨_, h1, h2, h3, h4, h5⟩
                · cases h
                · simp at h1 h2 h3 h4 h5; omega
              obtain ⟨hne, hl1, hr1, hl2, hr2⟩ := hLR
              obtain ⟨C1, hC1⟩ : ∃ C, cnt (ndA ws) j L = C := ⟨_, rfl⟩
              obtain ⟨C2, hC2⟩ : ∃ C, cnt (ndA ws) j R = C := ⟨_, rfl⟩
              have b1 := cnt_bd (ndA ws) j L
              have b2 := cnt_bd (ndA ws) j R
              rw [hC1] at b1
              rw [hC2] at b2
              have k1 := HI'.out.cell (q := L) (by omega)
              have k2 := HI'.out.frozen L
              have hS := HI'.out.set (q := L) (by omega) (C1 + 1)
              have k3 := hS.cell (q := R) (by omega)
              have k4 := hS.frozen R
              have HS2 := hid (hS.set (q := R) (by omega) (C2 + 1))
              simp only [hC1, hC2, updN] at k1 k3
              rw [if_neg (fun e => hne e.symm)] at k3
              have HC1 := hid hC1
              have HC2 := hid hC2
              have HO3 := hid ((HO'.out.set (h := h) (by omega) L (.int .i64 (C1 + 1))).set (h := h) (by omega) R (.int .i64 (C2 + 1)))
              have HJ3 := hid ((HJ'.out.set (p := ⟨h, L, none⟩) (show w.heap.size ≤ h by omega) (.int .i64 (C1 + 1))).set (p := ⟨h, R, none⟩) (show w.heap.size ≤ h by omega) (.int .i64 (C2 + 1)))
              have b3 : C1 ≤ 62 := by omega
              have b4 : C2 ≤ 62 := by omega
              have hh1 : h < wr.heap.size + 1 := by omega
              clear hS hC1 hC2 hnb hR hFi HNo
              have l31 : (L : Int) < 31 := by omega
              have r31 : (R : Int) < 31 := by omega
              have l0 : (0 : Int) ≤ (L : Int) := by omega
              have r0 : (0 : Int) ≤ (R : Int) := by omega
              go_wp2_with (first | (go_at_call 98; refine (HN.out.on _).mono ?_; rintro e w1 ⟨rfl, X1, rfl⟩))
              go_roundg (gk - 1)
              case measure => omega
              case rel =>
                refine ⟨j + 1, by omega, by go_num, ?_, HO3.out.jk (((Jk.refl _).alloc _).junk _), (HJ3.out.alloc _).junk _, fun q hq => ?_⟩
                · refine (HS2.out.jk (((Jk.refl _).alloc _).junk _)).congr fun q _ => ?_
                  simp only [cnt]
                  rw [HX.out, hit_other rfl]
                  unfold updN
                  by_cases e1 : q = R
                  · subst e1
                    rw [if_pos rfl, HC2.out, if_neg (by simp; omega), if_pos rfl]; omega
                  · rw [if_neg e1]
                    by_cases e2 : q = L
                    · subst e2
                      rw [if_pos rfl, HC1.out, if_pos rfl, if_neg (by simp; omega)]; omega
                    · rw [if_neg e2, if_neg (by simp; omega), if_neg (by simp; omega)]; simp
                · by_cases e : q = j
                  · subst e; rw [HX.out]; exact HFi.out
                  · exact HF'.out q (by omega)
      · have e : j = n := by omega
        subst e
        have hsl := run_cut31 wr h j (by omega) (by omega)
        obtain ⟨m, rfl⟩ : ∃ m, j = m + 1 := ⟨j - 1, by omega⟩
        have hsl : (Instr.sliceAt 136 (.pointer (some ⟨h, 0, none⟩)) (some (.int .i64 1)) (some (.int .i64 ((m : Int) + 1))) none).run Tryz.prog wr = .ok (.slice (some ⟨h, 1, none⟩) m 30) wr := hsl
        go_wp2
        go_loopg [58] m (fun k i wx => wx = wr ∧ ∃ q : Nat, q + k = m ∧ i = .int .i64 (q : Int) ∧ ∀ y : Nat, 1 ≤ y → y < q + 1 → cnt (ndA ws) (m + 1) y = 1)
        case atStart => exact ⟨rfl, 0, by omega, rfl, fun y _ _ => by omega⟩
        case round =>
          obtain ⟨rfl, q, hq, rfl, hone⟩ := hrel
          have HO1 := hid hone
          clear hone
          by_cases hlt2 : q < m
          · have i0 : (0 : Int) ≤ (q : Int) := by omega
            have i1 : (q : Int) < (m : Int) := by omega
            have k1 := HI'.out.cell (q := 1 + q) (by omega)
            obtain ⟨C, hC⟩ : ∃ C, cnt (ndA ws) (m + 1) ((1 + q : Nat) : Int) = C := ⟨_, rfl⟩
            simp only [hC] at k1
            have HC := hid hC
            clear hC
            by_cases hc1 : C = 1
            · subst hc1
              go_wp2
              go_roundg (gk - 1)
              case measure => omega
              case rel =>
                refine ⟨rfl, q + 1, by omega, by go_num, fun y y1 y2 => ?_⟩
                by_cases e : y = q + 1
                · subst e
                  have := HC.out
                  rw [Nat.add_comm 1 q] at this
                  exact this
                · exact HO1.out y y1 (by omega)
            · have hbf : b = false := by
                cases b
                · rfl
                · have := (HB.out.1 rfl).shape.one (1 + q) (by omega) (by rw [HL.out]; omega)
                  rw [HL.out, HC.out] at this
                  exact absurd this hc1
              subst hbf
              go_wp2
              refine bodyPost_ret (v := .tuple #[.slice none 0 0, .bool false]) (by simp [results, Tryz.results88, go_sem]) rfl ⟨_, rfl, fun h => Bool.noConfusion h, fun _ => rfl, HJ'.out⟩
          · have hqm : q = m := by omega
            subst hqm
            have hbt : b = true := HB.out.2 ⟨HAll.out.1, HAll.out.2.1, HAll.out.2.2, by rw [HL.out]; exact ⟨fun i hi => HF'.out i hi, fun y y1 y2 => HO1.out y y1 y2⟩⟩
            subst hbt
            go_wp2
            refine bodyPost_ret (v := .tuple #[.slice (some ⟨g, 0, none⟩) (q + 1) c', .bool true]) (by simp [results, Tryz.results88, go_sem]) rfl ⟨_, rfl, fun _ => ⟨g, c', rfl, HO'.out⟩, fun h => Bool.noConfusion h, HJ'.out⟩
  · have hbf : b = false := by
      cases b
      · rfl
      · have := HB.out.1 rfl
        exact absurd ⟨this.full, this.few, this.can⟩ hAll
    subst hbf
    have HA := hid (unpackAll_any a n c ws false w hw (by simp [hAll]))
    clear hw hAll
    go_enter Tryz.func88, Tryz.ntmps88
    go_wp2_with (first | (go_at_call 97; refine HA.out.mono ?_; rintro e w1 ⟨v, rfl, _, hv, hj⟩; obtain rfl := hv rfl; have HJ := hid hj; clear hj hv))
    refine bodyPost_ret (v := .tuple #[.slice none 0 0, .bool false]) (by simp [results, Tryz.results88, go_sem]) rfl ⟨_, rfl, fun h => Bool.noConfusion h, fun _ => rfl, HJ.out⟩

theorem right_tree {a : Option Addr} {n c : Nat} {ws : List Int} {dim : Int} {b : Bool} {w : World} (hw : IsW w a n c ws) (hb : b = true ↔ TreeP ws dim) : AnsW w 72 #[.slice a n c, .int .i64 dim] (.bool b) := fun w1 hj => by
  have HT := hid (unpackTree_any a n c ws dim b w1 (hw.jk hj) hb)
  clear hw hb hj
  go_enter Tryz.func72, Tryz.ntmps72
  go_wp2_with (first | (go_at_call 88; refine HT.out.mono ?_; rintro e w2 ⟨v, rfl, _, _, hj⟩; have HJ := hid hj; clear hj))
  go_ret
  exact ⟨rfl, HJ.out⟩

end Go.Proofs.YtkkbeobocbgmeaaGreat

namespace Go.Proofs.YtkkbeobocbgmeaaGreat
open Go.RowKit M

set_option maxRecDepth 100000 in
set_option maxHeartbeats 1600000 in
theorem walk_any {a : Option Addr} {n c : Nat} {ws : List Int} (p : Int → Int) (x y : Int) {w : World} (hw : IsW w a n c ws) (hx : plI (wayW ws p 31 0) = x) (hy : vlI ws (wayW ws p 31 0) = y) :
    Calls Tryz.prog 87 #[.slice a n c, pointV p] w fun e w' => e = .returned (.tuple #[.int .i64 x, .int .i64 y]) ∧ Jk w w' := by
  have J := rules8
  have HL : Hid (ws.length = n) := hw.len
  have HW := hid hw
  have hmax := hw.max
  have hcap := hw.cap
  unfold maxLen at hmax
  have HX := hid hx
  have HY := hid hy
  have HP : Hid (∀ {z : Nd}, 0 ≤ z.f → z.f < 4 → Ans 96 #[nodeV z, pointV p] (.int .i64 (sideI z p))) := fun h0 h1 => way_ans h0 h1 p
  obtain ⟨p0, e0⟩ : ∃ z, p 0 = z := ⟨_, rfl⟩
  obtain ⟨p1, e1⟩ : ∃ z, p 1 = z := ⟨_, rfl⟩
  obtain ⟨p2, e2⟩ : ∃ z, p 2 = z := ⟨_, rfl⟩
  obtain ⟨p3, e3⟩ : ∃ z, p 3 = z := ⟨_, rfl⟩
  simp only [pointV, e0, e1, e2, e3] at HP ⊢
  clear hx hy hw e0 e1 e2 e3
  have hb0 : w.heap.size < (w.alloc (.cells #[.int .i64 p0, .int .i64 p1, .int .i64 p2, .int .i64 p3] 70)).heap.size := by simp
  have HJ0 : Hid (Jk (w.alloc (.cells #[.int .i64 p0, .int .i64 p1, .int .i64 p2, .int .i64 p3] 70)) (w.alloc (.cells #[.int .i64 p0, .int .i64 p1, .int .i64 p2, .int .i64 p3] 70))) := Jk.refl _
  go_enter Tryz.func87, Tryz.ntmps87
  go_wp2
  go_loopg [6, 9] 31 (fun k at' i wr => ∃ j A : Nat, j + k = 31 ∧ i = .int .i64 (j : Int) ∧ at' = .int .i64 (A : Int) ∧ A ≤ 30 ∧ wayW ws p k A = wayW ws p 31 0 ∧ Jk (w.alloc (.cells #[.int .i64 p0, .int .i64 p1, .int .i64 p2, .int .i64 p3] 70)) wr)
  case atStart => exact ⟨0, 0, by omega, rfl, rfl, by omega, rfl, HJ0.out⟩
  case round =>
    obtain ⟨j, A, hj, rfl, rfl, hA, hway, hJ⟩ := hrel
    have HJ' := hid hJ
    have hbs : w.heap.size < wr.heap.size := Nat.lt_of_lt_of_le hb0 hJ.below.size
    have HJw : Hid (Jk w wr) := ((Jk.refl w).alloc _).trans hJ
    clear HJ0 hb0 hJ
    by_cases hfuel : gk = 0
    · subst hfuel
      have hx : -1 = x := by rw [← HX.out, ← hway]; rfl
      have hy : 0 = y := by rw [← HY.out, ← hway]; rfl
      subst hx hy
      have ej : j = 31 := by omega
      subst ej
      clear hway
      go_wp2
      refine bodyPost_ret (v := .tuple #[.int .i64 (-1), .int .i64 0]) (by simp [results, Tryz.results87, go_sem]) rfl ⟨rfl, HJw.out⟩
    · obtain ⟨k, rfl⟩ : ∃ k, gk = k + 1 := ⟨gk - 1, by omega⟩
      have hj31 : (j : Int) < 31 := by omega
      by_cases hAn : n ≤ A
      · have hn : wayW ws p (k + 1) A = none := wayW_out (by rw [HL.out]; omega)
        have hx : -1 = x := by rw [← HX.out, ← hway, hn]; rfl
        have hy : 0 = y := by rw [← HY.out, ← hway, hn]; rfl
        subst hx hy
        have hAn' : (n : Int) ≤ (A : Int) := by omega
        clear hway hn
        go_wp2
        refine bodyPost_ret (v := .tuple #[.int .i64 (-1), .int .i64 0]) (by simp [results, Tryz.results87, go_sem]) rfl ⟨rfl, HJw.out⟩
      · obtain ⟨g, o, rfl, hg, hat⟩ := HW.out.lies (by omega)
        have hAl : A < ws.length := by rw [HL.out]; omega
        have hAn' : (A : Int) < (n : Int) := by omega
        have hA0 : (0 : Int) ≤ (A : Int) := by omega
        have c1 : wr.cell? ⟨g, o + A, none⟩ = some (.int .u64 (wd ws A)) := (hat.jk HJw.out hg) A hAl
        obtain ⟨b1, b2⟩ := HW.out.bd A (by omega)
        have HU := hid (unpack_ans (wd ws A) b1 b2)
        have HN : Hid (unI (wd ws A) = ndA ws A) := rfl
        rw [HN.out] at HU
        clear b1 b2 hat
        cases hu : unB (wd ws A)
        · rw [hu] at HU
          have hn : wayW ws p (k + 1) A = none := wayW_bad hu
          have hx : -1 = x := by rw [← HX.out, ← hway, hn]; rfl
          have hy : 0 = y := by rw [← HY.out, ← hway, hn]; rfl
          subst hx hy
          clear hway hn
          go_wp2_with (first | (go_at_call 95; refine (HU.out.on _).mono ?_; rintro e w1 ⟨rfl, X1, rfl⟩))
          refine bodyPost_ret (v := .tuple #[.int .i64 (-1), .int .i64 0]) (by simp [results, Tryz.results87, go_sem]) rfl ⟨rfl, (HJw.out.junk _).alloc _⟩
        · rw [hu] at HU
          have HR : Hid ((ndA ws A).rightB = true) := (un_of hu).1
          cases hl : (ndA ws A).leaf
          · have hn : wayW ws p (k + 1) A = wayW ws p k (sideI (ndA ws A) p).toNat := wayW_on hAl hu hl
            have HWay : Hid (wayW ws p k (sideI (ndA ws A) p).toNat = wayW ws p 31 0) := hn ▸ hway
            have hRR := Nd.right_iff.1 HR.out
            obtain ⟨z, hz⟩ : ∃ z, ndA ws A = z := ⟨_, rfl⟩
            rw [hz] at HU hl HWay hRR
            obtain ⟨leaf, v, f, a', l, r⟩ := z
            obtain rfl : leaf = false := hl
            simp [Nd.Right] at hRR
            have HS := hid (HP.out (z := ⟨false, v, f, a', l, r⟩) (by simp; omega) (by simp; omega))
            obtain ⟨S, hS⟩ : ∃ S, sideI ⟨false, v, f, a', l, r⟩ p = S := ⟨_, rfl⟩
            have hS2 : 1 ≤ S ∧ S ≤ 30 := by
              rw [← hS]
              rcases side_cases ⟨false, v, f, a', l, r⟩ p with e | e <;> rw [e] <;> simp <;> omega
            rw [hS] at HS HWay
            obtain ⟨S, rfl⟩ := Int.eq_ofNat_of_zero_le (show 0 ≤ S by omega)
            have k0 : wr.cell? ⟨w.heap.size, 0, none⟩ = some (.int .i64 p0) := by
              rw [HJ'.out.below.cell (p := ⟨w.heap.size, 0, none⟩) (by simp)]; exact World.cell?_alloc_at _ _ _ _ rfl
            have k1 : wr.cell? ⟨w.heap.size, 1, none⟩ = some (.int .i64 p1) := by
              rw [HJ'.out.below.cell (p := ⟨w.heap.size, 1, none⟩) (by simp)]; exact World.cell?_alloc_at _ _ _ _ rfl
            have k2 : wr.cell? ⟨w.heap.size, 2, none⟩ = some (.int .i64 p2) := by
              rw [HJ'.out.below.cell (p := ⟨w.heap.size, 2, none⟩) (by simp)]; exact World.cell?_alloc_at _ _ _ _ rfl
            have k3 : wr.cell? ⟨w.heap.size, 3, none⟩ = some (.int .i64 p3) := by
              rw [HJ'.out.below.cell (p := ⟨w.heap.size, 3, none⟩) (by simp)]; exact World.cell?_alloc_at _ _ _ _ rfl
            clear hway hn hz hRR hS
            go_wp2_with (first | (go_at_call 95; refine (HU.out.on _).mono ?_; rintro e w1 ⟨rfl, X1, rfl⟩; have hx1 : w.heap.size < wr.heap.size + Jn X1 := (by omega)) | (go_at_call 96; refine (HS.out.on _).mono ?_; rintro e w1 ⟨rfl, X2, rfl⟩))
            go_roundg k
            case measure => omega
            case rel => exact ⟨j + 1, S, by omega, by go_num, rfl, by omega, by simpa using HWay.out, ((HJ'.out.junk _).alloc _).junk _⟩
          · have hn : wayW ws p (k + 1) A = some A := wayW_leaf hAl hu hl
            have hx : (A : Int) = x := by rw [← HX.out, ← hway, hn]; rfl
            have hy : (ndA ws A).v = y := by rw [← HY.out, ← hway, hn]; rfl
            obtain ⟨z, hz⟩ : ∃ z, ndA ws A = z := ⟨_, rfl⟩
            rw [hz] at HU hl hy
            obtain ⟨leaf, v, f, a', l, r⟩ := z
            obtain rfl : leaf = true := hl
            obtain rfl : v = y := hy
            subst hx
            clear hway hn hz
            go_wp2_with (first | (go_at_call 95; refine (HU.out.on _).mono ?_; rintro e w1 ⟨rfl, X1, rfl⟩))
            go_quiet (fail)
            go_wp2
            refine bodyPost_ret (v := .tuple #[.int .i64 A, .int .i64 v]) (by simp [results, Tryz.results87, go_sem]) rfl ⟨rfl, ?_⟩
            repeat (with_reducible first | exact HJw.out | apply Jk.junk | apply Jk.alloc | apply Jk.drewN)

theorem value_ans {a : Option Addr} {n c : Nat} {ws : List Int} (p : Int → Int) {w : World} (hw : IsW w a n c ws) : AnsW w 69 #[.slice a n c, pointV p] (.int .i64 (vlI ws (wayW ws p 31 0))) := fun w1 hj => by
  have J := rules8
  obtain ⟨x, hx⟩ : ∃ x, plI (wayW ws p 31 0) = x := ⟨_, rfl⟩
  obtain ⟨y, hy⟩ : ∃ y, vlI ws (wayW ws p 31 0) = y := ⟨_, rfl⟩
  have HT := hid (walk_any p x y ((hw.jk hj).jk ((Jk.refl w1).alloc (.cells #[.int .i64 (p 0), .int .i64 (p 1), .int .i64 (p 2), .int .i64 (p 3)] 70))) hx hy)
  rw [hy]
  clear hw hx hy hj
  go_enter Tryz.func69, Tryz.ntmps69
  go_wp2_with (first | (go_at_call 87; refine HT.out.mono ?_; rintro e w2 ⟨rfl, hj⟩; have HJ := hid hj; clear hj))
  go_ret
  exact ⟨rfl, ((Jk.refl w1).alloc _).trans HJ.out⟩

end Go.Proofs.YtkkbeobocbgmeaaGreat

namespace Go.Proofs.YtkkbeobocbgmeaaGreat
open Go.RowKit M

/-- a row of ints of the call's own -/
def GotI (w : World) (zs : List Int) (e : Ending) (w' : World) : Prop := ∃ v m, e = .returned v ∧ OwnI w.heap.size w' v m zs ∧ Jk w w'
theorem row_mono {w : World} {B B' : Nat} {e : TypeId} {size : Nat} {v : Value} {n : Nat} {xs : List Value} (h : w.ownsRow B e size v n xs) (hb : B' ≤ B) : w.ownsRow B' e size v n xs := by
  refine ⟨h.1, ?_⟩
  rcases h.2 with h | ⟨g, cap, cur, h1, h2, h3⟩
  · exact .inl h
  · exact .inr ⟨g, cap, cur, h1, by omega, h3⟩

end Go.Proofs.YtkkbeobocbgmeaaGreat
