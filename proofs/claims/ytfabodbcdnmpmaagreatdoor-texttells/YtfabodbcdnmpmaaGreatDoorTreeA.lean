/- What unpackAll, namesTwo and side of package tree answer: the nodes of a row, if each word is one.
   What namesTwo, side, unpackTree and Right of package tree answer: is a row of words a tree?
   What walk, Walk and Value of package tree answer: the leaf of a point.
   What Leaves and Depth of package tree answer. -/
import Derived.Test.YtfabodbcdnmpmaaGreatDoorRowsT
import Derived.Deep.DeepCutAuto
namespace Go.Proofs.YtfabodbcdnmpmaaGreatDoor
open Go.RowKit M

def nodesTo (ws : List Int) (j : Nat) : List Nd := (List.range j).map (ndA ws)
theorem nodesTo_succ (ws : List Int) (j : Nat) : nodesTo ws (j + 1) = nodesTo ws j ++ [ndA ws j] := by simp [nodesTo, List.range_succ]
theorem nodesTo_length (ws : List Int) (j : Nat) : (nodesTo ws j).length = j := by simp [nodesTo]
theorem nodesTo_at (ws : List Int) (n i : Nat) (h : i < n) : nA (nodesTo ws n) i = ndA ws i := by simp [nA, nodesTo, h]

/-- 1 to 31 words, each of them a node -/
def AllP (ws : List Int) : Prop := 1 ≤ ws.length ∧ ws.length ≤ 31 ∧ ∀ i, i < ws.length → unB (wd ws i) = true

/-- nodes of a row of the call's own, and true; or none, and false -/
def GotN (w : World) (n : Nat) (L : List Nd) (b : Bool) (e : Ending) (w' : World) : Prop :=
  ∃ v, e = .returned (.tuple #[v, .bool b]) ∧ (b = true → ∃ g c', v = .slice (some ⟨g, 0, none⟩) n c' ∧ OwnN w.heap.size w' v n L) ∧ (b = false → v = .slice none 0 0) ∧ Jk w w'

set_option maxRecDepth 100000 in
set_option maxHeartbeats 1600000 in
theorem unpackAll_any (a : Option Addr) (n c : Nat) (ws : List Int) (b : Bool) (w : World) (hw : IsW w a n c ws) (hb : b = true ↔ AllP ws) :
    Calls Tryz.prog 86 #[.slice a n c] w fun e w' => GotN w n (nodesTo ws n) b e w' := by
  have J := rules8
  have hm := hw.max
  unfold maxLen at hm
  have hcap := hw.cap
  by_cases h1 : n < 1
  · have : b = false := by
      cases b
      · rfl
      · have := (hb.1 rfl).1; have := hw.len; omega
    subst this
    have : n = 0 := by omega
    subst this
    clear hw hb
    go_enter Tryz.func86, Tryz.ntmps86
    go_wp2
    refine bodyPost_ret (v := .tuple #[.slice none 0 0, .bool false]) (by simp [results, Tryz.results86, go_sem]) rfl ⟨_, rfl, fun h => Bool.noConfusion h, fun _ => rfl, Jk.refl _⟩
  · by_cases h2 : 31 < n
    · have : b = false := by
        cases b
        · rfl
        · have := (hb.1 rfl).2.1; have := hw.len; omega
      subst this
      clear hw hb
      go_enter Tryz.func86, Tryz.ntmps86
      go_wp2
      refine bodyPost_ret (v := .tuple #[.slice none 0 0, .bool false]) (by simp [results, Tryz.results86, go_sem]) rfl ⟨_, rfl, fun h => Bool.noConfusion h, fun _ => rfl, Jk.refl _⟩
    · obtain ⟨g, o, rfl, hg, hat⟩ := hw.lies (by omega)
      have HA : Hid (AtK .u64 w g o ws) := hat
      have HL : Hid (ws.length = n) := hw.len
      have HBD : Hid (∀ i, i < n → 0 ≤ wd ws i ∧ wd ws i ≤ 18446744073709551615) := hw.bd
      have HB : Hid (b = true ↔ AllP ws) := hb
      clear hat hw hb
      obtain ⟨i0, hi, hz0, hz1, hz2⟩ := info_parts infoN
      obtain ⟨w0, hmk, hown0, hg0⟩ := run_make_own (P := Tryz.prog) w w.heap.size 66 53 i0 (nodeV Nd.nil) 6 Tryz.underlying66 hi hz0 hz1 .i64 .i64 n (by rw [hz2]; omega) (by unfold maxLen; omega) (Nat.le_refl _)
      have HO : Hid (OwnN w.heap.size w0 (.slice (some ⟨w.heap.size, 0, none⟩) 0 n) 0 (nodesTo ws 0)) := ⟨rfl, hown0⟩
      have HJ : Hid (Jk w w0) := (Jk.refl w).grown hg0 (by simp)
      clear hown0 hg0 hz0 hz1 hz2 hi
      have n0 : ¬ (n : Int) < 1 := by omega
      have n1 : ¬ (31 : Int) < (n : Int) := by omega
      go_enter Tryz.func86, Tryz.ntmps86
      go_wp2
      go_loopg [4, 22] n (fun k v i wr => ∃ j : Nat, j + k = n ∧ i = .int .i64 (j : Int) ∧ ∃ g' c', v = .slice (some ⟨g', 0, none⟩) j c' ∧ OwnN w.heap.size wr v j (nodesTo ws j) ∧ Jk w wr ∧ ∀ q, q < j → unB (wd ws q) = true)
      case atStart => exact ⟨0, by omega, rfl, _, _, rfl, HO.out, HJ.out, fun q hq => by omega⟩
      case round =>
        obtain ⟨j, hj, rfl, g', c', rfl, hO, hJ, hall⟩ := hrel
        have HO' := hid hO
        have HJ' := hid hJ
        have HAll := hid hall
        clear hO hJ hall HO HJ
        by_cases hlt : j < n
        · have i0 : (0 : Int) ≤ (j : Int) := by omega
          have i1 : (j : Int) < (n : Int) := by omega
          have e1 : wr.cell? ⟨g, o + j, none⟩ = some (.int .u64 (wd ws j)) := (HA.out.jk HJ'.out hg) j (by rw [HL.out]; exact hlt)
          obtain ⟨b1, b2⟩ := HBD.out j hlt
          have HU := hid (unpack_ans (wd ws j) b1 b2)
          have HN : Hid (unI (wd ws j) = ndA ws j) := rfl
          rw [HN.out] at HU
          clear b1 b2
          cases hu : unB (wd ws j)
          · rw [hu] at HU
            have hbf : b = false := by
              cases b
              · rfl
              · have := (HB.out.1 rfl).2.2 j (by rw [HL.out]; exact hlt)
                rw [hu] at this
                cases this
            subst hbf
            go_wp2_with (first | (go_at_call 40; refine (HU.out.on _).mono ?_; rintro e w1 ⟨rfl, X1, rfl⟩))
            refine bodyPost_ret (v := .tuple #[.slice none 0 0, .bool false]) (by simp [results, Tryz.results86, go_sem]) rfl ⟨_, rfl, fun h => Bool.noConfusion h, fun _ => rfl, ?_⟩
            exact (HJ'.out.junk _).alloc _
          · rw [hu] at HU
            go_wp2_with (first | (go_at_call 40; refine (HU.out.on _).mono ?_; rintro e w1 ⟨rfl, X1, rfl⟩) | (at_builtin; refine list_appN rfl _ _ rfl (HO'.out.jk ((((Jk.refl wr).junk X1).alloc _).alloc _)) ((HJ'.out.junk X1).alloc _ |>.alloc _).below.size rfl _ 1 _ [ndA ws j] rfl (by decide) rfl (new_cells _ _ _ _ (by rw [World.size_alloc, junk_size])) (by omega) ?_; intro g2 c2 w2 hO2 hG2; have HO2 := hid hO2; have HG2 := hid hG2; clear hO2 hG2))
            go_roundg (gk - 1)
            case measure => omega
            case rel =>
              refine ⟨j + 1, by omega, by go_num, g2, c2, rfl, by rw [nodesTo_succ]; exact HO2.out, ((HJ'.out.junk X1).alloc _ |>.alloc _).grown HG2.out HO'.out.base, fun q hq => ?_⟩
              by_cases e : q = j
              · subst e; exact hu
              · exact HAll.out q (by omega)
        · have e : j = n := by omega
          subst e
          have hbt : b = true := HB.out.2 ⟨by rw [HL.out]; omega, by rw [HL.out]; omega, fun i hi => HAll.out i (by rw [HL.out] at hi; exact hi)⟩
          subst hbt
          go_wp2
          refine bodyPost_ret (v := .tuple #[.slice (some ⟨g', 0, none⟩) j c', .bool true]) (by simp [results, Tryz.results86, go_sem]) rfl ⟨_, rfl, fun _ => ⟨g', c', rfl, HO'.out⟩, fun h => (Bool.noConfusion h), HJ'.out⟩

end Go.Proofs.YtfabodbcdnmpmaaGreatDoor

namespace Go.Proofs.YtfabodbcdnmpmaaGreatDoor
open Go.RowKit M

def namesB (l r i n : Int) : Bool := decide (i < l) && decide (i < r) && decide (l < n) && decide (r < n) && !(l == r)
set_option maxRecDepth 100000 in
set_option maxHeartbeats 1600000 in
theorem names_ans (x : Nd) (i n : Int) : Ans 87 #[nodeV x, .int .i64 i, .int .i64 n] (.bool (namesB x.l x.r i n)) := fun w => by
  have J := rules8
  obtain ⟨leaf, v, f, a, l, r⟩ := x
  by_cases h1 : i < l
  case' neg => have e : namesB l r i n = false := by simp [namesB, h1]
  case' pos => by_cases h2 : i < r
  case' neg => have e : namesB l r i n = false := by simp [namesB, h2]
  case' pos => by_cases h3 : l < n
  case' neg => have e : namesB l r i n = false := by simp [namesB, h3]
  case' pos => by_cases h4 : r < n
  case' neg => have e : namesB l r i n = false := by simp [namesB, h4]
  case' pos => by_cases h5 : l = r
  case' neg => have e : namesB l r i n = true := by simp [namesB, h1, h2, h3, h4, h5]
  case' pos => have e : namesB l r i n = false := by simp [namesB, h5]
  all_goals
    show Calls Tryz.prog 87 #[nodeV ⟨leaf, v, f, a, l, r⟩, .int .i64 i, .int .i64 n] w fun e w' => e = .returned (.bool (namesB l r i n)) ∧ Jk w w'
    rw [e]
    clear e
    go_enter Tryz.func87, Tryz.ntmps87
    go_wp2
    go_ret
    exact ⟨by simp [*], (Jk.refl _).alloc _⟩

theorem names_is {l r i n : Int} {b : Bool} (h : namesB l r i n = b) (leaf : Bool) (v f a : Int) : Ans 87 #[.agg #[.bool leaf, .int .i64 v, .int .i64 f, .int .i64 a, .int .i64 l, .int .i64 r], .int .i64 i, .int .i64 n] (.bool b) := by
  subst h
  exact names_ans ⟨leaf, v, f, a, l, r⟩ i n
/-- a point's value -/
abbrev pointV (p : Int → Int) : Value := .agg #[.int .i64 (p 0), .int .i64 (p 1), .int .i64 (p 2), .int .i64 (p 3)]

/-- 31 ints in block h -/
def Ints31 (t : TypeId) (w : World) (h : Nat) (f : Nat → Int) : Prop := ∃ cur : Array Value, w.heap[h]? = some (.cells cur t (0, 0)) ∧ cur.size = 31 ∧ ∀ q, q < 31 → cur[q]? = some (.int .i64 (f q))
def updN (f : Nat → Int) (k : Nat) (x : Int) : Nat → Int := fun q => if q = k then x else f q
theorem Ints31.cell {t : TypeId} {w : World} {h : Nat} {f : Nat → Int} (H : Ints31 t w h f) {q : Nat} (hq : q < 31) : w.cell? ⟨h, q, none⟩ = some (.int .i64 (f q)) := by
  obtain ⟨cur, h1, h2, h3⟩ := H
  rw [cell_of_row _ _ _ _ _ _ h1]
  exact h3 q hq
theorem Ints31.frozen {t : TypeId} {w : World} {h : Nat} {f : Nat → Int} (H : Ints31 t w h f) (q : Nat) : w.frozen? ⟨h, q, none⟩ = false := by
  obtain ⟨cur, h1, h2, h3⟩ := H
  exact frozen_of_row _ _ _ _ _ h1
theorem Ints31.set {t : TypeId} {w : World} {h : Nat} {f : Nat → Int} (H : Ints31 t w h f) {q : Nat} (hq : q < 31) (x : Int) : Ints31 t (w.setCell ⟨h, q, none⟩ (.int .i64 x)) h (updN f q x) := by
  obtain ⟨cur, h1, h2, h3⟩ := H
  refine ⟨_, heap_setCell_same _ _ _ _ _ _ h1, by simpa using h2, fun k hk => ?_⟩
  unfold updN
  by_cases e : k = q
  · subst e
    rw [Array.getElem?_setIfInBounds_self_of_lt (by omega), if_pos rfl]
  · rw [Array.getElem?_setIfInBounds_ne (by omega), if_neg e]
    exact h3 k hk
theorem Ints31.lt {t : TypeId} {w : World} {h : Nat} {f : Nat → Int} (H : Ints31 t w h f) : h < w.heap.size := by
  obtain ⟨cur, h1, h2, h3⟩ := H
  exact (Array.getElem?_eq_some_iff.1 h1).1
theorem Ints31.jk {t : TypeId} {w w' : World} {h : Nat} {f : Nat → Int} (H : Ints31 t w h f) (hj : Jk w w') : Ints31 t w' h f := by
  have hl := H.lt
  obtain ⟨cur, h1, h2, h3⟩ := H
  exact ⟨cur, by rw [hj.below.block h hl]; exact h1, h2, h3⟩
theorem Ints31.congr {t : TypeId} {w : World} {h : Nat} {f f' : Nat → Int} (H : Ints31 t w h f) (e : ∀ q, q < 31 → f q = f' q) : Ints31 t w h f' := by
  obtain ⟨cur, h1, h2, h3⟩ := H
  exact ⟨cur, h1, h2, fun q hq => by rw [← e q hq]; exact h3 q hq⟩

theorem grown_set (w : World) (h q : Nat) (u : Value) : w.grownBy (w.setCell ⟨h, q, none⟩ u) (some h) :=
  ⟨rfl, rfl, rfl, by simp [World.setCell], fun k _ hk => Below.heap_setCell _ _ _ _ (fun e => hk (by simp [e]))⟩
theorem OwnN.set {B : Nat} {w : World} {g c n : Nat} {L : List Nd} (H : OwnN B w (.slice (some ⟨g, 0, none⟩) n c) n L) {h : Nat} (hne : g ≠ h) (q : Nat) (u : Value) : OwnN B (w.setCell ⟨h, q, none⟩ u) (.slice (some ⟨g, 0, none⟩) n c) n L :=
  H.kept (grown_set w h q u) (.inr (by simpa [Value.ownBlock] using hne))

theorem run_cut31 (w : World) (h j : Nat) (h1 : 1 ≤ j) (h2 : j ≤ 31) : (Instr.sliceAt 116 (.pointer (some ⟨h, 0, none⟩)) (some (.int .i64 1)) (some (.int .i64 (j : Int))) none).run Tryz.prog w = .ok (.slice (some ⟨h, 1, none⟩) (j - 1) 30) w := by
  have hal : Tryz.prog.arrayLen 116 = 31 := by kernel_rfl
  have hsz : (sizeOf (Tryz.prog.elem 116)).run Tryz.prog w = .ok 1 w := by kernel_rfl
  rw [run_sliceAt_array_lh (P := Tryz.prog) w 116 ⟨h, 0, none⟩ (by kernel_rfl) .i64 .i64 1 (j : Int) (by omega) (by omega) (by rw [hal]; omega), hsz]
  simp [slicedAt, hal, add_at]

set_option maxRecDepth 100000 in
set_option maxHeartbeats 1600000 in
theorem unpackTree_any (a : Option Addr) (n c : Nat) (ws : List Int) (dim : Int) (b : Bool) (w : World) (hw : IsW w a n c ws) (hb : b = true ↔ TreeP ws dim) :
    Calls Tryz.prog 68 #[.slice a n c, .int .i64 dim] w fun e w' => GotN w n (nodesTo ws n) b e w' := by
  have J := rules8
  have HL : Hid (ws.length = n) := hw.len
  have HB : Hid (b = true ↔ TreeP ws dim) := hb
  clear hb
  by_cases hAll : AllP ws
  · have HA := hid (unpackAll_any a n c ws true w hw (by simp [hAll]))
    have n1 : 1 ≤ n := by rw [← HL.out]; exact hAll.1
    have n2 : n ≤ 31 := by rw [← HL.out]; exact hAll.2.1
    have HAll := hid hAll
    clear hw hAll
    go_enter Tryz.func68, Tryz.ntmps68
    go_wp2_with (first | (go_at_call 86; refine HA.out.mono ?_; rintro e w1 ⟨v, rfl, hv, _, hj⟩; obtain ⟨g, c', rfl, hO⟩ := hv rfl; have HO := hid hO; have HJ := hid hj; clear hO hj hv))
    have HI : Hid (Ints31 116 (w1.alloc (.cells #[.int .i64 0, .int .i64 0, .int .i64 0, .int .i64 0, .int .i64 0, .int .i64 0, .int .i64 0, .int .i64 0, .int .i64 0, .int .i64 0, .int .i64 0, .int .i64 0, .int .i64 0, .int .i64 0, .int .i64 0, .int .i64 0, .int .i64 0, .int .i64 0, .int .i64 0, .int .i64 0, .int .i64 0, .int .i64 0, .int .i64 0, .int .i64 0, .int .i64 0, .int .i64 0, .int .i64 0, .int .i64 0, .int .i64 0, .int .i64 0, .int .i64 0] 116)) w1.heap.size (fun q => cnt (ndA ws) 0 q)) := by
      refine ⟨_, heap_alloc_new _ _, rfl, ?_⟩
      intro q hq
      match q, hq with
      | 0, _ | 1, _ | 2, _ | 3, _ | 4, _ | 5, _ | 6, _ | 7, _ | 8, _ | 9, _ | 10, _ | 11, _ | 12, _ | 13, _ | 14, _ | 15, _ | 16, _ | 17, _ | 18, _ | 19, _ | 20, _ | 21, _ | 22, _ | 23, _ | 24, _ | 25, _ | 26, _ | 27, _ | 28, _ | 29, _ | 30, _ => rfl
      | q + 31, h => omega
    have hgl : w.heap.size ≤ g ∧ g < w1.heap.size := World.ownsRow.lt HO.out.2 g rfl
    have hwl : w.heap.size ≤ w1.heap.size := HJ.out.below.size
    obtain ⟨h, hh⟩ : ∃ h, w1.heap.size = h := ⟨_, rfl⟩
    rw [hh] at HI hgl hwl
    obtain ⟨w2, hw2⟩ : ∃ w2, w1.alloc (.cells #[.int .i64 0, .int .i64 0, .int .i64 0, .int .i64 0, .int .i64 0, .int .i64 0, .int .i64 0, .int .i64 0, .int .i64 0, .int .i64 0, .int .i64 0, .int .i64 0, .int .i64 0, .int .i64 0, .int .i64 0, .int .i64 0, .int .i64 0, .int .i64 0, .int .i64 0, .int .i64 0, .int .i64 0, .int .i64 0, .int .i64 0, .int .i64 0, .int .i64 0, .int .i64 0, .int .i64 0, .int .i64 0, .int .i64 0, .int .i64 0, .int .i64 0] 116) = w2 := ⟨_, rfl⟩
    have HO2 : Hid (OwnN w.heap.size w2 (.slice (some ⟨g, 0, none⟩) n c') n (nodesTo ws n)) := hw2 ▸ HO.out.jk ((Jk.refl _).alloc _)
    have HJ2 : Hid (Jk w w2) := hw2 ▸ HJ.out.alloc _
    rw [hw2] at HI ⊢
    rw [hh]
    clear hw2 hh HO HJ HA
    go_loopg [22] n (fun k i wr => ∃ j : Nat, j + k = n ∧ i = .int .i64 (j : Int) ∧ Ints31 116 wr h (fun q => cnt (ndA ws) j q) ∧ OwnN w.heap.size wr (.slice (some ⟨g, 0, none⟩) n c') n (nodesTo ws n) ∧ Jk w wr ∧ ∀ q, q < j → Fine dim n q (ndA ws q))
    case atStart => exact ⟨0, by omega, rfl, HI.out, HO2.out, HJ2.out, fun q hq => by omega⟩
    case round =>
      obtain ⟨j, hj, rfl, hI, hO, hJ, hF⟩ := hrel
      have HI' := hid hI
      have HO' := hid hO
      have HJ' := hid hJ
      have HF' := hid hF
      have hhs := hI.lt
      clear hI hO hJ hF HI HO2 HJ2
      by_cases hlt : j < n
      · have i0 : (0 : Int) ≤ (j : Int) := by omega
        have i1 : (j : Int) < (n : Int) := by omega
        have hcs := HO'.out.cells hlt
        rw [nodesTo_at ws n j hlt] at hcs
        have HR : Hid ((ndA ws j).rightB = true) := (un_of (HAll.out.2.2 j (by rw [HL.out]; exact hlt))).1
        obtain ⟨x, hx⟩ : ∃ x, ndA ws j = x := ⟨_, rfl⟩
        have HX := hid hx
        rw [hx] at hcs HR
        obtain ⟨leaf, v, f, a', l, r⟩ := x
        clear hx
        obtain ⟨c0, c1, c2, c3, c4, c5⟩ := hcs
        have hgs : g < wr.heap.size := by omega
        cases leaf
        case true =>
          go_wp2
          go_roundg (gk - 1)
          case measure => omega
          case rel =>
            refine ⟨j + 1, by omega, by go_num, ?_, HO'.out.jk ((Jk.refl _).alloc _), HJ'.out.alloc _, fun q hq => ?_⟩
            · refine (HI'.out.jk ((Jk.refl _).alloc _)).congr fun q _ => ?_
              simp only [cnt]
              rw [HX.out, hit_leaf rfl, Int.add_zero]
            · by_cases e : q = j
              · subst e; rw [HX.out]; exact .inl rfl
              · exact HF'.out q (by omega)
        case false =>
          have hR := Nd.right_iff.1 HR.out
          simp [Nd.Right] at hR
          have HNo : Hid (¬ Fine dim n j ⟨false, v, f, a', l, r⟩ → b = false) := by
            intro hn
            cases b
            · rfl
            · have := (HB.out.1 rfl).shape.fine j (by rw [HL.out]; exact hlt)
              rw [HX.out, HL.out] at this
              exact absurd this hn
          by_cases hfd : dim ≤ f
          · have hbf : b = false := HNo.out (by rintro (h | h); cases h; exact absurd h.1 (by simp; omega))
            subst hbf
            clear HNo HB hR
            go_wp2
            refine bodyPost_ret (v := .tuple #[.slice none 0 0, .bool false]) (by simp [results, Tryz.results68, go_sem]) rfl ⟨_, rfl, fun h => Bool.noConfusion h, fun _ => rfl, HJ'.out.alloc _⟩
          · cases hnb : namesB l r j n
            · have hbf : b = false := HNo.out (by
                rintro (h | h)
                · cases h
                · obtain ⟨_, h1, h2, h3, h4, h5⟩ := h
                  have : namesB l r j n = true := by simp [namesB, h1, h2, h3, h4]; exact h5
                  rw [hnb] at this; cases this)
              subst hbf
              have HN := hid (names_is hnb false v f a')
              clear HNo HB hR hnb
              go_wp2_with (first | (go_at_call 87; refine (HN.out.on _).mono ?_; rintro e w1 ⟨rfl, X1, rfl⟩))
              refine bodyPost_ret (v := .tuple #[.slice none 0 0, .bool false]) (by simp [results, Tryz.results68, go_sem]) rfl ⟨_, rfl, fun h => Bool.noConfusion h, fun _ => rfl, (HJ'.out.alloc _).junk _⟩
            · have HN := hid (names_is hnb false v f a')
              obtain ⟨L, rfl⟩ := Int.eq_ofNat_of_zero_le (show 0 ≤ l by omega)
              obtain ⟨R, rfl⟩ := Int.eq_ofNat_of_zero_le (show 0 ≤ r by omega)
              have hFi : Fine dim n j ⟨false, v, f, a', L, R⟩ := by
                simp [namesB] at hnb
                obtain ⟨⟨⟨⟨h1, h2⟩, h3⟩, h4⟩, h5⟩ := hnb
                exact .inr ⟨by simp; omega, by simp; omega, by simp; omega, by simp; omega, by simp; omega, by simp; omega⟩
              have HFi := hid hFi
              have hLR : ¬ L = R ∧ j < L ∧ j < R ∧ L < n ∧ R < n := by
                rcases hFi with h | ⟨_, h1, h2, h3, h4, h5⟩
                · cases h
                · simp at h1 h2 h3 h4 h5; omega
              obtain ⟨hne, hl1, hr1, hl2, hr2⟩ := hLR
              obtain ⟨C1, hC1⟩ : ∃ C, cnt (ndA ws) j L = C := ⟨_, rfl⟩
              obtain ⟨C2, hC2⟩ : ∃ C, cnt (ndA ws) j R = C := ⟨_, rfl⟩
              have b1 := cnt_bd (ndA ws) j L
              have b2 := cnt_bd (ndA ws) j R
              rw [hC1] at b1
              rw [hC2] at b2
              have k1 := HI'.out.cell (q := L) (by omega)
              have k2 := HI'.out.frozen L
              have hS := HI'.out.set (q := L) (by omega) (C1 + 1)
              have k3 := hS.cell (q := R) (by omega)
              have k4 := hS.frozen R
              have HS2 := hid (hS.set (q := R) (by omega) (C2 + 1))
              simp only [hC1, hC2, updN] at k1 k3
              rw [if_neg (fun e => hne e.symm)] at k3
              have HC1 := hid hC1
              have HC2 := hid hC2
              have HO3 := hid ((HO'.out.set (h := h) (by omega) L (.int .i64 (C1 + 1))).set (h := h) (by omega) R (.int .i64 (C2 + 1)))
              have HJ3 := hid ((HJ'.out.set (p := ⟨h, L, none⟩) (show w.heap.size ≤ h by omega) (.int .i64 (C1 + 1))).set (p := ⟨h, R, none⟩) (show w.heap.size ≤ h by omega) (.int .i64 (C2 + 1)))
              have b3 : C1 ≤ 62 := by omega
              have b4 : C2 ≤ 62 := by omega
              have hh1 : h < wr.heap.size + 1 := by omega
              clear hS hC1 hC2 hnb hR hFi HNo
              have l31 : (L : Int) < 31 := by omega
              have r31 : (R : Int) < 31 := by omega
              have l0 : (0 : Int) ≤ (L : Int) := by omega
              have r0 : (0 : Int) ≤ (R : Int) := by omega
              go_wp2_with (first | (go_at_call 87; refine (HN.out.on _).mono ?_; rintro e w1 ⟨rfl, X1, rfl⟩))
              go_roundg (gk - 1)
              case measure => omega
              case rel =>
                refine ⟨j + 1, by omega, by go_num, ?_, HO3.out.jk (((Jk.refl _).alloc _).junk _), (HJ3.out.alloc _).junk _, fun q hq => ?_⟩
                · refine (HS2.out.jk (((Jk.refl _).alloc _).junk _)).congr fun q _ => ?_
                  simp only [cnt]
                  rw [HX.out, hit_other rfl]
                  unfold updN
                  by_cases e1 : q = R
                  · subst e1
                    rw [if_pos rfl, HC2.out, if_neg (by simp; omega), if_pos rfl]; omega
                  · rw [if_neg e1]
                    by_cases e2 : q = L
                    · subst e2
                      rw [if_pos rfl, HC1.out, if_pos rfl, if_neg (by simp; omega)]; omega
                    · rw [if_neg e2, if_neg (by simp; omega), if_neg (by simp; omega)]; simp
                · by_cases e : q = j
                  · subst e; rw [HX.out]; exact HFi.out
                  · exact HF'.out q (by omega)
      · have e : j = n := by omega
        subst e
        have hsl := run_cut31 wr h j (by omega) (by omega)
        obtain ⟨m, rfl⟩ : ∃ m, j = m + 1 := ⟨j - 1, by omega⟩
        have hsl : (Instr.sliceAt 116 (.pointer (some ⟨h, 0, none⟩)) (some (.int .i64 1)) (some (.int .i64 ((m : Int) + 1))) none).run Tryz.prog wr = .ok (.slice (some ⟨h, 1, none⟩) m 30) wr := hsl
        go_wp2
        go_loopg [58] m (fun k i wx => wx = wr ∧ ∃ q : Nat, q + k = m ∧ i = .int .i64 (q : Int) ∧ ∀ y : Nat, 1 ≤ y → y < q + 1 → cnt (ndA ws) (m + 1) y = 1)
        case atStart => exact ⟨rfl, 0, by omega, rfl, fun y _ _ => by omega⟩
        case round =>
          obtain ⟨rfl, q, hq, rfl, hone⟩ := hrel
          have HO1 := hid hone
          clear hone
          by_cases hlt2 : q < m
          · have i0 : (0 : Int) ≤ (q : Int) := by omega
            have i1 : (q : Int) < (m : Int) := by omega
            have k1 := HI'.out.cell (q := 1 + q) (by omega)
            obtain ⟨C, hC⟩ : ∃ C, cnt (ndA ws) (m + 1) ((1 + q : Nat) : Int) = C := ⟨_, rfl⟩
            simp only [hC] at k1
            have HC := hid hC
            clear hC
            by_cases hc1 : C = 1
            · subst hc1
              go_wp2
              go_roundg (gk - 1)
              case measure => omega
              case rel =>
                refine ⟨rfl, q + 1, by omega, by go_num, fun y y1 y2 => ?_⟩
                by_cases e : y = q + 1
                · subst e
                  have := HC.out
                  rw [Nat.add_comm 1 q] at this
                  exact this
                · exact HO1.out y y1 (by omega)
            · have hbf : b = false := by
                cases b
                · rfl
                · have := (HB.out.1 rfl).shape.one (1 + q) (by omega) (by rw [HL.out]; omega)
                  rw [HL.out, HC.out] at this
                  exact absurd this hc1
              subst hbf
              go_wp2
              refine bodyPost_ret (v := .tuple #[.slice none 0 0, .bool false]) (by simp [results, Tryz.results68, go_sem]) rfl ⟨_, rfl, fun h => Bool.noConfusion h, fun _ => rfl, HJ'.out⟩
          · have hqm : q = m := by omega
            subst hqm
            have hbt : b = true := HB.out.2 ⟨HAll.out.1, HAll.out.2.1, HAll.out.2.2, by rw [HL.out]; exact ⟨fun i hi => HF'.out i hi, fun y y1 y2 => HO1.out y y1 y2⟩⟩
            subst hbt
            go_wp2
            refine bodyPost_ret (v := .tuple #[.slice (some ⟨g, 0, none⟩) (q + 1) c', .bool true]) (by simp [results, Tryz.results68, go_sem]) rfl ⟨_, rfl, fun _ => ⟨g, c', rfl, HO'.out⟩, fun h => Bool.noConfusion h, HJ'.out⟩
  · have hbf : b = false := by
      cases b
      · rfl
      · have := HB.out.1 rfl
        exact absurd ⟨this.full, this.few, this.can⟩ hAll
    subst hbf
    have HA := hid (unpackAll_any a n c ws false w hw (by simp [hAll]))
    clear hw hAll
    go_enter Tryz.func68, Tryz.ntmps68
    go_wp2_with (first | (go_at_call 86; refine HA.out.mono ?_; rintro e w1 ⟨v, rfl, _, hv, hj⟩; obtain rfl := hv rfl; have HJ := hid hj; clear hj hv))
    refine bodyPost_ret (v := .tuple #[.slice none 0 0, .bool false]) (by simp [results, Tryz.results68, go_sem]) rfl ⟨_, rfl, fun h => Bool.noConfusion h, fun _ => rfl, HJ.out⟩

theorem right_tree {a : Option Addr} {n c : Nat} {ws : List Int} {dim : Int} {b : Bool} {w : World} (hw : IsW w a n c ws) (hb : b = true ↔ TreeP ws dim) : AnsW w 53 #[.slice a n c, .int .i64 dim] (.bool b) := fun w1 hj => by
  have HT := hid (unpackTree_any a n c ws dim b w1 (hw.jk hj) hb)
  clear hw hb hj
  go_enter Tryz.func53, Tryz.ntmps53
  go_wp2_with (first | (go_at_call 68; refine HT.out.mono ?_; rintro e w2 ⟨v, rfl, _, _, hj⟩; have HJ := hid hj; clear hj))
  go_ret
  exact ⟨rfl, HJ.out⟩

end Go.Proofs.YtfabodbcdnmpmaaGreatDoor

namespace Go.Proofs.YtfabodbcdnmpmaaGreatDoor
open Go.RowKit M


end Go.Proofs.YtfabodbcdnmpmaaGreatDoor

namespace Go.Proofs.YtfabodbcdnmpmaaGreatDoor
open Go.RowKit M

/-- a row of ints of the call's own -/
def GotI (w : World) (zs : List Int) (e : Ending) (w' : World) : Prop := ∃ v m, e = .returned v ∧ OwnI w.heap.size w' v m zs ∧ Jk w w'
theorem row_mono {w : World} {B B' : Nat} {e : TypeId} {size : Nat} {v : Value} {n : Nat} {xs : List Value} (h : w.ownsRow B e size v n xs) (hb : B' ≤ B) : w.ownsRow B' e size v n xs := by
  refine ⟨h.1, ?_⟩
  rcases h.2 with h | ⟨g, cap, cur, h1, h2, h3⟩
  · exact .inl h
  · exact .inr ⟨g, cap, cur, h1, by omega, h3⟩

end Go.Proofs.YtfabodbcdnmpmaaGreatDoor
