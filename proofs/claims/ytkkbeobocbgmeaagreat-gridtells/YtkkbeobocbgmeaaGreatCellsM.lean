/- What partsFeature and Thresholds of package model answer. The library's sorting goes by the contracts that the kit's command laid (text Shelf).
   What the statement ModelCells rests on: thresholds are nodes' own; points above the same thresholds come to the same sums. -/
import Derived.Test.YtkkbeobocbgmeaaGreatMathV
import Derived.Test.YtkkbeobocbgmeaaGreatModelE
import Derived.Test.YtkkbeobocbgmeaaGreatTreeA
import Derived.Test.YtkkbeobocbgmeaaGreatShelf
import Derived.Test.YtkkbeobocbgmeaaGreatRowsF
namespace Go.Proofs.YtkkbeobocbgmeaaGreat
open Go.RowKit Go.Sort M

theorem parts_ans {x f : Int} {b : Bool} (hx : 0 ≤ x) (hx2 : x ≤ 18446744073709551615) (hb : partB x f = b) : Ans 43 #[.int .u64 x, .int .i64 f] (.bool b) := fun w => by
  have HG1 := hid (get_ans hx hx2 (get_leaf x hx))
  have HG2 := hid (get_ans hx hx2 (get_feature x hx))
  have h1 : 0 ≤ x / 4294967296 % 16 ∧ x / 4294967296 % 16 < 16 := by omega
  obtain ⟨L, hL⟩ : ∃ L, x / 9223372036854775808 % 2 = L := ⟨_, rfl⟩
  obtain ⟨G, hG⟩ : ∃ G, x / 4294967296 % 16 = G := ⟨_, rfl⟩
  unfold partB at hb
  rw [hL] at HG1 hb
  rw [hG] at HG2 hb h1
  clear hL hG
  have J := rules8
  by_cases hl : L = 0
  · subst hl
    simp only [decide_true, Bool.true_and] at hb
    by_cases hg : G = f
    · subst hg
      obtain rfl : true = b := by simpa using hb
      go_enter Tryz.func43, Tryz.ntmps43
      go_wp2_with (first | (go_at_call 61; refine (Ans.on (by with_reducible first | exact HG1.out | exact HG2.out) _).mono ?_; rintro e w1 ⟨rfl, X1, rfl⟩))
      go_ret
      exact ⟨by simp, by repeat (with_reducible first | exact Jk.refl _ | apply Jk.junk | apply Jk.alloc)⟩
    · obtain rfl : false = b := by simpa [hg] using hb
      have hg2 : (G == f) = false := by simpa using hg
      go_enter Tryz.func43, Tryz.ntmps43
      go_wp2_with (first | (go_at_call 61; refine (Ans.on (by with_reducible first | exact HG1.out | exact HG2.out) _).mono ?_; rintro e w1 ⟨rfl, X1, rfl⟩))
      go_ret
      exact ⟨by simp, by repeat (with_reducible first | exact Jk.refl _ | apply Jk.junk | apply Jk.alloc)⟩
  · obtain rfl : false = b := by simpa [hl] using hb
    have hl2 : (L == 0) = false := by simpa using hl
    go_enter Tryz.func43, Tryz.ntmps43
    go_wp2_with (first | (go_at_call 61; refine (Ans.on (by with_reducible first | exact HG1.out | exact HG2.out) _).mono ?_; rintro e w1 ⟨rfl, X1, rfl⟩))
    go_ret
    exact ⟨rfl, by repeat (with_reducible first | exact Jk.refl _ | apply Jk.junk | apply Jk.alloc)⟩
theorem sg_ans {x y : Int} (hx : 0 ≤ x) (hx2 : x ≤ 18446744073709551615) (h : sgI x = y) : Ans 44 #[.int .u64 x, .int .i64 0, .int .i64 32] (.int .i64 y) := fun w =>
  (signed_any x 0 32 w hx hx2).mono fun _ _ ⟨e, n, hw⟩ => ⟨by rw [e, signed_number x hx, h], hw ▸ Jk.drewN (Jk.refl w) n⟩

/-- the thresholds of a feature among the first j trees -/
def atsT (ts : List Tr) (f : Int) : Nat → List Int
  | 0 => []
  | j + 1 => atsT ts f j ++ atsW (tA ts j).ws f (tA ts j).ws.length
theorem atsT_mem {ts : List Tr} {f x : Int} {j : Nat} : x ∈ atsT ts f j ↔ ∃ i, i < j ∧ x ∈ atsW (tA ts i).ws f (tA ts i).ws.length := by
  induction j with
  | zero => simp [atsT]
  | succ j ih =>
    simp only [atsT, List.mem_append, ih]
    constructor
    · rintro (⟨i, h1, h2⟩ | h)
      · exact ⟨i, by omega, h2⟩
      · exact ⟨j, by omega, h⟩
    · rintro ⟨i, h1, h2⟩
      by_cases e : i = j
      · subst e; exact .inr h2
      · exact .inl ⟨i, by omega, h2⟩
theorem atsT_len {ts : List Tr} {f : Int} (j : Nat) (h : ∀ i, i < j → (tA ts i).ws.length ≤ 31) : (atsT ts f j).length ≤ 31 * j := by
  induction j with
  | zero => simp [atsT]
  | succ j ih =>
    have h1 := ih fun i hi => h i (by omega)
    have h2 := h j (by omega)
    have h3 := atsW_len (tA ts j).ws f (tA ts j).ws.length
    simp only [atsT, List.length_append]
    omega
/-- a row of ints that the call hands back -/
def GotZ (w : World) (zs : List Int) (e : Ending) (w' : World) : Prop := ∃ a n c, e = .returned (.slice a n c) ∧ IsI w' a n c zs ∧ Jk w w'

theorem thr_no {m : Md} {f : Int} {ww : World} (hw : m.ok ww) (hr : ¬ RightM m) : AnsW ww 30 #[modelV m, .int .i64 f] (.slice none 0 0) := fun w hjw => by
  have HX := hid (rightM_ans (b := false) (hw.jk hjw) (by simp [hr]))
  clear hw hjw hr
  obtain ⟨d, k, b0, b1, b2, a, n, cp, ts⟩ := m
  simp only [modelV] at HX ⊢
  have J := rules8
  go_enter Tryz.func30, Tryz.ntmps30
  go_wp2_with (first | (go_at_call 42; refine (HX.out.on _ (by repeat (with_reducible first | exact Jk.refl _ | apply Jk.junk | apply Jk.alloc))).mono ?_; rintro e w1 ⟨rfl, X1, rfl⟩))
  go_ret
  exact ⟨rfl, by repeat (with_reducible first | exact Jk.refl _ | apply Jk.junk | apply Jk.alloc)⟩

theorem cell_same' {w w' : World} {b o : Nat} (h : w'.heap[b]? = w.heap[b]?) : w'.cell? ⟨b, o, none⟩ = w.cell? ⟨b, o, none⟩ := by simp [World.cell?, h]
theorem frozen_same {w w' : World} {b o : Nat} (h : w'.heap[b]? = w.heap[b]?) : w'.frozen? ⟨b, o, none⟩ = w.frozen? ⟨b, o, none⟩ := by simp [World.frozen?, h]
theorem jk_put {a w : World} (h : Jk a w) {blk off n : Nat} (hb : a.heap.size ≤ blk) (d : Array Int) (os : Array Obj) : Jk a (grow (putRow (Value.int .i64) (Sort.ahead w n) blk off d) os) := by
  have hs := h.below.size
  refine Jk.of_below ⟨h.below.os, h.below.tape, h.below.output, ?_, fun k hk => ?_⟩
  · simp [grow, putRow, mapBlock, Sort.ahead]; omega
  · rw [← h.below.block k hk]
    have hne : blk ≠ k := by omega
    simp [grow, putRow, mapBlock, Sort.ahead, Array.getElem?_append, Array.getElem?_modify, hne]
    omega
theorem jk_put0 {a w : World} (h : Jk a w) {blk off n : Nat} (hb : a.heap.size ≤ blk) (d : Array Int) : Jk a (putRow (Value.int .i64) (Sort.ahead w n) blk off d) := by
  have := jk_put (n := n) (off := off) h hb d #[]
  rwa [grow_empty] at this
theorem nth_bang {d : Array Int} {j : Nat} (h : j < d.size) : d[j]! = wd d.toList j := by
  rw [getElem!_pos d j h]
  simp [wd, h]
/-- the numbers lie there, and may be written to -/
theorem holds_of {w : World} {g : Nat} {L : List Int} (h1 : AtK .i64 w g 0 L) (h2 : ∀ j, w.frozen? ⟨g, j, none⟩ = false) : Holds (Value.int .i64) w g 0 L.toArray := fun j hj => by
  rw [nth_bang hj]
  exact ⟨h1 j (by simpa using hj), h2 _⟩
theorem grow_cell {w : World} {os : Array Obj} {g j : Nat} (hg : g < w.heap.size) : (grow w os).cell? ⟨g, j, none⟩ = w.cell? ⟨g, j, none⟩ := cell_same' (by simp [grow, Array.getElem?_append, hg])
/-- Sort and Compact, one behind the other -/
theorem sort_row {B w : World} {g q c : Nat} {L : List Int} (hL : L.length = q) (hq : q ≤ 1000) (hB : B.heap.size ≤ g) (hg : g < w.heap.size) (hJ : Jk B w) (h1 : AtK .i64 w g 0 L) (h2 : ∀ j, w.frozen? ⟨g, j, none⟩ = false) :
    Calls Tryz.prog 45 #[.slice (some ⟨g, 0, none⟩) q c] w fun e w' => e = .returned (.tuple #[]) ∧ AtK .i64 w' g 0 (sortI L) ∧ (∀ j, w'.frozen? ⟨g, j, none⟩ = false) ∧ g < w'.heap.size ∧ Jk B w' := by
  subst hL
  refine (Tryz.slices_Sort_int g 0 c L w (holds_of h1 h2) hg (by omega)).mono ?_
  rintro e w' ⟨he, n, os, rfl⟩
  have hsz : g < (putRow (Value.int .i64) (Sort.ahead w n) g 0 (sortI L).toArray).heap.size := by simpa [putRow, mapBlock, Sort.ahead] using hg
  refine ⟨he, fun j hj => ?_, fun j => ?_, ?_, jk_put hJ hB _ _⟩
  · rw [grow_cell (by simpa [putRow, mapBlock, Sort.ahead] using hg)]
    have := cell?_putRow (Value.int .i64) (Sort.ahead w n) g 0 L.toArray (sortI L).toArray (holds_of h1 h2) (by simp [sortI_len]) j (by simpa using hj)
    rw [nth_bang (by simpa using hj)] at this
    exact this
  · have h3 : (grow (putRow (Value.int .i64) (Sort.ahead w n) g 0 (sortI L).toArray) os).frozen? ⟨g, j, none⟩ = (putRow (Value.int .i64) (Sort.ahead w n) g 0 (sortI L).toArray).frozen? ⟨g, j, none⟩ := frozen_same (by simp only [grow]; rw [Array.getElem?_append_left hsz])
    exact h3.trans (by rw [frozen?_putRow]; exact h2 j)
  · rw [size_grow]; exact Nat.lt_of_lt_of_le hsz (Nat.le_add_right _ _)
theorem compact_row {B w : World} {g q c : Nat} {L : List Int} (hL : L.length = q) (hq : q ≤ 1000) (hc : q ≤ c) (hB : B.heap.size ≤ g) (hg : g < w.heap.size) (hJ : Jk B w) (h1 : AtK .i64 w g 0 L) (h2 : ∀ j, w.frozen? ⟨g, j, none⟩ = false) :
    Calls Tryz.prog 46 #[.slice (some ⟨g, 0, none⟩) q c] w fun e w' => e = .returned (.slice (some ⟨g, 0, none⟩) (Lib.compact L).length c) ∧ AtK .i64 w' g 0 (Lib.compact L) ∧ g < w'.heap.size ∧ Jk B w' := by
  subst hL
  refine (Tryz.slices_Compact_int g 0 c L w (holds_of h1 h2) (by omega) hc).mono ?_
  rintro e w' ⟨he, n, rfl⟩
  have hle : (Lib.compact L).length ≤ L.length := by
    unfold Lib.compact Lib.compactUpTo
    rw [List.length_map]
    exact Nat.le_trans (List.length_filter_le _ _) (by simp)
  refine ⟨he, fun j hj => ?_, by simpa [putRow, mapBlock, Sort.ahead] using hg, jk_put0 hJ hB _⟩
  have hj2 : j < (Lib.compact L ++ List.replicate (L.length - (Lib.compact L).length) 0).toArray.size := by simp; omega
  have := cell?_putRow (Value.int .i64) (Sort.ahead w n) g 0 L.toArray (Lib.compact L ++ List.replicate (L.length - (Lib.compact L).length) 0).toArray (holds_of h1 h2) (by simp; omega) j hj2
  rw [nth_bang hj2] at this
  rw [this]
  congr 2
  exact wd_append_left _ _ _ hj

set_option maxRecDepth 100000 in
set_option maxHeartbeats 3200000 in
theorem thr_yes {m : Md} {f : Int} (w : World) (hw : m.ok w) (hr : RightM m) : Calls Tryz.prog 30 #[modelV m, .int .i64 f] w fun e w' => GotZ w (thr (atsT m.ts f m.n)) e w' := by
  have HX := hid (rightM_ans (b := true) hw (by simp [hr]))
  have h8 := hr.n8 hw
  have hT := hw.is
  have HTs : Hid (∀ i, i < m.n → TreeP (tA m.ts i).ws m.d) := fun i hi => (hr.trees.2 i (by rw [hT.len]; exact hi)).tree
  clear hw hr
  obtain ⟨d, k, b0, b1, b2, a, n, c, ts⟩ := m
  simp only [modelV] at HX hT h8 HTs ⊢
  have J := rules8
  have HL : Hid (ts.length = n) := hT.len
  have hmax := hT.max
  have hcap := hT.cap
  unfold maxLen at hmax
  obtain ⟨w0, hw0⟩ : ∃ w0, w.alloc (.cells #[.int .i64 d, .int .i64 k, .int .i64 b0, .int .i64 b1, .int .i64 b2, .slice a n c] 31) = w0 := ⟨_, rfl⟩
  have HI0 : Hid (MdIn w0 w.heap.size ⟨d, k, b0, b1, b2, a, n, c, ts⟩) := hw0 ▸ MdIn.laid w ⟨d, k, b0, b1, b2, a, n, c, ts⟩ _
  have H0 : Hid (Jk w w0) := hw0 ▸ (Jk.refl w).alloc _
  have HT : Hid (IsT w0 a n c ts) := hT.jk H0.out
  clear hT
  obtain ⟨i0, i1, i2, i3, i4, i5, i6⟩ := HI0.out
  simp only at i1 i2 i3 i4 i5 i6
  go_enter Tryz.func30, Tryz.ntmps30
  go_wp2_with (first | (go_at_call 42; refine (HX.out.on _ (by repeat (with_reducible first | exact H0.out | apply Jk.junk | apply Jk.alloc))).mono ?_; rintro e w1 ⟨rfl, X1, rfl⟩))
  have HJs : Hid (Jk w0 (junk w0 X1)) := (Jk.refl w0).junk X1
  go_loopg [5, 16] n (fun r v i wr => ∃ j q : Nat, j + r = n ∧ i = .int .i64 (j : Int) ∧ OwnI w0.heap.size wr v q (atsT ts f j) ∧ Hid (Jk w0 wr))
  case atStart => exact ⟨0, 0, by omega, rfl, ⟨rfl, World.ownsRow_nil _ _ _ _⟩, HJs⟩
  case round =>
    obtain ⟨j, q, hj, rfl, hO, HJ⟩ := hrel
    clear i0 i1 i2 i3 i4 i5 i6 HX HJs
    have HO := hid hO
    clear hO
    by_cases hfuel : gk = 0
    · subst hfuel
      obtain rfl : j = n := by omega
      have hlen := atsT_len (ts := ts) (f := f) j (fun i hi => (HTs.out i (by omega)).few)
      rw [HO.out.1] at hlen
      have hsz := H0.out.below.size
      obtain ⟨av, cv, rfl, hcv1, hcv2, hform⟩ := row_form HO.out.2
      by_cases hq : q = 0
      · subst hq
        have HE : Hid (atsT ts f j = []) := List.eq_nil_of_length_eq_zero HO.out.1
        go_wp2_with (first | (go_at_call 45; refine (Tryz.slices_Sort_int_none _ _ _).mono ?_; rintro e w' ⟨rfl, hw⟩; obtain rfl := hw.symm) | (go_at_call 46; refine (Tryz.slices_Compact_int_empty _ _ _).mono ?_; rintro e w' ⟨rfl, hw⟩; obtain rfl := hw.symm))
        go_ret
        refine ⟨av, 0, cv, rfl, ?_, H0.out.trans HJ.out⟩
        rw [HE.out]
        exact ⟨by have := thr_len []; simpa using this, hcv1, hcv2, fun i hi => by omega, fun h => by omega⟩
      · obtain ⟨gv, rfl, hgv1, hgv2⟩ := hform (by omega)
        have HA1 : Hid (AtK .i64 wr gv 0 (atsT ts f j)) := HO.out.at
        have HA2 : Hid (∀ x, wr.frozen? ⟨gv, x, none⟩ = false) := fun x => HO.out.2.frozenAt x
        have HSo := hid (sort_row (c := cv) HO.out.1 (by omega) hgv1 hgv2 HJ.out HA1.out HA2.out)
        go_wp2_with (first | (go_at_call 45; refine HSo.out.mono ?_; rintro e w2 ⟨rfl, hs1, hs2, hs3, hs4⟩; have HCo := hid (compact_row (c := cv) ((sortI_len _).trans HO.out.1) (by omega) hcv1 hgv1 hs3 hs4 hs1 hs2); clear hs1 hs2 hs3 hs4) | (go_at_call 46; refine HCo.out.mono ?_; rintro e w3 ⟨rfl, hs5, hs6, hs7⟩; have HA3 := hid hs5; have HJ3 := hid hs7; clear hs5 hs7))
        go_ret
        have ht := thr_len (atsT ts f j)
        rw [HO.out.1] at ht
        refine ⟨_, _, cv, rfl, ⟨rfl, ?_, hcv2, fun i hi => ?_, fun _ => ⟨gv, 0, rfl, hs6, HA3.out⟩⟩, H0.out.trans HJ3.out⟩
        · show (thr (atsT ts f j)).length ≤ cv
          omega
        · have hm : wd (thr (atsT ts f j)) i ∈ thr (atsT ts f j) := by
            have hi' : i < (thr (atsT ts f j)).length := hi
            simp only [wd, List.getD_eq_getElem?_getD, List.getElem?_eq_getElem hi', Option.getD_some]
            exact List.getElem_mem _
          obtain ⟨i2, _, h5⟩ := atsT_mem.1 (thr_mem.1 hm)
          have := atsW_bd h5
          omega
    · obtain ⟨r, rfl⟩ : ∃ r, gk = r + 1 := ⟨gk - 1, by omega⟩
      have hjn : (j : Int) < (n : Int) := by omega
      obtain ⟨g, o, rfl, hg, hat⟩ := HT.out.lies (by omega)
      have hgr : g < wr.heap.size := Nat.lt_of_lt_of_le hg HJ.out.below.size
      obtain ⟨k0, k1⟩ := (hat.jk HJ.out hg) j (by rw [HL.out]; omega)
      have hok := (HT.out.all j (by omega)).is
      have HTr : Hid (TreeP (tA ts j).ws d) := HTs.out j (by omega)
      have HAt : Hid (atsT ts f (j + 1) = atsT ts f j ++ atsW (tA ts j).ws f (tA ts j).ws.length) := rfl
      obtain ⟨t, ht⟩ : ∃ t, tA ts j = t := ⟨_, rfl⟩
      rw [ht] at k0 k1 hok HTr HAt
      clear ht hat
      obtain ⟨cl, ta, tn, tc, tw⟩ := t
      simp only at k0 k1 HTr HAt hok
      have HW := hid hok
      have hmax2 := hok.max
      have hcap2 := hok.cap
      have HLw : Hid (tw.length = tn) := hok.len
      have h31 : tn ≤ 31 := by have := HTr.out.few; rw [HLw.out] at this; exact this
      unfold maxLen at hmax2
      have hlen := atsT_len (ts := ts) (f := f) j (fun i hi => (HTs.out i (by omega)).few)
      rw [HO.out.1] at hlen
      clear hok
      go_wp2
      go_loopg [5, 23] tn (fun r v i wx => ∃ x q2 : Nat, x + r = tn ∧ i = .int .i64 (x : Int) ∧ OwnI w0.heap.size wx v q2 (atsT ts f j ++ atsW tw f x) ∧ Hid (Jk w0 wx))
      case atStart => exact ⟨0, q, by omega, rfl, by simp only [atsW, List.append_nil]; exact HO.out.jk ((Jk.refl wr).alloc _), hid (HJ.out.alloc _)⟩
      case round =>
        obtain ⟨x, q2, hx, rfl, hO2, HJ2⟩ := hrel
        have HO2 := hid hO2
        clear hO2 k0 k1
        by_cases hfuel2 : gk = 0
        · subst hfuel2
          obtain rfl : x = tn := by omega
          go_wp2
          go_roundg r
          case measure => omega
          case rel => exact ⟨j + 1, q2, by omega, by go_num, by rw [HAt.out, HLw.out]; exact HO2.out, HJ2⟩
        · obtain ⟨r2, rfl⟩ : ∃ r, gk = r + 1 := ⟨gk - 1, by omega⟩
          have hxn : (x : Int) < (tn : Int) := by omega
          obtain ⟨g2, o2, rfl, hg2, hat2⟩ := HW.out.lies (by omega)
          have hgr2 : g2 < wr.heap.size := Nat.lt_of_lt_of_le hg2 HJ2.out.below.size
          have k2 : wr.cell? ⟨g2, o2 + x, none⟩ = some (.int .u64 (wd tw x)) := (hat2.jk HJ2.out hg2) x (by rw [HLw.out]; omega)
          obtain ⟨bd1, bd2⟩ := HW.out.bd x (by omega)
          have hq2 : q2 ≤ 300 := by
            have := HO2.out.1
            rw [List.length_append] at this
            have := atsW_len tw f x
            have := HO.out.1
            omega
          have HAx : Hid (atsW tw f (x + 1) = atsW tw f x ++ (if partB (wd tw x) f = true then [sgI (wd tw x)] else [])) := rfl
          obtain ⟨b, hb⟩ : ∃ b, partB (wd tw x) f = b := ⟨_, rfl⟩
          obtain ⟨s, hs⟩ : ∃ s, sgI (wd tw x) = s := ⟨_, rfl⟩
          have HP := hid (parts_ans bd1 bd2 hb)
          have HS := hid (sg_ans bd1 bd2 hs)
          rw [hb, hs] at HAx
          have hsz2 := HJ2.out.below.size
          clear hb hs hat2 bd1 bd2
          cases b
          · go_wp2_with (first | (go_at_call 43; refine (HP.out.on _).mono ?_; rintro e w1 ⟨rfl, X3, rfl⟩))
            go_roundg r2
            case measure => omega
            case rel => exact ⟨x + 1, q2, by omega, by go_num, by rw [HAx.out]; simpa using HO2.out.jk ((Jk.refl wr).junk _), by repeat (with_reducible first | exact HJ2 | apply hid | exact HJ2.out | apply Jk.junk | apply Jk.alloc)⟩
          · go_wp2_with (first | (go_at_call 43; refine (HP.out.on _).mono ?_; rintro e w1 ⟨rfl, X3, rfl⟩) | (go_at_call 44; refine (HS.out.on _).mono ?_; rintro e w1 ⟨rfl, X4, rfl⟩) | (at_builtin; refine list_appI rfl _ _ rfl (HO2.out.jk ((((Jk.refl wr).junk X3).junk X4).alloc _)) (by rw [World.size_alloc, junk_size, junk_size]; omega) rfl _ 0 1 _ [s] rfl (by decide) rfl (fun i hi => new_cells _ #[.int .i64 s] _ _ (by rw [junk_size, junk_size]) (0 + i) _ (by simp at hi; subst hi; rfl)) (by omega) ?_; intro g3 c3 w3 hO3 hG3; have HO3 := hid hO3; have HG3 := hid hG3; clear hO3 hG3))
            go_roundg r2
            case measure => omega
            case rel =>
              refine ⟨x + 1, q2 + 1, by omega, by go_num, ?_, hid ?_⟩
              · rw [HAx.out, if_pos trivial, ← List.append_assoc]
                exact HO3.out
              · exact (((HJ2.out.junk X3).junk X4).alloc _).grown HG3.out (fun k hk => HO2.out.base k hk)

end Go.Proofs.YtkkbeobocbgmeaaGreat

namespace Go.Proofs.YtkkbeobocbgmeaaGreat
open Go.RowKit M

/-- the node of that word parts feature f at t -/
def HitN (x f t : Int) : Prop := (unI x).leaf = false ∧ (unI x).f = f ∧ (unI x).a = t
theorem thr_hit {m : Md} (hr : RightM m) {f t : Int} (h : t ∈ thr (atsT m.ts f m.ts.length)) : ∃ I X, I < m.ts.length ∧ X < (tA m.ts I).ws.length ∧ HitN (wd (tA m.ts I).ws X) f t := by
  obtain ⟨I, hI, h1⟩ := atsT_mem.1 (thr_mem.1 h)
  obtain ⟨X, hX, h2, h3⟩ := atsW_mem.1 h1
  have hu := (hr.trees.2 I hI).tree.can X hX
  exact ⟨I, X, hI, hX, ((part_iff hu).1 h2).1, ((part_iff hu).1 h2).2, by rw [← part_at hu h2]; exact h3⟩
theorem sum_same {m : Md} (hr : RightM m) {p q : Int → Int} (h : ∀ f : Nat, (f : Int) < m.d → ∀ t, t ∈ thr (atsT m.ts f m.ts.length) → (p f ≤ t ↔ q f ≤ t)) (c : Int) : m.sum p c = m.sum q c := by
  have hv : ∀ i, i < m.ts.length → valW (tA m.ts i).ws p = valW (tA m.ts i).ws q := fun i hi => by
    have ht := (hr.trees.2 i hi).tree
    unfold valW
    rw [wayW_same (p := p) (q := q) (fun j hj hu hl => ?_) 31 0]
    have hR := Nd.right_iff.1 (un_of hu).1
    have hf0 : 0 ≤ (ndA (tA m.ts i).ws j).f := by
      unfold ndA at hl ⊢
      generalize unI (wd (tA m.ts i).ws j) = z at hl hR ⊢
      obtain ⟨leaf, v, f, a', l, r⟩ := z
      simp only at hl
      subst hl
      simp [Nd.Right] at hR
      simp only
      omega
    have hfd : (ndA (tA m.ts i).ws j).f < m.d := by
      rcases ht.shape.fine j hj with e | e
      · rw [hl] at e; cases e
      · exact e.1
    obtain ⟨F, hF⟩ := Int.eq_ofNat_of_zero_le hf0
    have hmem : (ndA (tA m.ts i).ws j).a ∈ thr (atsT m.ts (F : Int) m.ts.length) := by
      rw [thr_mem, atsT_mem]
      refine ⟨i, hi, atsW_mem.2 ⟨j, hj, ?_, ?_⟩⟩
      · rw [part_iff hu]; exact ⟨hl, hF⟩
      · exact part_at hu ((part_iff (f := (F : Int)) hu).2 ⟨hl, hF⟩)
    have := h F (by omega) _ hmem
    rwa [← hF] at this
  have hs : ∀ j, j ≤ m.ts.length → sumTo m.ts p c j = sumTo m.ts q c j := by
    intro j
    induction j with
    | zero => intro _; rfl
    | succ j ih => intro hj; simp only [sumTo, ih (by omega), hv j (by omega)]
  unfold Md.sum
  rw [hs _ (Nat.le_refl _)]
theorem thr_none {m : Md} (hr : RightM m) {f : Int} (hf : f < 0 ∨ m.d ≤ f) : thr (atsT m.ts f m.ts.length) = [] := by
  refine List.eq_nil_iff_forall_not_mem.2 fun t ht => ?_
  obtain ⟨I, X, hI, hX, h1, h2, _⟩ := thr_hit hr ht
  have hT := (hr.trees.2 I hI).tree
  have hR := Nd.right_iff.1 (un_of (hT.can X hX)).1
  have hfd : (unI (wd (tA m.ts I).ws X)).f < m.d := by
    rcases hT.shape.fine X hX with e | e
    · unfold ndA at e; rw [h1] at e; cases e
    · exact e.1
  generalize unI (wd (tA m.ts I).ws X) = z at h1 h2 hR hfd
  obtain ⟨leaf, v, g, a', l, r⟩ := z
  simp only at h1 h2 hfd
  subst h1 h2
  simp [Nd.Right] at hR
  omega

end Go.Proofs.YtkkbeobocbgmeaaGreat
