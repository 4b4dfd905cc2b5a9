/- The reader of package ask: a word, a word passed, the words ahead of the region. Conditions: what package ask asks of the functions beyond it ('LibA').
   What read of package ask answers of any text. Conditions: what package ask asks of the functions beyond it ('LibA').
   What Parse of package ask answers of any text. Conditions: what package ask asks of the functions beyond it ('LibA'). -/
import Derived.Test.YtjpffempmlfoeaaDoorAskLib
import Derived.Test.YtjpffempmlfoeaaDoorBoxQ
import Derived.Test.YtjpffempmlfoeaaDoorAskText
namespace Go.Proofs.YtjpffempmlfoeaaDoor
open Go.RowKit M

/-- a reader in a block of its own -/
def RaB (w : World) (b : Nat) (l : Txt) : Prop := w.heap[b]? = some (.cells #[tx l] 68 (0, 0))
theorem RaB.lt {w : World} {b : Nat} {l : Txt} (h : RaB w b l) : b < w.heap.size := (Array.getElem?_eq_some_iff.1 h).1
theorem RaB.c0 {w : World} {b : Nat} {l : Txt} (h : RaB w b l) : w.cell? ⟨b, 0, none⟩ = some (tx l) := by rw [cell_of_row _ _ _ _ _ _ h]; rfl
theorem RaB.fr {w : World} {b : Nat} {l : Txt} (h : RaB w b l) (q : Nat) : w.frozen? ⟨b, q, none⟩ = false := frozen_of_row _ _ _ _ _ h
theorem RaB.set {w : World} {b : Nat} {l : Txt} (h : RaB w b l) (l' : Txt) : RaB (w.setCell ⟨b, 0, none⟩ (tx l')) b l' := heap_setCell_same _ _ _ _ _ _ h
theorem RaB.jk {w w' : World} {b : Nat} {l : Txt} (h : RaB w b l) (hj : Jk w w') : RaB w' b l := (hj.below.block b h.lt).trans h
theorem RaB.laid (w : World) (l : Txt) : RaB (w.alloc (.cells #[tx l] 68)) w.heap.size l := heap_alloc_new w _
theorem Jk.by {w w' : World} (h : Jk w w') (b : Nat) : w.grownBy w' (some b) := ⟨h.below.os, h.below.tape, h.below.output, h.below.size, fun k hk _ => h.below.block k hk⟩
theorem end_none {P : Program} {fn : Func} {R : Ending → World → Prop} {a : Act} {w : World} (hr : fn.results = #[]) (hd : a.defers = []) (hR : R (.returned (.tuple #[])) w) : bodyPost P fn R .normal a w := by
  refine bodyPost_ret (v := .tuple #[]) (results_none hr _ _ _) hd hR
/-- the reader lies in block b of a world that has grown from wb -/
structure RaJ (wb : World) (b : Nat) (l : Txt) (w : World) : Prop where
  j : Jk wb w
  base : wb.heap.size ≤ b
  rd : RaB w b l
theorem RaJ.call {wb w w' : World} {b : Nat} {l l' : Txt} (h : RaJ wb b l w) (hr : RaB w' b l') (hg : w.grownBy w' (some b)) : RaJ wb b l' w' :=
  ⟨h.j.grown hg (fun k hk => by cases hk; exact h.base), h.base, hr⟩
theorem RaJ.grow {wb w w' : World} {b : Nat} {l : Txt} (h : RaJ wb b l w) (hj : Jk w w') : RaJ wb b l w' := ⟨h.j.trans hj, h.base, h.rd.jk hj⟩
/-- a call on the reader: what it answers, what it leaves -/
def AnsA (wb : World) (b : Nat) (f : Nat) (args : Array Value) (l : Txt) (v : Value) (l' : Txt) : Prop := ∀ w, RaJ wb b l w → Calls Tryd.prog f args w fun e w' => e = .returned v ∧ RaB w' b l' ∧ w.grownBy w' (some b)
theorem AnsA.on {wb : World} {b : Nat} {f : Nat} {args : Array Value} {l : Txt} {v : Value} {l' : Txt} (h : AnsA wb b f args l v l') {w : World} (hr : RaJ wb b l w) : Calls Tryd.prog f args w fun e w' => e = .returned v ∧ RaB w' b l' ∧ w.grownBy w' (some b) := h w hr
set_option maxRecDepth 100000 in
theorem word_r {wb : World} (hL : LibA wb) (b : Nat) (l : Txt) (hl : l.length ≤ 2000000) {h t : Txt} (e1 : befB l = h) (e2 : aftB l = t) : AnsA wb b 25 #[.pointer (some ⟨b, 0, none⟩)] l (tx h) t := fun w H => by
  have J := rules8
  have HC := hid ((hL.cut l [32] hl).at H.j)
  rw [show (Lib.cut l [32]).1 = h from e1, show (Lib.cut l [32]).2.1 = t from e2] at HC
  generalize (Lib.cut l [32]).2.2 = ok at HC
  have HR := hid H.rd
  have c0 := H.rd.c0
  have f0 := H.rd.fr 0
  have hb := H.rd.lt
  clear H hL e1 e2
  go_enter Tryd.func25, Tryd.ntmps25
  go_wp2_with (go_at_call 38; refine (HC.out _ (Jk.refl _)).mono ?_; rintro e w1 ⟨rfl, X1, rfl⟩)
  go_ret
  exact ⟨rfl, (HR.out.set t).jk ⟨X1, rfl⟩, (grown_set w b 0 _).trans (Jk.by ⟨X1, rfl⟩ b)⟩
set_option maxRecDepth 100000 in
theorem pass_r {wb : World} (hL : LibA wb) (b : Nat) (l : Txt) (hl : l.length ≤ 2000000) {t : Txt} (e2 : aftB l = t) : AnsA wb b 24 #[.pointer (some ⟨b, 0, none⟩)] l (.tuple #[]) t := fun w H => by
  have HW := hid (word_r hL b l hl rfl e2)
  have HR := hid H
  clear H hL e2
  go_enter Tryd.func24, Tryd.ntmps24
  go_wp2_with (go_at_call 25; refine (HW.out.on HR.out).mono ?_; rintro e w1 ⟨rfl, hr, hg⟩)
  exact end_none rfl rfl ⟨rfl, hr, hg⟩

/-- kind at work: the reader, the query that is made, the result's cell -/
structure KdS (w wb : World) (b : Nat) (l : Txt) (q : Qy) (z : World) : Prop where
  rd : RaJ wb b l z
  gr : w.grownBy z (some b)
  qb : QyB z (w.heap.size + 1) q
  zb : QyB z w.heap.size Qy.nil
  bl : b < w.heap.size
  wl : wb.heap.size ≤ w.heap.size
theorem KdS.call {w wb : World} {b : Nat} {l l' : Txt} {q : Qy} {z z' : World} (H : KdS w wb b l q z) (hr : RaB z' b l') (hg : z.grownBy z' (some b)) : KdS w wb b l' q z' :=
  ⟨H.rd.call hr hg, H.gr.trans hg, H.qb.by hg (by have := H.bl; omega), H.zb.by hg (by have := H.bl; omega), H.bl, H.wl⟩
theorem KdS.jk {w wb : World} {b : Nat} {l : Txt} {q : Qy} {z z' : World} (H : KdS w wb b l q z) (hj : Jk z z') : KdS w wb b l q z' :=
  ⟨H.rd.grow hj, H.gr.trans (hj.by b), H.qb.jk hj, H.zb.jk hj, H.bl, H.wl⟩
theorem put_new {w w' : World} {b r : Nat} (h : w.grownBy w' (some b)) (hr : w.heap.size ≤ r) (q : Nat) (u : Value) : w.grownBy (w'.setCell ⟨r, q, none⟩ u) (some b) :=
  ⟨h.os, h.tape, h.output, Nat.le_trans h.size (grown_set w' r q u).size, fun k hk hne => ((grown_set w' r q u).block k (Nat.lt_of_lt_of_le hk h.size) (by simp; omega)).trans (h.block k hk hne)⟩
theorem grown_past {w z z' : World} {b r : Nat} (h : w.grownBy z (some b)) (hg : z.grownBy z' (some r)) (hr : w.heap.size ≤ r) : w.grownBy z' (some b) :=
  ⟨hg.os.trans h.os, hg.tape.trans h.tape, hg.output.trans h.output, Nat.le_trans h.size hg.size, fun k hk hne => (hg.block k (Nat.lt_of_lt_of_le hk h.size) (by simp; omega)).trans (h.block k hk hne)⟩
theorem KdS.set {w wb : World} {b : Nat} {l : Txt} {q q' : Qy} {z : World} (H : KdS w wb b l q z) {i : Nat} {u : Value} (hq : QyB (z.setCell ⟨w.heap.size + 1, i, none⟩ u) (w.heap.size + 1) q') : KdS w wb b l q' (z.setCell ⟨w.heap.size + 1, i, none⟩ u) :=
  ⟨⟨H.rd.j.set (Nat.le_succ_of_le H.wl) u, H.rd.base, ((grown_set z (w.heap.size + 1) i u).block b H.rd.rd.lt (by have := H.bl; simp; omega)).trans H.rd.rd⟩, put_new H.gr (Nat.le_succ _) i u, hq, H.zb.by (grown_set z (w.heap.size + 1) i u) (by omega), H.bl, H.wl⟩

set_option maxRecDepth 100000 in
set_option maxHeartbeats 6400000 in
theorem kind_range {wb : World} (hL : LibA wb) (b : Nat) (l : Txt) (hl : l.length ≤ 2000000) (hh : befB l = kRange) : AnsA wb b 23 #[.pointer (some ⟨b, 0, none⟩)] l (queryV (kindA l).1) (kindA l).2 := fun w H => by
  obtain ⟨l1, e1⟩ : ∃ z, aftB l = z := ⟨_, rfl⟩
  have b1 : l1.length ≤ 2000000 := by have := aftB_len l; rw [e1] at this; omega
  obtain ⟨l2, e2⟩ : ∃ z, aftB l1 = z := ⟨_, rfl⟩
  have b2 : l2.length ≤ 2000000 := by have := aftB_len l1; rw [e2] at this; omega
  obtain ⟨wc, hwc⟩ : ∃ z, befB l1 = z := ⟨_, rfl⟩
  have bwc : wc.length ≤ 2000000 := by have := befB_len l1; rw [hwc] at this; omega
  obtain ⟨l3, e3⟩ : ∃ z, aftB l2 = z := ⟨_, rfl⟩
  have b3 : l3.length ≤ 2000000 := by have := aftB_len l2; rw [e3] at this; omega
  obtain ⟨l4, e4⟩ : ∃ z, aftB l3 = z := ⟨_, rfl⟩
  have b4 : l4.length ≤ 2000000 := by have := aftB_len l3; rw [e4] at this; omega
  obtain ⟨wl, hwl⟩ : ∃ z, befB l3 = z := ⟨_, rfl⟩
  have bwl : wl.length ≤ 2000000 := by have := befB_len l3; rw [hwl] at this; omega
  obtain ⟨l5, e5⟩ : ∃ z, aftB l4 = z := ⟨_, rfl⟩
  have b5 : l5.length ≤ 2000000 := by have := aftB_len l4; rw [e5] at this; omega
  obtain ⟨l6, e6⟩ : ∃ z, aftB l5 = z := ⟨_, rfl⟩
  have b6 : l6.length ≤ 2000000 := by have := aftB_len l5; rw [e6] at this; omega
  obtain ⟨wh, hwh⟩ : ∃ z, befB l5 = z := ⟨_, rfl⟩
  have bwh : wh.length ≤ 2000000 := by have := befB_len l5; rw [hwh] at this; omega
  have H1 := hid (word_r hL b l hl hh e1)
  have H2 := hid (word_r hL b l1 b1 hwc e2)
  have H3 := hid (pass_r hL b l2 b2 e3)
  have H4 := hid (word_r hL b l3 b3 hwl e4)
  have H5 := hid (pass_r hL b l4 b4 e5)
  have H6 := hid (word_r hL b l5 b5 hwh e6)
  have SC := hid (smallOf_ans hL wc bwc)
  have NL := hid (number_ans hL wl bwl)
  have NH := hid (number_ans hL wh bwh)
  obtain ⟨C, hC⟩ : ∃ z, smV wc = z := ⟨_, rfl⟩
  obtain ⟨LO, hLO⟩ : ∃ z, scanN wl = z := ⟨_, rfl⟩
  obtain ⟨HI, hHI⟩ : ∃ z, scanN wh = z := ⟨_, rfl⟩
  have HK : kindA l = (⟨1, C, Bx.nil, LO, HI, 0, false, 0⟩, l6) := by
    unfold kindA
    rw [if_pos hh, e1, hwc, e2, e3, hwl, e4, e5, hwh, e6, hC, hLO, hHI]
  rw [HK]
  rw [hC] at SC
  rw [hLO] at NL
  rw [hHI] at NH
  clear HK hC hLO hHI e1 e2 e3 e4 e5 e6 b1 b2 b3 b4 b5 b6 hwc hwl hwh bwc bwl bwh hh
  have J := rules8
  obtain ⟨w0, hw0⟩ : ∃ w0, (w.alloc (.cells #[.int .i64 0, .int .i64 0, .int .i64 0, .int .i64 0, .int .i64 0, .int .i64 0, .int .i64 0, .int .i64 0, .int .i64 0, .int .i64 0, .int .i64 0, .int .i64 0, .int .i64 0, .int .i64 0, .int .i64 0, .bool false, .int .i64 0] 27)).alloc (.cells #[.int .i64 0, .int .i64 0, .int .i64 0, .int .i64 0, .int .i64 0, .int .i64 0, .int .i64 0, .int .i64 0, .int .i64 0, .int .i64 0, .int .i64 0, .int .i64 0, .int .i64 0, .int .i64 0, .int .i64 0, .bool false, .int .i64 0] 27) = w0 := ⟨_, rfl⟩
  have hJ0 : Jk w w0 := hw0 ▸ ((Jk.refl w).alloc _).alloc _
  have HS0 : Hid (KdS w wb b l ⟨0, 0, Bx.nil, 0, 0, 0, false, 0⟩ w0) := by
    refine ⟨H.grow hJ0, hJ0.by b, ?_, ?_, H.rd.lt, H.j.below.size⟩
    · rw [← hw0]
      have := QyB.laid (w.alloc (.cells #[.int .i64 0, .int .i64 0, .int .i64 0, .int .i64 0, .int .i64 0, .int .i64 0, .int .i64 0, .int .i64 0, .int .i64 0, .int .i64 0, .int .i64 0, .int .i64 0, .int .i64 0, .int .i64 0, .int .i64 0, .bool false, .int .i64 0] 27)) Qy.nil
      rwa [World.size_alloc] at this
    · rw [← hw0]
      exact (QyB.laid w Qy.nil).jk ((Jk.refl _).alloc _)
  clear H hJ0 hL hl
  go_enter Tryd.func23, Tryd.ntmps23
  go_upto_region 3 with (go_at_call 25; refine (H1.out.on HS0.out.rd).mono ?_; rintro e w1 ⟨rfl, hr, hg⟩; have HS1 := hid (HS0.out.call hr hg); clear hr hg HS0)
  go_upto_region 4 with (first | (go_at_call 25; refine (H2.out.on HS1.out.rd).mono ?_; rintro e w2 ⟨rfl, hr, hg⟩; have HS2 := hid (HS1.out.call hr hg); clear hr hg HS1) | (go_at_call 27; refine (SC.out _ HS2.out.rd.j).mono ?_; rintro e w3 ⟨rfl, hj⟩; have HS3 := hid (HS2.out.jk hj); clear hj HS2; obtain ⟨x0, x1, x2, x3, x4, x5, x6, x7, x8, x9, x10, x11, x12, x13, x14, x15, x16⟩ := HS3.out.qb.in; have xl := HS3.out.qb.lt; have xf := HS3.out.qb.frozen; clear x2 x3 x4 x5 x6 x7 x8 x9 x10 x11; simp only at x0 x1 x12 x13 x14 x15 x16))
  have HS4 := hid (HS3.out.set (HS3.out.qb.setCl C))
  generalize w3.setCell ⟨w.heap.size + 1, 1, none⟩ (.int .i64 C) = w4 at HS4 ⊢
  simp only at HS4
  clear HS3
  clear x0 x1 x12 x13 x14 x15 x16 xl xf
  obtain ⟨x0, x1, x2, x3, x4, x5, x6, x7, x8, x9, x10, x11, x12, x13, x14, x15, x16⟩ := HS4.out.qb.in
  have xl := HS4.out.qb.lt
  have xf := HS4.out.qb.frozen
  clear x2 x3 x4 x5 x6 x7 x8 x9 x10 x11
  simp only at x0 x1 x12 x13 x14 x15 x16
  go_upto_region 7 with fail
  have HS5 := hid (HS4.out.set (HS4.out.qb.setKd 1))
  generalize w4.setCell ⟨w.heap.size + 1, 0, none⟩ (.int .i64 1) = w5 at HS5 ⊢
  simp only at HS5
  clear HS4
  clear x0 x1 x12 x13 x14 x15 x16 xl xf
  go_upto_region 8 with (go_at_call 24; refine (H3.out.on HS5.out.rd).mono ?_; rintro e w6 ⟨rfl, hr, hg⟩; have HS6 := hid (HS5.out.call hr hg); clear hr hg HS5)
  go_upto_region 9 with (first | (go_at_call 25; refine (H4.out.on HS6.out.rd).mono ?_; rintro e w7 ⟨rfl, hr, hg⟩; have HS7 := hid (HS6.out.call hr hg); clear hr hg HS6) | (go_at_call 37; refine (NL.out _ HS7.out.rd.j).mono ?_; rintro e w8 ⟨rfl, hj⟩; have HS8 := hid (HS7.out.jk hj); clear hj HS7; obtain ⟨x0, x1, x2, x3, x4, x5, x6, x7, x8, x9, x10, x11, x12, x13, x14, x15, x16⟩ := HS8.out.qb.in; have xl := HS8.out.qb.lt; have xf := HS8.out.qb.frozen; clear x2 x3 x4 x5 x6 x7 x8 x9 x10 x11; simp only at x0 x1 x12 x13 x14 x15 x16))
  have HS9 := hid (HS8.out.set (HS8.out.qb.setLo LO))
  generalize w8.setCell ⟨w.heap.size + 1, 12, none⟩ (.int .i64 LO) = w9 at HS9 ⊢
  simp only at HS9
  clear HS8
  clear x0 x1 x12 x13 x14 x15 x16 xl xf
  go_upto_region 10 with (go_at_call 24; refine (H5.out.on HS9.out.rd).mono ?_; rintro e w10 ⟨rfl, hr, hg⟩; have HS10 := hid (HS9.out.call hr hg); clear hr hg HS9)
  go_upto_region 18 with (first | (go_at_call 25; refine (H6.out.on HS10.out.rd).mono ?_; rintro e w11 ⟨rfl, hr, hg⟩; have HS11 := hid (HS10.out.call hr hg); clear hr hg HS10) | (go_at_call 37; refine (NH.out _ HS11.out.rd.j).mono ?_; rintro e w12 ⟨rfl, hj⟩; have HS12 := hid (HS11.out.jk hj); clear hj HS11; obtain ⟨x0, x1, x2, x3, x4, x5, x6, x7, x8, x9, x10, x11, x12, x13, x14, x15, x16⟩ := HS12.out.qb.in; have xl := HS12.out.qb.lt; have xf := HS12.out.qb.frozen; clear x2 x3 x4 x5 x6 x7 x8 x9 x10 x11; simp only at x0 x1 x12 x13 x14 x15 x16))
  have HS13 := hid (HS12.out.set (HS12.out.qb.setHi HI))
  generalize w12.setCell ⟨w.heap.size + 1, 13, none⟩ (.int .i64 HI) = w13 at HS13 ⊢
  simp only at HS13
  clear HS12
  clear x0 x1 x12 x13 x14 x15 x16 xl xf
  refine wp_region_lit ?_
  refine list_loadQ rfl _ rfl HS13.out.qb rfl ?_
  refine list_storeQ rfl _ _ rfl HS13.out.zb rfl ⟨1, C, Bx.nil, LO, HI, 0, false, 0⟩ rfl fun w99 hq9 hg9 => ?_
  have HE := hid (⟨hq9, ((HS13.out.rd.rd : RaB _ _ _)), HS13.out, hg9⟩ : QyB w99 w.heap.size ⟨1, C, Bx.nil, LO, HI, 0, false, 0⟩ ∧ RaB w13 b _ ∧ KdS w wb b _ ⟨1, C, Bx.nil, LO, HI, 0, false, 0⟩ w13 ∧ w13.grownBy w99 (some w.heap.size))
  go_wp2
  refine bodyPost_ret (results_cell Tryd.results23 rfl (load_Q HE.out.1)) rfl ⟨rfl, ?_, ?_⟩
  · exact (HE.out.2.2.2.block b HE.out.2.1.lt (by have := HE.out.2.2.1.bl; simp; omega)).trans HE.out.2.1
  · exact grown_past HE.out.2.2.1.gr HE.out.2.2.2 (Nat.le_refl _)

set_option maxRecDepth 100000 in
set_option maxHeartbeats 6400000 in
theorem kind_best {wb : World} (hL : LibA wb) (b : Nat) (l : Txt) (hl : l.length ≤ 2000000) (hh : befB l = kBest) : AnsA wb b 23 #[.pointer (some ⟨b, 0, none⟩)] l (queryV (kindA l).1) (kindA l).2 := fun w H => by
  obtain ⟨l1, e1⟩ : ∃ z, aftB l = z := ⟨_, rfl⟩
  have b1 : l1.length ≤ 2000000 := by have := aftB_len l; rw [e1] at this; omega
  obtain ⟨l2, e2⟩ : ∃ z, aftB l1 = z := ⟨_, rfl⟩
  have b2 : l2.length ≤ 2000000 := by have := aftB_len l1; rw [e2] at this; omega
  obtain ⟨wc, hwc⟩ : ∃ z, befB l1 = z := ⟨_, rfl⟩
  have bwc : wc.length ≤ 2000000 := by have := befB_len l1; rw [hwc] at this; omega
  have H1 := hid (word_r hL b l hl hh e1)
  have H2 := hid (word_r hL b l1 b1 hwc e2)
  have SC := hid (smallOf_ans hL wc bwc)
  obtain ⟨C, hC⟩ : ∃ z, smV wc = z := ⟨_, rfl⟩
  have HK : kindA l = (⟨2, C, Bx.nil, 0, 0, 0, false, 0⟩, l2) := by
    have n1 : ¬ kBest = kRange := by decide
    unfold kindA
    rw [hh, if_neg n1, if_pos rfl, e1, hwc, e2, hC]
  rw [HK]
  rw [hC] at SC
  clear HK hC e1 e2 b1 b2 hwc bwc hh
  have J := rules8
  obtain ⟨w0, hw0⟩ : ∃ w0, (w.alloc (.cells #[.int .i64 0, .int .i64 0, .int .i64 0, .int .i64 0, .int .i64 0, .int .i64 0, .int .i64 0, .int .i64 0, .int .i64 0, .int .i64 0, .int .i64 0, .int .i64 0, .int .i64 0, .int .i64 0, .int .i64 0, .bool false, .int .i64 0] 27)).alloc (.cells #[.int .i64 0, .int .i64 0, .int .i64 0, .int .i64 0, .int .i64 0, .int .i64 0, .int .i64 0, .int .i64 0, .int .i64 0, .int .i64 0, .int .i64 0, .int .i64 0, .int .i64 0, .int .i64 0, .int .i64 0, .bool false, .int .i64 0] 27) = w0 := ⟨_, rfl⟩
  have hJ0 : Jk w w0 := hw0 ▸ ((Jk.refl w).alloc _).alloc _
  have HS0 : Hid (KdS w wb b l ⟨0, 0, Bx.nil, 0, 0, 0, false, 0⟩ w0) := by
    refine ⟨H.grow hJ0, hJ0.by b, ?_, ?_, H.rd.lt, H.j.below.size⟩
    · rw [← hw0]
      have := QyB.laid (w.alloc (.cells #[.int .i64 0, .int .i64 0, .int .i64 0, .int .i64 0, .int .i64 0, .int .i64 0, .int .i64 0, .int .i64 0, .int .i64 0, .int .i64 0, .int .i64 0, .int .i64 0, .int .i64 0, .int .i64 0, .int .i64 0, .bool false, .int .i64 0] 27)) Qy.nil
      rwa [World.size_alloc] at this
    · rw [← hw0]
      exact (QyB.laid w Qy.nil).jk ((Jk.refl _).alloc _)
  clear H hJ0 hL hl
  go_enter Tryd.func23, Tryd.ntmps23
  go_upto_region 3 with (go_at_call 25; refine (H1.out.on HS0.out.rd).mono ?_; rintro e w1 ⟨rfl, hr, hg⟩; have HS1 := hid (HS0.out.call hr hg); clear hr hg HS0)
  go_upto_region 4 with (first | (go_at_call 25; refine (H2.out.on HS1.out.rd).mono ?_; rintro e w2 ⟨rfl, hr, hg⟩; have HS2 := hid (HS1.out.call hr hg); clear hr hg HS1) | (go_at_call 27; refine (SC.out _ HS2.out.rd.j).mono ?_; rintro e w3 ⟨rfl, hj⟩; have HS3 := hid (HS2.out.jk hj); clear hj HS2; obtain ⟨x0, x1, x2, x3, x4, x5, x6, x7, x8, x9, x10, x11, x12, x13, x14, x15, x16⟩ := HS3.out.qb.in; have xl := HS3.out.qb.lt; have xf := HS3.out.qb.frozen; clear x2 x3 x4 x5 x6 x7 x8 x9 x10 x11; simp only at x0 x1 x12 x13 x14 x15 x16))
  have HS4 := hid (HS3.out.set (HS3.out.qb.setCl C))
  generalize w3.setCell ⟨w.heap.size + 1, 1, none⟩ (.int .i64 C) = w4 at HS4 ⊢
  simp only at HS4
  clear HS3
  clear x0 x1 x12 x13 x14 x15 x16 xl xf
  obtain ⟨x0, x1, x2, x3, x4, x5, x6, x7, x8, x9, x10, x11, x12, x13, x14, x15, x16⟩ := HS4.out.qb.in
  have xl := HS4.out.qb.lt
  have xf := HS4.out.qb.frozen
  clear x2 x3 x4 x5 x6 x7 x8 x9 x10 x11
  simp only at x0 x1 x12 x13 x14 x15 x16
  go_upto_region 18 with fail
  have HS5 := hid (HS4.out.set (HS4.out.qb.setKd 2))
  generalize w4.setCell ⟨w.heap.size + 1, 0, none⟩ (.int .i64 2) = w5 at HS5 ⊢
  simp only at HS5
  clear HS4
  clear x0 x1 x12 x13 x14 x15 x16 xl xf
  refine wp_region_lit ?_
  refine list_loadQ rfl _ rfl HS5.out.qb rfl ?_
  refine list_storeQ rfl _ _ rfl HS5.out.zb rfl ⟨2, C, Bx.nil, 0, 0, 0, false, 0⟩ rfl fun w99 hq9 hg9 => ?_
  have HE := hid (⟨hq9, ((HS5.out.rd.rd : RaB _ _ _)), HS5.out, hg9⟩ : QyB w99 w.heap.size ⟨2, C, Bx.nil, 0, 0, 0, false, 0⟩ ∧ RaB w5 b _ ∧ KdS w wb b _ ⟨2, C, Bx.nil, 0, 0, 0, false, 0⟩ w5 ∧ w5.grownBy w99 (some w.heap.size))
  go_wp2
  refine bodyPost_ret (results_cell Tryd.results23 rfl (load_Q HE.out.1)) rfl ⟨rfl, ?_, ?_⟩
  · exact (HE.out.2.2.2.block b HE.out.2.1.lt (by have := HE.out.2.2.1.bl; simp; omega)).trans HE.out.2.1
  · exact grown_past HE.out.2.2.1.gr HE.out.2.2.2 (Nat.le_refl _)

set_option maxRecDepth 100000 in
set_option maxHeartbeats 6400000 in
theorem kind_rises {wb : World} (hL : LibA wb) (b : Nat) (l : Txt) (hl : l.length ≤ 2000000) (hh : befB l = kRises) : AnsA wb b 23 #[.pointer (some ⟨b, 0, none⟩)] l (queryV (kindA l).1) (kindA l).2 := fun w H => by
  obtain ⟨l1, e1⟩ : ∃ z, aftB l = z := ⟨_, rfl⟩
  have b1 : l1.length ≤ 2000000 := by have := aftB_len l; rw [e1] at this; omega
  obtain ⟨l2, e2⟩ : ∃ z, aftB l1 = z := ⟨_, rfl⟩
  have b2 : l2.length ≤ 2000000 := by have := aftB_len l1; rw [e2] at this; omega
  obtain ⟨wc, hwc⟩ : ∃ z, befB l1 = z := ⟨_, rfl⟩
  have bwc : wc.length ≤ 2000000 := by have := befB_len l1; rw [hwc] at this; omega
  obtain ⟨l3, e3⟩ : ∃ z, aftB l2 = z := ⟨_, rfl⟩
  have b3 : l3.length ≤ 2000000 := by have := aftB_len l2; rw [e3] at this; omega
  obtain ⟨l4, e4⟩ : ∃ z, aftB l3 = z := ⟨_, rfl⟩
  have b4 : l4.length ≤ 2000000 := by have := aftB_len l3; rw [e4] at this; omega
  obtain ⟨wf, hwf⟩ : ∃ z, befB l3 = z := ⟨_, rfl⟩
  have bwf : wf.length ≤ 2000000 := by have := befB_len l3; rw [hwf] at this; omega
  have H1 := hid (word_r hL b l hl hh e1)
  have H2 := hid (word_r hL b l1 b1 hwc e2)
  have SC := hid (smallOf_ans hL wc bwc)
  obtain ⟨C, hC⟩ : ∃ z, smV wc = z := ⟨_, rfl⟩
  have H3 := hid (pass_r hL b l2 b2 e3)
  have H4 := hid (word_r hL b l3 b3 hwf e4)
  have SF := hid (smallOf_ans hL wf bwf)
  obtain ⟨FE, hFE⟩ : ∃ z, smV wf = z := ⟨_, rfl⟩
  have HK : kindA l = (⟨3, C, Bx.nil, 0, 0, FE, false, 0⟩, l4) := by
    have m1 : ¬ kRises = kRange := by decide
    have m2 : ¬ kRises = kBest := by decide
    unfold kindA
    rw [hh, if_neg m1, if_neg m2, if_pos rfl, e1, hwc, e2, e3, hwf, e4, hC, hFE]
  rw [HK]
  rw [hC] at SC
  rw [hFE] at SF
  clear HK hC hFE e1 e2 e3 e4 b1 b2 b3 b4 hwc hwf bwc bwf hh
  have dz : (kRises == [102, 97, 108, 108, 115]) = false := by decide
  have J := rules8
  obtain ⟨w0, hw0⟩ : ∃ w0, (w.alloc (.cells #[.int .i64 0, .int .i64 0, .int .i64 0, .int .i64 0, .int .i64 0, .int .i64 0, .int .i64 0, .int .i64 0, .int .i64 0, .int .i64 0, .int .i64 0, .int .i64 0, .int .i64 0, .int .i64 0, .int .i64 0, .bool false, .int .i64 0] 27)).alloc (.cells #[.int .i64 0, .int .i64 0, .int .i64 0, .int .i64 0, .int .i64 0, .int .i64 0, .int .i64 0, .int .i64 0, .int .i64 0, .int .i64 0, .int .i64 0, .int .i64 0, .int .i64 0, .int .i64 0, .int .i64 0, .bool false, .int .i64 0] 27) = w0 := ⟨_, rfl⟩
  have hJ0 : Jk w w0 := hw0 ▸ ((Jk.refl w).alloc _).alloc _
  have HS0 : Hid (KdS w wb b l ⟨0, 0, Bx.nil, 0, 0, 0, false, 0⟩ w0) := by
    refine ⟨H.grow hJ0, hJ0.by b, ?_, ?_, H.rd.lt, H.j.below.size⟩
    · rw [← hw0]
      have := QyB.laid (w.alloc (.cells #[.int .i64 0, .int .i64 0, .int .i64 0, .int .i64 0, .int .i64 0, .int .i64 0, .int .i64 0, .int .i64 0, .int .i64 0, .int .i64 0, .int .i64 0, .int .i64 0, .int .i64 0, .int .i64 0, .int .i64 0, .bool false, .int .i64 0] 27)) Qy.nil
      rwa [World.size_alloc] at this
    · rw [← hw0]
      exact (QyB.laid w Qy.nil).jk ((Jk.refl _).alloc _)
  clear H hJ0 hL hl
  go_enter Tryd.func23, Tryd.ntmps23
  go_upto_region 3 with (go_at_call 25; refine (H1.out.on HS0.out.rd).mono ?_; rintro e w1 ⟨rfl, hr, hg⟩; have HS1 := hid (HS0.out.call hr hg); clear hr hg HS0)
  go_upto_region 4 with (first | (go_at_call 25; refine (H2.out.on HS1.out.rd).mono ?_; rintro e w2 ⟨rfl, hr, hg⟩; have HS2 := hid (HS1.out.call hr hg); clear hr hg HS1) | (go_at_call 27; refine (SC.out _ HS2.out.rd.j).mono ?_; rintro e w3 ⟨rfl, hj⟩; have HS3 := hid (HS2.out.jk hj); clear hj HS2; obtain ⟨x0, x1, x2, x3, x4, x5, x6, x7, x8, x9, x10, x11, x12, x13, x14, x15, x16⟩ := HS3.out.qb.in; have xl := HS3.out.qb.lt; have xf := HS3.out.qb.frozen; clear x2 x3 x4 x5 x6 x7 x8 x9 x10 x11; simp only at x0 x1 x12 x13 x14 x15 x16))
  have HS4 := hid (HS3.out.set (HS3.out.qb.setCl C))
  generalize w3.setCell ⟨w.heap.size + 1, 1, none⟩ (.int .i64 C) = w4 at HS4 ⊢
  simp only at HS4
  clear HS3
  clear x0 x1 x12 x13 x14 x15 x16 xl xf
  obtain ⟨x0, x1, x2, x3, x4, x5, x6, x7, x8, x9, x10, x11, x12, x13, x14, x15, x16⟩ := HS4.out.qb.in
  have xl := HS4.out.qb.lt
  have xf := HS4.out.qb.frozen
  clear x2 x3 x4 x5 x6 x7 x8 x9 x10 x11
  simp only at x0 x1 x12 x13 x14 x15 x16
  go_upto_region 16 with fail
  have HSa := HS4.out.set (HS4.out.qb.setKd 3)
  have HS5 := hid (HSa.set (HSa.qb.setFa false))
  generalize (w4.setCell ⟨w.heap.size + 1, 0, none⟩ (.int .i64 3)).setCell ⟨w.heap.size + 1, 6 + 9, none⟩ (.bool false) = w5 at HS5 ⊢
  simp only at HS5
  clear HS4 HSa
  clear x0 x1 x12 x13 x14 x15 x16 xl xf
  go_upto_region 17 with (go_at_call 24; refine (H3.out.on HS5.out.rd).mono ?_; rintro e w6 ⟨rfl, hr, hg⟩; have HS6 := hid (HS5.out.call hr hg); clear hr hg HS5)
  go_upto_region 18 with (first | (go_at_call 25; refine (H4.out.on HS6.out.rd).mono ?_; rintro e w7 ⟨rfl, hr, hg⟩; have HS7 := hid (HS6.out.call hr hg); clear hr hg HS6) | (go_at_call 27; refine (SF.out _ HS7.out.rd.j).mono ?_; rintro e w8 ⟨rfl, hj⟩; have HS8 := hid (HS7.out.jk hj); clear hj HS7; obtain ⟨x0, x1, x2, x3, x4, x5, x6, x7, x8, x9, x10, x11, x12, x13, x14, x15, x16⟩ := HS8.out.qb.in; have xl := HS8.out.qb.lt; have xf := HS8.out.qb.frozen; clear x2 x3 x4 x5 x6 x7 x8 x9 x10 x11; simp only at x0 x1 x12 x13 x14 x15 x16))
  have HS9 := hid (HS8.out.set (HS8.out.qb.setF FE))
  generalize w8.setCell ⟨w.heap.size + 1, 14, none⟩ (.int .i64 FE) = w9 at HS9 ⊢
  simp only at HS9
  clear HS8
  clear x0 x1 x12 x13 x14 x15 x16 xl xf
  refine wp_region_lit ?_
  refine list_loadQ rfl _ rfl HS9.out.qb rfl ?_
  refine list_storeQ rfl _ _ rfl HS9.out.zb rfl ⟨3, C, Bx.nil, 0, 0, FE, false, 0⟩ rfl fun w99 hq9 hg9 => ?_
  have HE := hid (⟨hq9, ((HS9.out.rd.rd : RaB _ _ _)), HS9.out, hg9⟩ : QyB w99 w.heap.size ⟨3, C, Bx.nil, 0, 0, FE, false, 0⟩ ∧ RaB w9 b _ ∧ KdS w wb b _ ⟨3, C, Bx.nil, 0, 0, FE, false, 0⟩ w9 ∧ w9.grownBy w99 (some w.heap.size))
  go_wp2
  refine bodyPost_ret (results_cell Tryd.results23 rfl (load_Q HE.out.1)) rfl ⟨rfl, ?_, ?_⟩
  · exact (HE.out.2.2.2.block b HE.out.2.1.lt (by have := HE.out.2.2.1.bl; simp; omega)).trans HE.out.2.1
  · exact grown_past HE.out.2.2.1.gr HE.out.2.2.2 (Nat.le_refl _)

set_option maxRecDepth 100000 in
set_option maxHeartbeats 6400000 in
theorem kind_falls {wb : World} (hL : LibA wb) (b : Nat) (l : Txt) (hl : l.length ≤ 2000000) (hh : befB l = kFalls) : AnsA wb b 23 #[.pointer (some ⟨b, 0, none⟩)] l (queryV (kindA l).1) (kindA l).2 := fun w H => by
  obtain ⟨l1, e1⟩ : ∃ z, aftB l = z := ⟨_, rfl⟩
  have b1 : l1.length ≤ 2000000 := by have := aftB_len l; rw [e1] at this; omega
  obtain ⟨l2, e2⟩ : ∃ z, aftB l1 = z := ⟨_, rfl⟩
  have b2 : l2.length ≤ 2000000 := by have := aftB_len l1; rw [e2] at this; omega
  obtain ⟨wc, hwc⟩ : ∃ z, befB l1 = z := ⟨_, rfl⟩
  have bwc : wc.length ≤ 2000000 := by have := befB_len l1; rw [hwc] at this; omega
  obtain ⟨l3, e3⟩ : ∃ z, aftB l2 = z := ⟨_, rfl⟩
  have b3 : l3.length ≤ 2000000 := by have := aftB_len l2; rw [e3] at this; omega
  obtain ⟨l4, e4⟩ : ∃ z, aftB l3 = z := ⟨_, rfl⟩
  have b4 : l4.length ≤ 2000000 := by have := aftB_len l3; rw [e4] at this; omega
  obtain ⟨wf, hwf⟩ : ∃ z, befB l3 = z := ⟨_, rfl⟩
  have bwf : wf.length ≤ 2000000 := by have := befB_len l3; rw [hwf] at this; omega
  have H1 := hid (word_r hL b l hl hh e1)
  have H2 := hid (word_r hL b l1 b1 hwc e2)
  have SC := hid (smallOf_ans hL wc bwc)
  obtain ⟨C, hC⟩ : ∃ z, smV wc = z := ⟨_, rfl⟩
  have H3 := hid (pass_r hL b l2 b2 e3)
  have H4 := hid (word_r hL b l3 b3 hwf e4)
  have SF := hid (smallOf_ans hL wf bwf)
  obtain ⟨FE, hFE⟩ : ∃ z, smV wf = z := ⟨_, rfl⟩
  have HK : kindA l = (⟨3, C, Bx.nil, 0, 0, FE, true, 0⟩, l4) := by
    have m1 : ¬ kFalls = kRange := by decide
    have m2 : ¬ kFalls = kBest := by decide
    have m3 : ¬ kFalls = kRises := by decide
    unfold kindA
    rw [hh, if_neg m1, if_neg m2, if_neg m3, if_pos rfl, e1, hwc, e2, e3, hwf, e4, hC, hFE]
  rw [HK]
  rw [hC] at SC
  rw [hFE] at SF
  clear HK hC hFE e1 e2 e3 e4 b1 b2 b3 b4 hwc hwf bwc bwf hh
  have J := rules8
  obtain ⟨w0, hw0⟩ : ∃ w0, (w.alloc (.cells #[.int .i64 0, .int .i64 0, .int .i64 0, .int .i64 0, .int .i64 0, .int .i64 0, .int .i64 0, .int .i64 0, .int .i64 0, .int .i64 0, .int .i64 0, .int .i64 0, .int .i64 0, .int .i64 0, .int .i64 0, .bool false, .int .i64 0] 27)).alloc (.cells #[.int .i64 0, .int .i64 0, .int .i64 0, .int .i64 0, .int .i64 0, .int .i64 0, .int .i64 0, .int .i64 0, .int .i64 0, .int .i64 0, .int .i64 0, .int .i64 0, .int .i64 0, .int .i64 0, .int .i64 0, .bool false, .int .i64 0] 27) = w0 := ⟨_, rfl⟩
  have hJ0 : Jk w w0 := hw0 ▸ ((Jk.refl w).alloc _).alloc _
  have HS0 : Hid (KdS w wb b l ⟨0, 0, Bx.nil, 0, 0, 0, false, 0⟩ w0) := by
    refine ⟨H.grow hJ0, hJ0.by b, ?_, ?_, H.rd.lt, H.j.below.size⟩
    · rw [← hw0]
      have := QyB.laid (w.alloc (.cells #[.int .i64 0, .int .i64 0, .int .i64 0, .int .i64 0, .int .i64 0, .int .i64 0, .int .i64 0, .int .i64 0, .int .i64 0, .int .i64 0, .int .i64 0, .int .i64 0, .int .i64 0, .int .i64 0, .int .i64 0, .bool false, .int .i64 0] 27)) Qy.nil
      rwa [World.size_alloc] at this
    · rw [← hw0]
      exact (QyB.laid w Qy.nil).jk ((Jk.refl _).alloc _)
  clear H hJ0 hL hl
  go_enter Tryd.func23, Tryd.ntmps23
  go_upto_region 3 with (go_at_call 25; refine (H1.out.on HS0.out.rd).mono ?_; rintro e w1 ⟨rfl, hr, hg⟩; have HS1 := hid (HS0.out.call hr hg); clear hr hg HS0)
  go_upto_region 4 with (first | (go_at_call 25; refine (H2.out.on HS1.out.rd).mono ?_; rintro e w2 ⟨rfl, hr, hg⟩; have HS2 := hid (HS1.out.call hr hg); clear hr hg HS1) | (go_at_call 27; refine (SC.out _ HS2.out.rd.j).mono ?_; rintro e w3 ⟨rfl, hj⟩; have HS3 := hid (HS2.out.jk hj); clear hj HS2; obtain ⟨x0, x1, x2, x3, x4, x5, x6, x7, x8, x9, x10, x11, x12, x13, x14, x15, x16⟩ := HS3.out.qb.in; have xl := HS3.out.qb.lt; have xf := HS3.out.qb.frozen; clear x2 x3 x4 x5 x6 x7 x8 x9 x10 x11; simp only at x0 x1 x12 x13 x14 x15 x16))
  have HS4 := hid (HS3.out.set (HS3.out.qb.setCl C))
  generalize w3.setCell ⟨w.heap.size + 1, 1, none⟩ (.int .i64 C) = w4 at HS4 ⊢
  simp only at HS4
  clear HS3
  clear x0 x1 x12 x13 x14 x15 x16 xl xf
  obtain ⟨x0, x1, x2, x3, x4, x5, x6, x7, x8, x9, x10, x11, x12, x13, x14, x15, x16⟩ := HS4.out.qb.in
  have xl := HS4.out.qb.lt
  have xf := HS4.out.qb.frozen
  clear x2 x3 x4 x5 x6 x7 x8 x9 x10 x11
  simp only at x0 x1 x12 x13 x14 x15 x16
  go_upto_region 16 with fail
  have HSa := HS4.out.set (HS4.out.qb.setKd 3)
  have HS5 := hid (HSa.set (HSa.qb.setFa true))
  generalize (w4.setCell ⟨w.heap.size + 1, 0, none⟩ (.int .i64 3)).setCell ⟨w.heap.size + 1, 6 + 9, none⟩ (.bool true) = w5 at HS5 ⊢
  simp only at HS5
  clear HS4 HSa
  clear x0 x1 x12 x13 x14 x15 x16 xl xf
  go_upto_region 17 with (go_at_call 24; refine (H3.out.on HS5.out.rd).mono ?_; rintro e w6 ⟨rfl, hr, hg⟩; have HS6 := hid (HS5.out.call hr hg); clear hr hg HS5)
  go_upto_region 18 with (first | (go_at_call 25; refine (H4.out.on HS6.out.rd).mono ?_; rintro e w7 ⟨rfl, hr, hg⟩; have HS7 := hid (HS6.out.call hr hg); clear hr hg HS6) | (go_at_call 27; refine (SF.out _ HS7.out.rd.j).mono ?_; rintro e w8 ⟨rfl, hj⟩; have HS8 := hid (HS7.out.jk hj); clear hj HS7; obtain ⟨x0, x1, x2, x3, x4, x5, x6, x7, x8, x9, x10, x11, x12, x13, x14, x15, x16⟩ := HS8.out.qb.in; have xl := HS8.out.qb.lt; have xf := HS8.out.qb.frozen; clear x2 x3 x4 x5 x6 x7 x8 x9 x10 x11; simp only at x0 x1 x12 x13 x14 x15 x16))
  have HS9 := hid (HS8.out.set (HS8.out.qb.setF FE))
  generalize w8.setCell ⟨w.heap.size + 1, 14, none⟩ (.int .i64 FE) = w9 at HS9 ⊢
  simp only at HS9
  clear HS8
  clear x0 x1 x12 x13 x14 x15 x16 xl xf
  refine wp_region_lit ?_
  refine list_loadQ rfl _ rfl HS9.out.qb rfl ?_
  refine list_storeQ rfl _ _ rfl HS9.out.zb rfl ⟨3, C, Bx.nil, 0, 0, FE, true, 0⟩ rfl fun w99 hq9 hg9 => ?_
  have HE := hid (⟨hq9, ((HS9.out.rd.rd : RaB _ _ _)), HS9.out, hg9⟩ : QyB w99 w.heap.size ⟨3, C, Bx.nil, 0, 0, FE, true, 0⟩ ∧ RaB w9 b _ ∧ KdS w wb b _ ⟨3, C, Bx.nil, 0, 0, FE, true, 0⟩ w9 ∧ w9.grownBy w99 (some w.heap.size))
  go_wp2
  refine bodyPost_ret (results_cell Tryd.results23 rfl (load_Q HE.out.1)) rfl ⟨rfl, ?_, ?_⟩
  · exact (HE.out.2.2.2.block b HE.out.2.1.lt (by have := HE.out.2.2.1.bl; simp; omega)).trans HE.out.2.1
  · exact grown_past HE.out.2.2.1.gr HE.out.2.2.2 (Nat.le_refl _)

set_option maxRecDepth 100000 in
set_option maxHeartbeats 6400000 in
theorem kind_none {wb : World} (hL : LibA wb) (b : Nat) (l : Txt) (hl : l.length ≤ 2000000) (h1 : ¬ befB l = kRange) (h2 : ¬ befB l = kBest) (h3 : ¬ befB l = kRises) (h4 : ¬ befB l = kFalls) : AnsA wb b 23 #[.pointer (some ⟨b, 0, none⟩)] l (queryV (kindA l).1) (kindA l).2 := fun w H => by
  obtain ⟨l1, e1⟩ : ∃ z, aftB l = z := ⟨_, rfl⟩
  have b1 : l1.length ≤ 2000000 := by have := aftB_len l; rw [e1] at this; omega
  obtain ⟨wd, hwd⟩ : ∃ z, befB l = z := ⟨_, rfl⟩
  have bwd : wd.length ≤ 2000000 := by have := befB_len l; rw [hwd] at this; omega
  obtain ⟨l2, e2⟩ : ∃ z, aftB l1 = z := ⟨_, rfl⟩
  have b2 : l2.length ≤ 2000000 := by have := aftB_len l1; rw [e2] at this; omega
  obtain ⟨wc, hwc⟩ : ∃ z, befB l1 = z := ⟨_, rfl⟩
  have bwc : wc.length ≤ 2000000 := by have := befB_len l1; rw [hwc] at this; omega
  have H1 := hid (word_r hL b l hl hwd e1)
  have H2 := hid (word_r hL b l1 b1 hwc e2)
  have SC := hid (smallOf_ans hL wc bwc)
  obtain ⟨C, hC⟩ : ∃ z, smV wc = z := ⟨_, rfl⟩
  have HK : kindA l = (⟨0, C, Bx.nil, 0, 0, 0, false, 0⟩, l2) := by
    unfold kindA
    rw [if_neg h1, if_neg h2, if_neg h3, if_neg h4, e1, hwc, e2, hC]
  rw [HK]
  rw [hC] at SC
  rw [hwd] at h1 h2 h3 h4
  unfold kRange at h1
  unfold kBest at h2
  unfold kRises at h3
  unfold kFalls at h4
  have d1 := beq_false_of_ne h1
  have d2 := beq_false_of_ne h2
  have d3 := beq_false_of_ne h3
  have d4 := beq_false_of_ne h4
  clear HK hC e1 e2 b1 b2 hwc bwc hwd bwd
  have J := rules8
  obtain ⟨w0, hw0⟩ : ∃ w0, (w.alloc (.cells #[.int .i64 0, .int .i64 0, .int .i64 0, .int .i64 0, .int .i64 0, .int .i64 0, .int .i64 0, .int .i64 0, .int .i64 0, .int .i64 0, .int .i64 0, .int .i64 0, .int .i64 0, .int .i64 0, .int .i64 0, .bool false, .int .i64 0] 27)).alloc (.cells #[.int .i64 0, .int .i64 0, .int .i64 0, .int .i64 0, .int .i64 0, .int .i64 0, .int .i64 0, .int .i64 0, .int .i64 0, .int .i64 0, .int .i64 0, .int .i64 0, .int .i64 0, .int .i64 0, .int .i64 0, .bool false, .int .i64 0] 27) = w0 := ⟨_, rfl⟩
  have hJ0 : Jk w w0 := hw0 ▸ ((Jk.refl w).alloc _).alloc _
  have HS0 : Hid (KdS w wb b l ⟨0, 0, Bx.nil, 0, 0, 0, false, 0⟩ w0) := by
    refine ⟨H.grow hJ0, hJ0.by b, ?_, ?_, H.rd.lt, H.j.below.size⟩
    · rw [← hw0]
      have := QyB.laid (w.alloc (.cells #[.int .i64 0, .int .i64 0, .int .i64 0, .int .i64 0, .int .i64 0, .int .i64 0, .int .i64 0, .int .i64 0, .int .i64 0, .int .i64 0, .int .i64 0, .int .i64 0, .int .i64 0, .int .i64 0, .int .i64 0, .bool false, .int .i64 0] 27)) Qy.nil
      rwa [World.size_alloc] at this
    · rw [← hw0]
      exact (QyB.laid w Qy.nil).jk ((Jk.refl _).alloc _)
  clear H hJ0 hL hl
  go_enter Tryd.func23, Tryd.ntmps23
  go_upto_region 3 with (go_at_call 25; refine (H1.out.on HS0.out.rd).mono ?_; rintro e w1 ⟨rfl, hr, hg⟩; have HS1 := hid (HS0.out.call hr hg); clear hr hg HS0)
  go_upto_region 4 with (first | (go_at_call 25; refine (H2.out.on HS1.out.rd).mono ?_; rintro e w2 ⟨rfl, hr, hg⟩; have HS2 := hid (HS1.out.call hr hg); clear hr hg HS1) | (go_at_call 27; refine (SC.out _ HS2.out.rd.j).mono ?_; rintro e w3 ⟨rfl, hj⟩; have HS3 := hid (HS2.out.jk hj); clear hj HS2; obtain ⟨x0, x1, x2, x3, x4, x5, x6, x7, x8, x9, x10, x11, x12, x13, x14, x15, x16⟩ := HS3.out.qb.in; have xl := HS3.out.qb.lt; have xf := HS3.out.qb.frozen; clear x2 x3 x4 x5 x6 x7 x8 x9 x10 x11; simp only at x0 x1 x12 x13 x14 x15 x16))
  have HS4 := hid (HS3.out.set (HS3.out.qb.setCl C))
  generalize w3.setCell ⟨w.heap.size + 1, 1, none⟩ (.int .i64 C) = w4 at HS4 ⊢
  simp only at HS4
  clear HS3
  clear x0 x1 x12 x13 x14 x15 x16 xl xf
  obtain ⟨x0, x1, x2, x3, x4, x5, x6, x7, x8, x9, x10, x11, x12, x13, x14, x15, x16⟩ := HS4.out.qb.in
  have xl := HS4.out.qb.lt
  have xf := HS4.out.qb.frozen
  clear x2 x3 x4 x5 x6 x7 x8 x9 x10 x11
  simp only at x0 x1 x12 x13 x14 x15 x16
  go_upto_region 18 with fail
  clear x0 x1 x12 x13 x14 x15 x16 xl xf
  refine wp_region_lit ?_
  refine list_loadQ rfl _ rfl HS4.out.qb rfl ?_
  refine list_storeQ rfl _ _ rfl HS4.out.zb rfl ⟨0, C, Bx.nil, 0, 0, 0, false, 0⟩ rfl fun w99 hq9 hg9 => ?_
  have HE := hid (⟨hq9, ((HS4.out.rd.rd : RaB _ _ _)), HS4.out, hg9⟩ : QyB w99 w.heap.size ⟨0, C, Bx.nil, 0, 0, 0, false, 0⟩ ∧ RaB w4 b _ ∧ KdS w wb b _ ⟨0, C, Bx.nil, 0, 0, 0, false, 0⟩ w4 ∧ w4.grownBy w99 (some w.heap.size))
  go_wp2
  refine bodyPost_ret (results_cell Tryd.results23 rfl (load_Q HE.out.1)) rfl ⟨rfl, ?_, ?_⟩
  · exact (HE.out.2.2.2.block b HE.out.2.1.lt (by have := HE.out.2.2.1.bl; simp; omega)).trans HE.out.2.1
  · exact grown_past HE.out.2.2.1.gr HE.out.2.2.2 (Nat.le_refl _)

theorem kind_r {wb : World} (hL : LibA wb) (b : Nat) (l : Txt) (hl : l.length ≤ 2000000) : AnsA wb b 23 #[.pointer (some ⟨b, 0, none⟩)] l (queryV (kindA l).1) (kindA l).2 := by
  by_cases h1 : befB l = kRange
  · exact kind_range hL b l hl h1
  · by_cases h2 : befB l = kBest
    · exact kind_best hL b l hl h2
    · by_cases h3 : befB l = kRises
      · exact kind_rises hL b l hl h3
      · by_cases h4 : befB l = kFalls
        · exact kind_falls hL b l hl h4
        · exact kind_none hL b l hl h1 h2 h3 h4
end Go.Proofs.YtjpffempmlfoeaaDoor

namespace Go.Proofs.YtjpffempmlfoeaaDoor
open Go.RowKit M

theorem results_cell2 {fn : Func} {a b : Tmp} {t : TypeId} (h : fn.results = #[.cell a t, .tmp b]) {tmps : Array Value} {p : Addr} (hp : tmps.getD a undef = .pointer (some p)) {u : Value} (hu : tmps.getD b undef = u) {P : Program} {w : World} {v : Value} (hl : (loadVar t p).run P w = .ok v w) : (results fn tmps).run P w = .ok (.tuple #[v, u]) w := by
  have hp' : tmps[a]?.getD undef = .pointer (some p) := by simpa using hp
  have hu' : tmps[b]?.getD undef = u := by simpa using hu
  simp [results, h, hp', hu', asAddr, hl]
theorem results_cell3 {fn : Func} {a b c : Tmp} {t : TypeId} (h : fn.results = #[.cell a t, .tmp b, .tmp c]) {tmps : Array Value} {p : Addr} (hp : tmps.getD a undef = .pointer (some p)) {u x : Value} (hu : tmps.getD b undef = u) (hx : tmps.getD c undef = x) {P : Program} {w : World} {v : Value} (hl : (loadVar t p).run P w = .ok v w) : (results fn tmps).run P w = .ok (.tuple #[v, u, x]) w := by
  have hp' : tmps[a]?.getD undef = .pointer (some p) := by simpa using hp
  have hu' : tmps[b]?.getD undef = u := by simpa using hu
  have hx' : tmps[c]?.getD undef = x := by simpa using hx
  simp [results, h, hp', hu', hx', asAddr, hl]
/-- another span at a place of a region -/
theorem QyB.putS {z : World} {g : Nat} {q : Qy} (H : QyB z g q) {j : Nat} (hj : j < 4) (s : Sp) : QyB ((z.setCell ⟨g, 2 + j * 2, none⟩ (.int .i64 s.lo)).setCell ⟨g, 2 + j * 2 + 1, none⟩ (.int .i64 s.hi)) g { q with rg := q.rg.put (j : Int) s } := by
  match j, hj with
  | 0, _ => exact H.rgA s
  | 1, _ => exact H.rgB s
  | 2, _ => exact H.rgC s
  | 3, _ => exact H.rgD s
  | j + 4, h => omega
/-- read at work: the reader, the query that is made, the result's cell -/
structure ReS (wb w : World) (g : Nat) (l : Txt) (q : Qy) (z : World) : Prop where
  rd : RaJ wb (w.heap.size + 1) l z
  j : Jk w z
  qb : QyB z g q
  zb : QyB z w.heap.size Qy.nil
  hg : w.heap.size + 1 < g
theorem ReS.call {wb w : World} {g : Nat} {l l' : Txt} {q : Qy} {z z' : World} (H : ReS wb w g l q z) (hr : RaB z' (w.heap.size + 1) l') (hg : z.grownBy z' (some (w.heap.size + 1))) : ReS wb w g l' q z' :=
  ⟨H.rd.call hr hg, H.j.grown hg (fun k hk => by cases hk; omega), H.qb.by hg (by have := H.hg; omega), H.zb.by hg (by omega), H.hg⟩
theorem ReS.jk {wb w : World} {g : Nat} {l : Txt} {q : Qy} {z z' : World} (H : ReS wb w g l q z) (hj : Jk z z') : ReS wb w g l q z' := ⟨H.rd.grow hj, H.j.trans hj, H.qb.jk hj, H.zb.jk hj, H.hg⟩
theorem ReS.set {wb w : World} {g : Nat} {l : Txt} {q q' : Qy} {z z' : World} (H : ReS wb w g l q z) (hq : QyB z' g q') (hg : z.grownBy z' (some g)) (hw : wb.heap.size ≤ w.heap.size) : ReS wb w g l q' z' :=
  ⟨⟨H.rd.j.grown hg (fun k hk => by cases hk; have := H.hg; omega), H.rd.base, (hg.block _ H.rd.rd.lt (by have := H.hg; simp; omega)).trans H.rd.rd⟩, H.j.grown hg (fun k hk => by cases hk; have := H.hg; omega), hq, H.zb.by hg (by have := H.hg; omega), H.hg⟩

set_option maxRecDepth 100000 in
set_option maxHeartbeats 6400000 in
theorem read_ans {wb : World} (hL : LibA wb) (l : Txt) (hl : l.length ≤ 2000000) : AnsW wb 13 #[tx l] (.tuple #[queryV (readQ l).1, .int .i64 ((readQ l).2 : Int)]) := fun w hw => by
  have J := rules8
  obtain ⟨w0, hw0⟩ : ∃ w0, (w.alloc (.cells #[.int .i64 0, .int .i64 0, .int .i64 0, .int .i64 0, .int .i64 0, .int .i64 0, .int .i64 0, .int .i64 0, .int .i64 0, .int .i64 0, .int .i64 0, .int .i64 0, .int .i64 0, .int .i64 0, .int .i64 0, .bool false, .int .i64 0] 27)).alloc (.cells #[tx l] 68) = w0 := ⟨_, rfl⟩
  have hJ0 : Jk w w0 := hw0 ▸ ((Jk.refl w).alloc _).alloc _
  have HSz : Hid (w0.heap.size = w.heap.size + 1 + 1) := by show _ = _; rw [← hw0]; simp
  have HWs := hid hw.below.size
  have HR0 : Hid (RaJ wb (w.heap.size + 1) l w0) := by
    refine ⟨hw.trans hJ0, Nat.le_succ_of_le HWs.out, ?_⟩
    rw [← hw0]
    have := RaB.laid (w.alloc (.cells #[.int .i64 0, .int .i64 0, .int .i64 0, .int .i64 0, .int .i64 0, .int .i64 0, .int .i64 0, .int .i64 0, .int .i64 0, .int .i64 0, .int .i64 0, .int .i64 0, .int .i64 0, .int .i64 0, .int .i64 0, .bool false, .int .i64 0] 27)) l
    rwa [World.size_alloc] at this
  have HZ0 : Hid (QyB w0 w.heap.size Qy.nil) := by
    rw [← hw0]
    exact (QyB.laid w Qy.nil).jk ((Jk.refl _).alloc _)
  have HJ0 := hid hJ0
  -- what is read
  obtain ⟨q0, hq0⟩ : ∃ z, (kindA l).1 = z := ⟨_, rfl⟩
  obtain ⟨l1, hl1⟩ : ∃ z, (kindA l).2 = z := ⟨_, rfl⟩
  have b1 : l1.length ≤ 2000000 := by
    have : (kindA l).2.length ≤ l.length := kindA_len l
    rw [hl1] at this
    omega
  obtain ⟨l2, e2⟩ : ∃ z, aftB l1 = z := ⟨_, rfl⟩
  have b2 : l2.length ≤ 2000000 := by have := aftB_len l1; rw [e2] at this; omega
  obtain ⟨l3, e3⟩ : ∃ z, aftB l2 = z := ⟨_, rfl⟩
  have b3 : l3.length ≤ 2000000 := by have := aftB_len l2; rw [e3] at this; omega
  obtain ⟨wd, h3⟩ : ∃ z, befB l2 = z := ⟨_, rfl⟩
  have bw : wd.length ≤ 2000000 := by have := befB_len l2; rw [h3] at this; omega
  obtain ⟨⟨RG, D, RE⟩, hF⟩ : ∃ z, spansR' 4 0 Bx.nil wd l3 = z := ⟨_, rfl⟩
  have HK := hid (kind_r hL (w.heap.size + 1) l hl)
  have H1 := hid (pass_r hL (w.heap.size + 1) l1 b1 e2)
  have H2 := hid (word_r hL (w.heap.size + 1) l2 b2 h3 e3)
  rw [hq0, hl1] at HK
  have hRd : readQ l = (⟨q0.kd, q0.cl, RG, q0.lo, q0.hi, q0.f, q0.fa, smV (befB RE)⟩, D) := by
    unfold readQ
    simp only [hl1, e2, e3, h3, hF, hq0]
  rw [hRd]
  have hrg : q0.rg = Bx.nil ∧ q0.bu = 0 := by rw [← hq0]; exact kindA_rg l
  have HLen : Hid (RE.length ≤ 2000000) := by
    have := spansR_len 4 0 Bx.nil wd l3 b3
    rw [hF] at this
    exact this
  have HB : Hid (wd.length ≤ 2000000 ∧ l3.length ≤ 2000000) := ⟨bw, b3⟩
  have HLib := hid hL
  obtain ⟨kd, cl, rg, lo, hi, f, fa, bu⟩ := q0
  simp only at hrg ⊢
  obtain ⟨rfl, rfl⟩ := hrg
  obtain ⟨BU, hBU⟩ : ∃ z, smV (befB RE) = z := ⟨_, rfl⟩
  rw [hBU]
  have HBU := hid hBU
  have HF := hid hF
  clear hRd hF hBU h3 e2 e3 hl1 hq0 hL hl hJ0 hw b1 b2 b3 bw
  go_enter Tryd.func13, Tryd.ntmps13
  go_upto_region 2 with fail
  go_cut [5] (fun p wc => ∃ g, p = .pointer (some ⟨g, 0, none⟩) ∧ ReS wb w g l1 ⟨kd, cl, Bx.nil, lo, hi, f, fa, 0⟩ wc)
  case first =>
    go_wp2_with (go_at_call 23; refine (HK.out.on HR0.out).mono ?_; rintro e w1 ⟨rfl, hr, hg⟩; have HR1 := hid (HR0.out.call hr hg); have HG1 := hid hg; clear hr hg)
    go_meet
    case rel =>
      refine ⟨_, rfl, HR1.out.grow ((Jk.refl w1).alloc _), ((HJ0.out).grown HG1.out (fun k hk => by cases hk; omega)).alloc _, QyB.laid w1 ⟨kd, cl, Bx.nil, lo, hi, f, fa, 0⟩, (HZ0.out.by HG1.out (by omega)).jk ((Jk.refl w1).alloc _), by have := HG1.out.size; have := HSz.out; omega⟩
  case rest =>
    obtain ⟨g, rfl, hS⟩ := hcut
    obtain ⟨w1, rfl⟩ : ∃ z, z = wc := ⟨_, rfl⟩
    have HS1 := hid hS
    clear hS HR0 HZ0 HK HSz
    go_upto_region 4 with (go_at_call 24; refine (H1.out.on HS1.out.rd).mono ?_; rintro e w2 ⟨rfl, hr, hg⟩; have HS2 := hid (HS1.out.call hr hg); clear hr hg HS1)
    go_upto_region 6 with (go_at_call 25; refine (H2.out.on HS2.out.rd).mono ?_; rintro e w3 ⟨rfl, hr, hg⟩; have HS3 := hid (HS2.out.call hr hg); clear hr hg HS2)
    clear H1 H2
    go_loopg [6, 7] 4 (fun r dim word wr => ∃ (j : Nat) (wd' l' : Txt) (rg : Bx), dim = .int .i64 (j : Int) ∧ j + r = 4 ∧ word = tx wd' ∧ Hid (spansR' r j rg wd' l' = (RG, D, RE)) ∧ Hid (wd'.length ≤ 2000000 ∧ l'.length ≤ 2000000) ∧ Hid (ReS wb w g l' ⟨kd, cl, rg, lo, hi, f, fa, 0⟩ wr))
    case atStart => exact ⟨0, wd, l3, Bx.nil, rfl, by omega, rfl, HF, HB, HS3⟩
    case round =>
      obtain ⟨j, wd', l', rg, rfl, hj, rfl, HFj, HBj, HSj⟩ := hrel
      clear HF HB HS3
      by_cases hbu : wd' = [98, 117, 100, 103, 101, 116]
      · subst hbu
        have hE : rg = RG ∧ j = D ∧ l' = RE := by
          have := HFj.out
          rw [show ([98, 117, 100, 103, 101, 116] : Txt) = kBudget from rfl, spansR_end] at this
          simpa using this
        obtain ⟨rfl, rfl, rfl⟩ := hE
        obtain ⟨l9, e9⟩ : ∃ z, aftB l' = z := ⟨_, rfl⟩
        obtain ⟨w9, h9⟩ : ∃ z, befB l' = z := ⟨_, rfl⟩
        have bw : w9.length ≤ 2000000 := by have := befB_len l'; rw [h9] at this; have := HBj.out.2; omega
        have HWo := hid (word_r HLib.out (w.heap.size + 1) l' HBj.out.2 h9 e9)
        have HSm := hid (smallOf_ans HLib.out w9 bw)
        rw [← h9, HBU.out, h9] at HSm
        clear h9 e9 bw HFj
        go_upto_region 11 with (first | (go_at_call 25; refine (HWo.out.on HSj.out.rd).mono ?_; rintro e w5 ⟨rfl, hr, hg⟩; have HS5 := hid (HSj.out.call hr hg); clear hr hg HSj) | (go_at_call 27; refine (HSm.out _ HS5.out.rd.j).mono ?_; rintro e w6 ⟨rfl, hj6⟩; have HS6 := hid (HS5.out.jk hj6); clear hj6 HS5; obtain ⟨x0, x1, x2, x3, x4, x5, x6, x7, x8, x9, x10, x11, x12, x13, x14, x15, x16⟩ := HS6.out.qb.in; have xl := HS6.out.qb.lt; have xf := HS6.out.qb.frozen; clear x0 x1 x2 x3 x4 x5 x6 x7 x8 x9 x10 x11 x12 x13 x14 x15; simp only at x16))
        have HS7 := hid (HS6.out.set (HS6.out.qb.setBu BU) (grown_set w6 g 16 _) HWs.out)
        generalize w6.setCell ⟨g, 16, none⟩ (.int .i64 BU) = w7 at HS7 ⊢
        simp only at HS7
        clear HS6 x16 xl xf
        refine wp_region_lit ?_
        refine list_loadQ rfl _ rfl HS7.out.qb rfl ?_
        refine wpList_one rfl fun K hK => ?_
        go_simp
        refine hK _ _ ?_
        clear hK K
        refine list_storeQ rfl _ _ rfl HS7.out.zb rfl ⟨kd, cl, rg, lo, hi, f, fa, BU⟩ rfl fun w99 hq9 hg9 => ?_
        have HE := hid hq9
        have HJE := hid (HS7.out.j.grown hg9 (fun k hk => by cases hk; exact Nat.le_refl _))
        clear hq9 hg9
        go_wp2
        exact bodyPost_ret (results_cell2 Tryd.results13 rfl rfl (load_Q HE.out)) rfl ⟨rfl, HJE.out⟩
      · have hd1 := beq_false_of_ne hbu
        have hd2 : (wd' != [98, 117, 100, 103, 101, 116]) = true := by simp [hbu]
        by_cases hk : gk = 0
        · subst hk
          obtain rfl : j = 4 := by omega
          have hE : rg = RG ∧ 4 = D ∧ l' = RE := by
            have := HFj.out
            rw [spansR'] at this
            simpa using this
          obtain ⟨rfl, rfl, rfl⟩ := hE
          obtain ⟨l9, e9⟩ : ∃ z, aftB l' = z := ⟨_, rfl⟩
          obtain ⟨w9, h9⟩ : ∃ z, befB l' = z := ⟨_, rfl⟩
          have bw : w9.length ≤ 2000000 := by have := befB_len l'; rw [h9] at this; have := HBj.out.2; omega
          have HWo := hid (word_r HLib.out (w.heap.size + 1) l' HBj.out.2 h9 e9)
          have HSm := hid (smallOf_ans HLib.out w9 bw)
          rw [← h9, HBU.out, h9] at HSm
          clear h9 e9 bw HFj
          go_upto_region 11 with (first | (go_at_call 25; refine (HWo.out.on HSj.out.rd).mono ?_; rintro e w5 ⟨rfl, hr, hg⟩; have HS5 := hid (HSj.out.call hr hg); clear hr hg HSj) | (go_at_call 27; refine (HSm.out _ HS5.out.rd.j).mono ?_; rintro e w6 ⟨rfl, hj6⟩; have HS6 := hid (HS5.out.jk hj6); clear hj6 HS5; obtain ⟨x0, x1, x2, x3, x4, x5, x6, x7, x8, x9, x10, x11, x12, x13, x14, x15, x16⟩ := HS6.out.qb.in; have xl := HS6.out.qb.lt; have xf := HS6.out.qb.frozen; clear x0 x1 x2 x3 x4 x5 x6 x7 x8 x9 x10 x11 x12 x13 x14 x15; simp only at x16))
          have HS7 := hid (HS6.out.set (HS6.out.qb.setBu BU) (grown_set w6 g 16 _) HWs.out)
          generalize w6.setCell ⟨g, 16, none⟩ (.int .i64 BU) = w7 at HS7 ⊢
          simp only at HS7
          clear HS6 x16 xl xf
          refine wp_region_lit ?_
          refine list_loadQ rfl _ rfl HS7.out.qb rfl ?_
          refine wpList_one rfl fun K hK => ?_
          go_simp
          refine hK _ _ ?_
          clear hK K
          refine list_storeQ rfl _ _ rfl HS7.out.zb rfl ⟨kd, cl, rg, lo, hi, f, fa, BU⟩ rfl fun w99 hq9 hg9 => ?_
          have HE := hid hq9
          have HJE := hid (HS7.out.j.grown hg9 (fun k hk => by cases hk; exact Nat.le_refl _))
          clear hq9 hg9
          go_wp2
          exact bodyPost_ret (results_cell2 Tryd.results13 rfl rfl (load_Q HE.out)) rfl ⟨rfl, HJE.out⟩
        · obtain ⟨r, rfl⟩ : ∃ r, gk = r + 1 := ⟨gk - 1, by omega⟩
          have hlt : (j : Int) < 4 := by omega
          have HFn : Hid (spansR' r (j + 1) (rg.put (j : Int) (spanV' wd')) (befB l') (aftB l') = (RG, D, RE)) := by
            have := HFj.out
            rw [spansR', if_neg (show ¬ wd' = kBudget from hbu)] at this
            exact this
          have HSp := hid (spanOf_ans HLib.out wd' HBj.out.1)
          obtain ⟨l4, e4⟩ : ∃ z, aftB l' = z := ⟨_, rfl⟩
          have b4 : l4.length ≤ 2000000 := by have := aftB_len l'; rw [e4] at this; have := HBj.out.2; omega
          obtain ⟨w4, h4⟩ : ∃ z, befB l' = z := ⟨_, rfl⟩
          have bw : w4.length ≤ 2000000 := by have := befB_len l'; rw [h4] at this; have := HBj.out.2; omega
          have HWo := hid (word_r HLib.out (w.heap.size + 1) l' HBj.out.2 h4 e4)
          rw [h4, e4] at HFn
          obtain ⟨⟨sx, sy⟩, hs⟩ : ∃ z, spanV' wd' = z := ⟨_, rfl⟩
          rw [hs] at HFn HSp
          simp only [spV] at HSp
          have HBn : Hid (w4.length ≤ 2000000 ∧ l4.length ≤ 2000000) := ⟨bw, b4⟩
          clear hs h4 e4 bw b4 HFj
          go_upto_region 8 with (go_at_call 26; refine (HSp.out _ HSj.out.rd.j).mono ?_; rintro e w5 ⟨rfl, hj5⟩; have HS5 := hid (HSj.out.jk hj5); clear hj5; have hsp := HS5.out.qb.span (show j < 4 by omega); obtain ⟨c0, c1⟩ := hsp; have xl := HS5.out.qb.lt; have xf := HS5.out.qb.frozen)
          have HS6 := hid (HS5.out.set (HS5.out.qb.putS (show j < 4 by omega) ⟨sx, sy⟩) ((grown_set w5 g (2 + j * 2) _).trans (grown_set _ g (2 + j * 2 + 1) _)) HWs.out)
          generalize (w5.setCell ⟨g, 2 + j * 2, none⟩ (.int .i64 sx)).setCell ⟨g, 2 + j * 2 + 1, none⟩ (.int .i64 sy) = w6 at HS6 ⊢
          simp only at HS6
          clear HS5 c0 c1 xl xf
          go_wp2_with (go_at_call 25; refine (HWo.out.on HS6.out.rd).mono ?_; rintro e w7 ⟨rfl, hr, hg⟩; have HS7 := hid (HS6.out.call hr hg); clear hr hg HS6)
          go_roundg r
          case measure => omega
          case rel => exact ⟨j + 1, w4, l4, _, by go_num, by omega, rfl, HFn, HBn, HS7⟩
end Go.Proofs.YtjpffempmlfoeaaDoor

namespace Go.Proofs.YtjpffempmlfoeaaDoor
open Go.RowKit M

def parseF (l : Txt) : Qy × Int × Bool := if l = [] ∨ printQ (readQ l).1 (readQ l).2 ≠ l then (Qy.nil, 0, false) else ((readQ l).1, (readQ l).2, true)
theorem parseF_is (l : Txt) : ParseQ l (parseF l).1 (parseF l).2.1 (parseF l).2.2 := by
  unfold parseF
  split
  · rename_i h
    exact parseQ_no h
  · rename_i h
    simp only [not_or, Classical.not_not, ne_eq] at h
    exact parseQ_yes h.1 h.2
theorem nil_okQ : Qy.nil.ok := ⟨fitI_of i64_0, fitI_of i64_0, nil_ok, fitI_of i64_0, fitI_of i64_0, fitI_of i64_0, fitI_of i64_0⟩
theorem parseF_ok (l : Txt) : (parseF l).1.ok := by
  unfold parseF
  split
  · exact nil_okQ
  · exact (read_ok l).1

set_option maxRecDepth 100000 in
set_option maxHeartbeats 3200000 in
theorem parse_empty {wb : World} (hL : LibA wb) : AnsW wb 8 #[tx []] (.tuple #[queryV Qy.nil, .int .i64 0, .bool false]) := fun w hw => by
  obtain ⟨l, hle⟩ : ∃ l : Txt, ([] : Txt) = l := ⟨_, rfl⟩
  rw [hle]
  have hl : l.length ≤ 2000000 := by rw [← hle]; decide
  have hd0 : (l == []) = true := by rw [← hle]; rfl
  have J := rules8
  obtain ⟨w0, hw0⟩ : ∃ w0, w.alloc (.cells #[.int .i64 0, .int .i64 0, .int .i64 0, .int .i64 0, .int .i64 0, .int .i64 0, .int .i64 0, .int .i64 0, .int .i64 0, .int .i64 0, .int .i64 0, .int .i64 0, .int .i64 0, .int .i64 0, .int .i64 0, .bool false, .int .i64 0] 27) = w0 := ⟨_, rfl⟩
  have HJ0 : Hid (Jk w w0) := hw0 ▸ (Jk.refl w).alloc _
  have HZ0 : Hid (QyB w0 w.heap.size Qy.nil) := by
    rw [← hw0]
    exact QyB.laid w Qy.nil
  have hok := read_ok l
  have HR := hid ((read_ans hL l hl).at hw)
  obtain ⟨⟨q, d⟩, hqd⟩ : ∃ z, readQ l = z := ⟨_, rfl⟩
  rw [hqd] at HR hok
  simp only at HR hok
  clear hw hL hqd hok hle hl
  obtain ⟨kd, cl, ⟨⟨ra, rb⟩, ⟨rc, rd⟩, ⟨re, rf⟩, ⟨rg, rh⟩, ⟨ri, rj⟩⟩, lo, hi, f, fa, bu⟩ := q
  simp only [queryV] at HR
  go_enter Tryd.func8, Tryd.ntmps8
  go_upto_region 2 with (go_at_call 13; refine (HR.out _ HJ0.out).mono ?_; rintro e w1 ⟨rfl, hj1⟩; have HJ1 := hid hj1; clear hj1)
  have HQ2 : Hid (QyB (w1.alloc (.cells #[.int .i64 kd, .int .i64 cl, .int .i64 ra, .int .i64 rb, .int .i64 rc, .int .i64 rd, .int .i64 re, .int .i64 rf, .int .i64 rg, .int .i64 rh, .int .i64 ri, .int .i64 rj, .int .i64 lo, .int .i64 hi, .int .i64 f, .bool fa, .int .i64 bu] 27)) w1.heap.size ⟨kd, cl, ⟨⟨ra, rb⟩, ⟨rc, rd⟩, ⟨re, rf⟩, ⟨rg, rh⟩, ⟨ri, rj⟩⟩, lo, hi, f, fa, bu⟩) := QyB.laid w1 ⟨kd, cl, ⟨⟨ra, rb⟩, ⟨rc, rd⟩, ⟨re, rf⟩, ⟨rg, rh⟩, ⟨ri, rj⟩⟩, lo, hi, f, fa, bu⟩
  have HJ2 : Hid (Jk w0 (w1.alloc (.cells #[.int .i64 kd, .int .i64 cl, .int .i64 ra, .int .i64 rb, .int .i64 rc, .int .i64 rd, .int .i64 re, .int .i64 rf, .int .i64 rg, .int .i64 rh, .int .i64 ri, .int .i64 rj, .int .i64 lo, .int .i64 hi, .int .i64 f, .bool fa, .int .i64 bu] 27))) := HJ1.out.alloc _
  generalize w1.alloc (.cells #[.int .i64 kd, .int .i64 cl, .int .i64 ra, .int .i64 rb, .int .i64 rc, .int .i64 rd, .int .i64 re, .int .i64 rf, .int .i64 rg, .int .i64 rh, .int .i64 ri, .int .i64 rj, .int .i64 lo, .int .i64 hi, .int .i64 f, .bool fa, .int .i64 bu] 27) = w2 at HQ2 HJ2 ⊢
  have HZ3 := hid (HZ0.out.jk HJ2.out)
  have HJ3 := hid (HJ0.out.trans HJ2.out)
  clear HQ2
  go_upto_region 3 with fail
  refine wp_region_lit ?_
  refine wpList_one rfl fun K hK => ?_
  go_simp
  refine hK _ _ ?_
  clear hK K
  refine list_storeQ rfl _ _ rfl HZ3.out rfl ⟨0, 0, Bx.nil, 0, 0, 0, false, 0⟩ rfl fun w9 hq9 hg9 => ?_
  have HE := hid hq9
  have HJE := hid (HJ3.out.grown hg9 (fun k hk => by cases hk; exact Nat.le_refl _))
  clear hq9 hg9
  go_wp2
  exact bodyPost_ret (results_cell3 Tryd.results8 rfl rfl rfl (load_Q HE.out)) rfl ⟨rfl, HJE.out⟩

set_option maxRecDepth 100000 in
set_option maxHeartbeats 3200000 in
theorem parse_other {wb : World} (hL : LibA wb) (l : Txt) (hl : l.length ≤ 2000000) (hn : ¬ l = []) (hp : ¬ printQ (readQ l).1 (readQ l).2 = l) : AnsW wb 8 #[tx l] (.tuple #[queryV Qy.nil, .int .i64 0, .bool false]) := fun w hw => by
  have hd0 : (l == []) = false := beq_false_of_ne hn
  have J := rules8
  obtain ⟨w0, hw0⟩ : ∃ w0, w.alloc (.cells #[.int .i64 0, .int .i64 0, .int .i64 0, .int .i64 0, .int .i64 0, .int .i64 0, .int .i64 0, .int .i64 0, .int .i64 0, .int .i64 0, .int .i64 0, .int .i64 0, .int .i64 0, .int .i64 0, .int .i64 0, .bool false, .int .i64 0] 27) = w0 := ⟨_, rfl⟩
  have HJ0 : Hid (Jk w w0) := hw0 ▸ (Jk.refl w).alloc _
  have HZ0 : Hid (QyB w0 w.heap.size Qy.nil) := by
    rw [← hw0]
    exact QyB.laid w Qy.nil
  have hok := read_ok l
  have HR := hid ((read_ans hL l hl).at hw)
  obtain ⟨⟨q, d⟩, hqd⟩ : ∃ z, readQ l = z := ⟨_, rfl⟩
  rw [hqd] at HR hok hp
  simp only at HR hok hp
  have HP := hid ((print_ans hL q hok.1 (d : Int)).at hw)
  obtain ⟨S, hS⟩ : ∃ z, printQ q (d : Int) = z := ⟨_, rfl⟩
  rw [hS] at HP hp
  have hd1 : (S == l) = false := beq_false_of_ne hp
  have hd2 : (S != l) = true := by simp [hp]
  clear hw hL hqd hok hS hl hn hp
  obtain ⟨kd, cl, ⟨⟨ra, rb⟩, ⟨rc, rd⟩, ⟨re, rf⟩, ⟨rg, rh⟩, ⟨ri, rj⟩⟩, lo, hi, f, fa, bu⟩ := q
  simp only [queryV] at HR HP
  go_enter Tryd.func8, Tryd.ntmps8
  go_upto_region 2 with (go_at_call 13; refine (HR.out _ HJ0.out).mono ?_; rintro e w1 ⟨rfl, hj1⟩; have HJ1 := hid hj1; clear hj1)
  have HQ2 : Hid (QyB (w1.alloc (.cells #[.int .i64 kd, .int .i64 cl, .int .i64 ra, .int .i64 rb, .int .i64 rc, .int .i64 rd, .int .i64 re, .int .i64 rf, .int .i64 rg, .int .i64 rh, .int .i64 ri, .int .i64 rj, .int .i64 lo, .int .i64 hi, .int .i64 f, .bool fa, .int .i64 bu] 27)) w1.heap.size ⟨kd, cl, ⟨⟨ra, rb⟩, ⟨rc, rd⟩, ⟨re, rf⟩, ⟨rg, rh⟩, ⟨ri, rj⟩⟩, lo, hi, f, fa, bu⟩) := QyB.laid w1 ⟨kd, cl, ⟨⟨ra, rb⟩, ⟨rc, rd⟩, ⟨re, rf⟩, ⟨rg, rh⟩, ⟨ri, rj⟩⟩, lo, hi, f, fa, bu⟩
  have HJ2 : Hid (Jk w0 (w1.alloc (.cells #[.int .i64 kd, .int .i64 cl, .int .i64 ra, .int .i64 rb, .int .i64 rc, .int .i64 rd, .int .i64 re, .int .i64 rf, .int .i64 rg, .int .i64 rh, .int .i64 ri, .int .i64 rj, .int .i64 lo, .int .i64 hi, .int .i64 f, .bool fa, .int .i64 bu] 27))) := HJ1.out.alloc _
  generalize w1.alloc (.cells #[.int .i64 kd, .int .i64 cl, .int .i64 ra, .int .i64 rb, .int .i64 rc, .int .i64 rd, .int .i64 re, .int .i64 rf, .int .i64 rg, .int .i64 rh, .int .i64 ri, .int .i64 rj, .int .i64 lo, .int .i64 hi, .int .i64 f, .bool fa, .int .i64 bu] 27) = w2 at HQ2 HJ2 ⊢
  refine wp_region_lit ?_
  refine wpList_one rfl fun K hK => ?_
  go_simp
  refine hK _ _ ?_
  clear hK K
  refine wpList_one rfl fun K hK => ?_
  go_simp
  refine hK _ _ ?_
  clear hK K
  refine wpList_one rfl fun K hK => ?_
  go_simp
  refine hK _ _ ?_
  clear hK K
  refine listw_loadQ rfl _ rfl HQ2.out rfl ?_
  go_upto_region 3 with (go_at_call 9; refine (HP.out _ (HJ0.out.trans HJ2.out)).mono ?_; rintro e w3 ⟨rfl, hj3⟩; have HZ3 := hid ((HZ0.out.jk HJ2.out).jk hj3); have HJ3 := hid ((HJ0.out.trans HJ2.out).trans hj3); clear hj3)
  clear HQ2
  go_upto_region 3 with fail
  refine wp_region_lit ?_
  refine wpList_one rfl fun K hK => ?_
  go_simp
  refine hK _ _ ?_
  clear hK K
  refine list_storeQ rfl _ _ rfl HZ3.out rfl ⟨0, 0, Bx.nil, 0, 0, 0, false, 0⟩ rfl fun w9 hq9 hg9 => ?_
  have HE := hid hq9
  have HJE := hid (HJ3.out.grown hg9 (fun k hk => by cases hk; exact Nat.le_refl _))
  clear hq9 hg9
  go_wp2
  exact bodyPost_ret (results_cell3 Tryd.results8 rfl rfl rfl (load_Q HE.out)) rfl ⟨rfl, HJE.out⟩

set_option maxRecDepth 100000 in
set_option maxHeartbeats 3200000 in
theorem parse_yes {wb : World} (hL : LibA wb) (l : Txt) (hl : l.length ≤ 2000000) (hn : ¬ l = []) (hp : printQ (readQ l).1 (readQ l).2 = l) : AnsW wb 8 #[tx l] (.tuple #[queryV (readQ l).1, .int .i64 ((readQ l).2 : Int), .bool true]) := fun w hw => by
  have hd0 : (l == []) = false := beq_false_of_ne hn
  have J := rules8
  obtain ⟨w0, hw0⟩ : ∃ w0, w.alloc (.cells #[.int .i64 0, .int .i64 0, .int .i64 0, .int .i64 0, .int .i64 0, .int .i64 0, .int .i64 0, .int .i64 0, .int .i64 0, .int .i64 0, .int .i64 0, .int .i64 0, .int .i64 0, .int .i64 0, .int .i64 0, .bool false, .int .i64 0] 27) = w0 := ⟨_, rfl⟩
  have HJ0 : Hid (Jk w w0) := hw0 ▸ (Jk.refl w).alloc _
  have HZ0 : Hid (QyB w0 w.heap.size Qy.nil) := by
    rw [← hw0]
    exact QyB.laid w Qy.nil
  have hok := read_ok l
  have HR := hid ((read_ans hL l hl).at hw)
  obtain ⟨⟨q, d⟩, hqd⟩ : ∃ z, readQ l = z := ⟨_, rfl⟩
  rw [hqd] at HR hok hp ⊢
  simp only at HR hok hp ⊢
  have HP := hid ((print_ans hL q hok.1 (d : Int)).at hw)
  rw [hp] at HP
  have hd1 : (l == l) = true := by simp
  have hd2 : (l != l) = false := by simp
  clear hw hL hqd hok hl hn hp
  obtain ⟨kd, cl, ⟨⟨ra, rb⟩, ⟨rc, rd⟩, ⟨re, rf⟩, ⟨rg, rh⟩, ⟨ri, rj⟩⟩, lo, hi, f, fa, bu⟩ := q
  simp only [queryV] at HR HP
  go_enter Tryd.func8, Tryd.ntmps8
  go_upto_region 2 with (go_at_call 13; refine (HR.out _ HJ0.out).mono ?_; rintro e w1 ⟨rfl, hj1⟩; have HJ1 := hid hj1; clear hj1)
  have HQ2 : Hid (QyB (w1.alloc (.cells #[.int .i64 kd, .int .i64 cl, .int .i64 ra, .int .i64 rb, .int .i64 rc, .int .i64 rd, .int .i64 re, .int .i64 rf, .int .i64 rg, .int .i64 rh, .int .i64 ri, .int .i64 rj, .int .i64 lo, .int .i64 hi, .int .i64 f, .bool fa, .int .i64 bu] 27)) w1.heap.size ⟨kd, cl, ⟨⟨ra, rb⟩, ⟨rc, rd⟩, ⟨re, rf⟩, ⟨rg, rh⟩, ⟨ri, rj⟩⟩, lo, hi, f, fa, bu⟩) := QyB.laid w1 ⟨kd, cl, ⟨⟨ra, rb⟩, ⟨rc, rd⟩, ⟨re, rf⟩, ⟨rg, rh⟩, ⟨ri, rj⟩⟩, lo, hi, f, fa, bu⟩
  have HJ2 : Hid (Jk w0 (w1.alloc (.cells #[.int .i64 kd, .int .i64 cl, .int .i64 ra, .int .i64 rb, .int .i64 rc, .int .i64 rd, .int .i64 re, .int .i64 rf, .int .i64 rg, .int .i64 rh, .int .i64 ri, .int .i64 rj, .int .i64 lo, .int .i64 hi, .int .i64 f, .bool fa, .int .i64 bu] 27))) := HJ1.out.alloc _
  generalize w1.alloc (.cells #[.int .i64 kd, .int .i64 cl, .int .i64 ra, .int .i64 rb, .int .i64 rc, .int .i64 rd, .int .i64 re, .int .i64 rf, .int .i64 rg, .int .i64 rh, .int .i64 ri, .int .i64 rj, .int .i64 lo, .int .i64 hi, .int .i64 f, .bool fa, .int .i64 bu] 27) = w2 at HQ2 HJ2 ⊢
  refine wp_region_lit ?_
  refine wpList_one rfl fun K hK => ?_
  go_simp
  refine hK _ _ ?_
  clear hK K
  refine wpList_one rfl fun K hK => ?_
  go_simp
  refine hK _ _ ?_
  clear hK K
  refine wpList_one rfl fun K hK => ?_
  go_simp
  refine hK _ _ ?_
  clear hK K
  refine listw_loadQ rfl _ rfl HQ2.out rfl ?_
  go_upto_region 4 with (go_at_call 9; refine (HP.out _ (HJ0.out.trans HJ2.out)).mono ?_; rintro e w3 ⟨rfl, hj3⟩; have HZ3 := hid ((HZ0.out.jk HJ2.out).jk hj3); have HJ3 := hid ((HJ0.out.trans HJ2.out).trans hj3); have HQ3 := hid (HQ2.out.jk hj3); clear hj3)
  refine wp_region_lit ?_
  refine list_loadQ rfl _ rfl HQ3.out rfl ?_
  refine wpList_one rfl fun K hK => ?_
  go_simp
  refine hK _ _ ?_
  clear hK K
  refine list_storeQ rfl _ _ rfl HZ3.out rfl ⟨kd, cl, ⟨⟨ra, rb⟩, ⟨rc, rd⟩, ⟨re, rf⟩, ⟨rg, rh⟩, ⟨ri, rj⟩⟩, lo, hi, f, fa, bu⟩ rfl fun w9 hq9 hg9 => ?_
  have HE := hid hq9
  have HJE := hid (HJ3.out.grown hg9 (fun k hk => by cases hk; exact Nat.le_refl _))
  clear hq9 hg9
  go_wp2
  exact bodyPost_ret (results_cell3 Tryd.results8 rfl rfl rfl (load_Q HE.out)) rfl ⟨rfl, HJE.out⟩

/-- what Parse answers -/
theorem parse_ans {wb : World} (hL : LibA wb) (l : Txt) (hl : l.length ≤ 2000000) : AnsW wb 8 #[tx l] (.tuple #[queryV (parseF l).1, .int .i64 (parseF l).2.1, .bool (parseF l).2.2]) := by
  by_cases h0 : l = []
  · subst h0
    exact parse_empty hL
  · by_cases h1 : printQ (readQ l).1 (readQ l).2 = l
    · have e : parseF l = ((readQ l).1, ((readQ l).2 : Int), true) := by
        unfold parseF
        rw [if_neg (fun h => h.elim h0 fun h => h h1)]
      rw [e]
      exact parse_yes hL l hl h0 h1
    · have e : parseF l = (Qy.nil, 0, false) := by
        unfold parseF
        rw [if_pos (.inr h1)]
      rw [e]
      exact parse_other hL l hl h0 h1
end Go.Proofs.YtjpffempmlfoeaaDoor
