/- Contracts of package grid: Cells; a row of boxes of one's own. -/
import Derived.Test.YtkkbeobocbgmeaaGreatGridC
namespace Go.Proofs.YtkkbeobocbgmeaaGreat
open Go.RowKit M

abbrev boxL (x : Bx) : List Value := [.int .i64 x.a.lo, .int .i64 x.a.hi, .int .i64 x.b.lo, .int .i64 x.b.hi, .int .i64 x.c.lo, .int .i64 x.c.hi, .int .i64 x.d.lo, .int .i64 x.d.hi, .int .i64 x.e.lo, .int .i64 x.e.hi]
theorem range_blk {w w' : World} {b o : Nat} {cs : List Value} (h : w.rangeAt b o cs) (hb : w'.heap[b]? = w.heap[b]?) : w'.rangeAt b o cs := fun j v hv => by
  rw [cell_blk hb]
  exact h j v hv
theorem frozen_blk {w w' : World} {b o : Nat} (hb : w'.heap[b]? = w.heap[b]?) : w'.frozen? ⟨b, o, none⟩ = w.frozen? ⟨b, o, none⟩ := by simp [World.frozen?, hb]
theorem there_blk {w w' : World} {b o n : Nat} (h : w.there b o n) (hb : w'.heap[b]? = w.heap[b]?) : w'.there b o n := fun j hj => by
  rw [cell_blk hb, frozen_blk hb]
  exact h j hj
theorem there_part {w : World} {b n : Nat} (h : w.there b 0 n) {o k : Nat} (hk : o + k ≤ n) : w.there b o k := fun j hj => by
  have := h (o + j) (by omega)
  rwa [Nat.zero_add] at this
theorem grown_setCells (g : Nat) : ∀ (vs : List Value) (o : Nat) (w : World), w.grownBy (w.setCells g o vs) (some g)
  | [], _, _ => World.grownBy.refl _ _
  | v :: vs, o, w => (grown_set w g o v).trans (grown_setCells g vs (o + 1) (w.setCell ⟨g, o, none⟩ v))
/-- boxes in a block, one behind the other -/
def BxA (w : World) (g : Nat) (X : Nat → Bx) (n : Nat) : Prop := ∀ i, i < n → w.rangeAt g (i * 10) (boxL (X i))
theorem BxA.blk {w w' : World} {g n : Nat} {X : Nat → Bx} (h : BxA w g X n) (hb : w'.heap[g]? = w.heap[g]?) : BxA w' g X n := fun i hi => range_blk (h i hi) hb
theorem BxA.jk {w w' : World} {g n : Nat} {X : Nat → Bx} (h : BxA w g X n) (hg : g < w.heap.size) (hj : Jk w w') : BxA w' g X n := h.blk (hj.below.block g hg)
/-- a row of boxes that is being filled -/
structure MkX (w0 w : World) (g N n : Nat) (X : Nat → Bx) : Prop where
  rows : BxA w g X n
  room : w.there g 0 (N * 10)
  own : w0.heap.size ≤ g
  lt : g < w.heap.size
  j : Jk w0 w
theorem MkX.jk {w0 w w' : World} {g N n : Nat} {X : Nat → Bx} (h : MkX w0 w g N n X) (hj : Jk w w') : MkX w0 w' g N n X :=
  ⟨h.rows.jk h.lt hj, there_blk h.room (hj.below.block g h.lt), h.own, Nat.lt_of_lt_of_le h.lt hj.below.size, h.j.trans hj⟩
theorem MkX.put {w0 w : World} {g N n : Nat} {X : Nat → Bx} (h : MkX w0 w g N n X) (hn : n < N) : MkX w0 (w.setCells g (n * 10) (boxL (X n))) g N (n + 1) X where
  rows := fun i hi => by
    by_cases e : i = n
    · subst e
      exact World.rangeAt_setCells_same w g (i * 10) (boxL (X i)) (there_part h.room (by simp; omega))
    · exact World.rangeAt_setCells_apart (h.rows i (by omega)) g (n * 10) (boxL (X n)) (Or.inr (Or.inl (by simp; omega)))
  room := World.there_setCells h.room _ _ _
  own := h.own
  lt := by
    have := (grown_setCells g (boxL (X n)) (n * 10) w).size
    exact Nat.lt_of_lt_of_le h.lt this
  j := h.j.grown (grown_setCells g (boxL (X n)) (n * 10) w) (fun k hk => by cases hk; exact h.own)
theorem wp_storeXat {op : Oper} {a : Act} {w : World} {K : Act → World → Prop} {Q : Exit → Act → World → Prop} (x y : Operand) (ho : op.op = .store 36 x y) {w0 : World} {g N n : Nat} {X : Nat → Bx} (H : MkX w0 w g N n X) (hn : n < N) (hx : a.eval x = .pointer (some ⟨g, n * 10, none⟩)) (hy : a.eval y = boxW (X n))
    (hK : ∀ w', MkX w0 w' g N (n + 1) X → K (a.put op.dst undef) w') : op.wp Tryz.prog a w K Q := by
  refine wp_store_mid (P := Tryz.prog) 36 x y ho g (n * 10) _ hx hy (there_part H.room (by show n * 10 + 10 ≤ N * 10; omega)) infoX (by simp [Value.oneCell']) ?_
  exact hK _ (H.put hn)
theorem list_storeXat {ops : Array Oper} {rest : List Oper} {o : Oper} {act : Act} {Q : Exit → Act → World → Prop} {w : World} (hgd : o.guard = none) (x y : Operand) (ho : o.op = .store 36 x y) {w0 : World} {g N n : Nat} {X : Nat → Bx} (H : MkX w0 w g N n X) (hn : n < N) (hx : act.eval x = .pointer (some ⟨g, n * 10, none⟩)) (hy : act.eval y = boxW (X n))
    (hK : ∀ w', MkX w0 w' g N (n + 1) X → wpList Tryz.prog ops Q rest (act.put o.dst undef) w') : wpList Tryz.prog ops Q (o :: rest) act w :=
  wpList_plain hgd fun _ hK' => wp_storeXat x y ho H hn hx hy fun w' h2 => hK' _ _ (hK w' h2)
/-- one box of a row is loaded -/
theorem loadX_row {w : World} {g n i : Nat} {X : Nat → Bx} (H : BxA w g X n) (hi : i < n) : (loadVar 36 ⟨g, i * 10, none⟩).run Tryz.prog w = .ok (boxW (X i)) w :=
  run_loadVar_mid w g (i * 10) _ (boxL (X i)) _ (H i hi) Tryz.underlying36 rfl (by kernel_rfl)
theorem list_loadXrow {ops : Array Oper} {rest : List Oper} {o : Oper} {act : Act} {Q : Exit → Act → World → Prop} {w : World} (hgd : o.guard = none) (x : Operand) (ho : o.op = .load 36 x) {g n i : Nat} {X : Nat → Bx} (H : BxA w g X n) (hi : i < n) {c : Bx} (hc : X i = c) (hx : act.eval x = .pointer (some ⟨g, i * 10, none⟩))
    (hK : wpList Tryz.prog ops Q rest (act.put o.dst (boxW c)) w) : wpList Tryz.prog ops Q (o :: rest) act w :=
  wpList_load_mid hgd 36 x ho g (i * 10) hx (boxL (X i)) _ (H i hi) Tryz.underlying36 rfl (by kernel_rfl) (hc ▸ hK)
theorem infoXs : (Tryz.prog.info? 36).map (fun i => (i.zero, i.size, i.bytes)) = some (some (.agg #[.int .i64 0, .int .i64 0, .int .i64 0, .int .i64 0, .int .i64 0, .int .i64 0, .int .i64 0, .int .i64 0, .int .i64 0, .int .i64 0]), 10, 80) := by kernel_rfl
/-- boxes that the call made: all cells, or none -/
def GotXs (w : World) (N : Nat) (ok : Bool) (X : Nat → Bx) (e : Ending) (w' : World) : Prop :=
  (ok = true → ∃ g, e = .returned (.tuple #[.slice (some ⟨g, 0, none⟩) N N, .bool true]) ∧ w.heap.size ≤ g ∧ g < w'.heap.size ∧ BxA w' g X N) ∧ (ok = false → e = .returned (.tuple #[.slice none 0 0, .bool false])) ∧ Jk w w'

set_option maxRecDepth 100000 in
set_option maxHeartbeats 6400000 in
theorem cells_any {m : Md} (q : Qy) (b : Bx) (most : Int) {ww : World} (hm : m.ok ww) (hr : RightM m) (hb : b.ok) (hmost : most ≤ 1000) {N : Nat} (hN : cntX (cutsI m q b) = N) {X : Nat → Bx} (hX : cellX b (cutsI m q b) = X) {ok : Bool} (hok : decide ((N : Int) ≤ most) = ok) (w : World) (hjw : Jk ww w) : Calls Tryz.prog 8 #[modelV m, queryV q, boxV b, .int .i64 most] w fun e w' => GotXs w N ok X e w' := by
  have J := rules8
  have HPt : Hid (∀ w', Jk w w' → Calls Tryz.prog 22 #[modelV m, queryV q, boxV b] w' fun e w'' => GotP w' (fun i => partsL (b.at (i : Int)) (cutsI m q b (i : Int))) e w'') := hid fun w' hj => parts_any hm hr hb w' (hjw.trans hj)
  obtain ⟨cc, hcc⟩ : ∃ z, (if (N : Int) ≤ most then (N : Int) else 0) = z := ⟨_, rfl⟩
  have HCt := hid ((count_yes q b most hm hr hN hcc hok).up hjw)
  have HCell : Hid (∀ n, cellP (fun i => partsL (b.at (i : Int)) (cutsI m q b (i : Int))) n = cellX b (cutsI m q b) n) := hid fun n => cellP_is _ _ n
  obtain ⟨P, hP⟩ : ∃ P : Nat → List Sp, (fun i : Nat => partsL (b.at (i : Int)) (cutsI m q b (i : Int))) = P := ⟨_, rfl⟩
  rw [hX] at HCell
  rw [hP] at HCell HPt
  clear hm hr hb hN hX hP hjw
  obtain ⟨d, k', b0, b1, b2, ma, mn, mc, ts⟩ := m
  obtain ⟨kd, cl, ⟨⟨ra, rb⟩, ⟨rc, rd⟩, ⟨re, rf⟩, ⟨rg, rh⟩, ⟨ri, rj⟩⟩, lo, hi, f, fa, bu⟩ := q
  obtain ⟨⟨xa, xb⟩, ⟨xc, xd⟩, ⟨xe, xf⟩, ⟨xg, xh⟩, ⟨xi, xj⟩⟩ := b
  have hin := in3_laid w d k' b0 b1 b2 ma mn mc ts kd cl ra rb rc rd re rf rg rh ri rj lo hi f fa bu xa xb xc xd xe xf xg xh xi xj
  simp only [modelV, queryV, boxV] at HCt HPt ⊢
  obtain ⟨w0, hw0⟩ : ∃ w0, (((w.alloc (.cells #[.int .i64 d, .int .i64 k', .int .i64 b0, .int .i64 b1, .int .i64 b2, .slice ma mn mc] 31)).alloc (.cells #[.int .i64 kd, .int .i64 cl, .int .i64 ra, .int .i64 rb, .int .i64 rc, .int .i64 rd, .int .i64 re, .int .i64 rf, .int .i64 rg, .int .i64 rh, .int .i64 ri, .int .i64 rj, .int .i64 lo, .int .i64 hi, .int .i64 f, .bool fa, .int .i64 bu] 38)).alloc (.cells #[.int .i64 xa, .int .i64 xb, .int .i64 xc, .int .i64 xd, .int .i64 xe, .int .i64 xf, .int .i64 xg, .int .i64 xh, .int .i64 xi, .int .i64 xj] 36)) = w0 := ⟨_, rfl⟩
  rw [hw0] at hin
  have H3 := hid hin
  clear hin
  go_enter Tryz.func8, Tryz.ntmps8
  go_upto_region 1 with fail
  refine wp_region_lit ?_
  refine list_loadM rfl _ rfl H3.out.m rfl ?_
  refine list_loadQ rfl _ rfl H3.out.q rfl ?_
  refine list_loadX rfl _ rfl H3.out.b rfl ?_
  cases ok
  · go_wp2_with (first | (go_at_call 10; refine (HCt.out.on _ H3.out.j).mono ?_; rintro e w2 ⟨rfl, hj2⟩; have HJ2 := hid hj2; clear hj2))
    exact bodyPost_ret (v := .tuple #[.slice none 0 0, .bool false]) (by simp [results, Tryz.results8, go_sem]) rfl ⟨fun h => (by cases h), fun _ => rfl, H3.out.j.trans HJ2.out⟩
  · have hle : (N : Int) ≤ most := by simpa using hok
    rw [if_pos hle] at hcc
    subst hcc
    go_upto_region 4 with (first | (go_at_call 10; refine (HCt.out.on _ H3.out.j).mono ?_; rintro e w2 ⟨rfl, hj2⟩; have HJ2 := hid hj2; clear hj2))
    have HM := hid (H3.out.m.jk HJ2.out)
    have HQ := hid (H3.out.q.jk HJ2.out)
    have HB := hid (H3.out.b.jk HJ2.out)
    have HJa := hid (H3.out.j.trans HJ2.out)
    clear H3 HJ2 HCt hw0
    go_cut [12] (fun p wc => ∃ h v, p = .pointer (some ⟨h, 0, none⟩) ∧ PrB wc h v ∧ (∀ i, i < 5 → IsSp wc (v i) (P i)) ∧ Jk w2 wc)
    case first =>
      refine wp_region_lit ?_
      refine list_loadM rfl _ rfl HM.out rfl ?_
      refine list_loadQ rfl _ rfl HQ.out rfl ?_
      refine list_loadX rfl _ rfl HB.out rfl ?_
      refine wpList_one rfl fun K1 hK1 => ?_
      go_simp
      go_at_call 22
      refine (HPt.out _ HJa.out).mono ?_
      rintro e w3 ⟨v, rfl, hv, hj3⟩
      have HV := hid hv
      have HJ3 := hid hj3
      clear hv hj3
      go_simp
      refine hK1 _ _ ?_
      clear hK1 K1
      refine wpList_one rfl fun K1 hK1 => ?_
      go_simp
      refine hK1 _ _ ?_
      clear hK1 K1
      refine list_storeP rfl _ _ rfl (PrB.laid w3 (fun _ => .slice none 0 0)) rfl v (fun i hi => (HV.out i hi).one) rfl fun w4 hq4 hg4 => ?_
      have HJ4 := hid (((Jk.refl w3).alloc (.cells #[.slice none 0 0, .slice none 0 0, .slice none 0 0, .slice none 0 0, .slice none 0 0] 65)).grown hg4 (fun k hk => by cases hk; exact Nat.le_refl _))
      go_wp2
      go_meet
      case rel => exact ⟨_, v, rfl, hq4, fun i hi => (HV.out i hi).jk HJ4.out, HJ3.out.trans HJ4.out⟩
    case rest =>
    obtain ⟨h, v, rfl, hP, hv, hj3⟩ := hcut
    obtain ⟨w3, rfl⟩ : ∃ z, z = wc := ⟨_, rfl⟩
    have HP := hid hP
    have HJ3 := hid (HJa.out.trans hj3)
    have HCl : Hid (∀ (n : Nat) (c : Bx), n ≤ 1000000000000 → X n = c → AnsW w3 23 #[partsV v, .int .i64 (n : Int)] (boxW c)) := hid fun n c hn hc => cell_ans hv hn ((HCell.out n).trans hc)
    clear hP hv hj3 HPt HM HQ HB HJa
    obtain ⟨i0, hi0, hz0, hz1, hz2⟩ := info_parts infoXs
    obtain ⟨cur, hcur⟩ : ∃ cur, madeCells #[.int .i64 0, .int .i64 0, .int .i64 0, .int .i64 0, .int .i64 0, .int .i64 0, .int .i64 0, .int .i64 0, .int .i64 0, .int .i64 0] (N * 10) = cur := ⟨_, rfl⟩
    have hcs : cur.size = N * 10 := by rw [← hcur, size_madeCells]
    have hmk : ∀ u : World, (Instr.makeSlice 42 (.int .i64 (N : Int)) (.int .i64 (N : Int))).run Tryz.prog u = .ok (.slice (some ⟨u.heap.size, 0, none⟩) N N) (u.alloc (.cells cur 36)) := fun u => by
      have h := run_make (P := Tryz.prog) u 42 36 i0 _ Tryz.underlying42 hi0 hz0 .i64 .i64 (N : Int) (N : Int) (by omega) (Int.le_refl _) (by rw [hz2]; omega) (by omega)
      rw [hz1, Int.toNat_natCast] at h
      rw [← hcur]
      exact h
    have hrm : ∀ u : World, MkX u (u.alloc (.cells cur 36)) u.heap.size N 0 X := fun u => by
      have hb := heap_alloc_new u (.cells cur 36)
      refine ⟨fun i hi => by omega, fun j hj => ⟨?_, frozen_of_row _ _ _ _ _ hb⟩, Nat.le_refl _, by simp, (Jk.refl u).alloc _⟩
      rw [cell_of_row _ _ _ _ _ _ hb, Nat.zero_add]
      simp [hcs, hj]
    clear hcur hcs hi0 hz0 hz1 hz2
    go_upto_region 5 with fail
    go_cut [13] (fun p wc => ∃ g, p = .slice (some ⟨g, 0, none⟩) N N ∧ MkX w3 wc g N 0 X)
    case first =>
      go_wp2
      go_meet
      case rel => exact ⟨_, rfl, hrm w3⟩
    case rest =>
    obtain ⟨g, rfl, hX0⟩ := hcut
    have HX0 := hid hX0
    clear hX0 hmk hrm
    go_upto_region 7 with fail
    go_loopg [33] N (fun r i wr => ∃ n, n + r = N ∧ i = .int .i64 (n : Int) ∧ Hid (MkX w3 wr g N n X))
    case atStart => exact ⟨0, by omega, rfl, HX0⟩
    case round =>
      obtain ⟨n, hn, rfl, HS⟩ := hrel
      by_cases hfuel : gk = 0
      · subst hfuel
        obtain rfl : n = N := by omega
        go_wp2
        exact bodyPost_ret (v := .tuple #[.slice (some ⟨g, 0, none⟩) n n, .bool true]) (by simp [results, Tryz.results8, go_sem]) rfl ⟨fun _ => ⟨g, rfl, Nat.le_trans HJ3.out.below.size HS.out.own, HS.out.lt, HS.out.rows⟩, fun h => (by cases h), HJ3.out.trans HS.out.j⟩
      · obtain ⟨r, rfl⟩ : ∃ r, gk = r + 1 := ⟨gk - 1, by omega⟩
        have hnN : (n : Int) < (N : Int) := by omega
        obtain ⟨c, hc⟩ : ∃ c, X n = c := ⟨_, rfl⟩
        have HCn := hid (HCl.out n c (by omega) hc)
        go_upto_region 9 with fail
        refine wp_region_lit ?_
        iterate 2
          refine wpList_one rfl fun K1 hK1 => ?_
          go_simp
          refine hK1 _ _ ?_
          clear hK1 K1
        refine list_loadP rfl _ rfl (HP.out.jk HS.out.j) rfl ?_
        refine wpList_one rfl fun K1 hK1 => ?_
        go_simp
        refine hK1 _ _ ?_
        clear hK1 K1
        refine wpList_one rfl fun K1 hK1 => ?_
        go_simp
        go_at_call 23
        refine (HCn.out.on _ HS.out.j).mono ?_
        rintro e w5 ⟨rfl, hj5⟩
        have HS5 := hid (HS.out.jk hj5)
        clear hj5
        go_simp
        refine hK1 _ _ ?_
        clear hK1 K1
        refine wpList_one rfl fun K1 hK1 => ?_
        go_simp
        refine hK1 _ _ ?_
        clear hK1 K1
        refine list_storeXat rfl _ _ rfl HS5.out (by omega) rfl (by rw [hc]; rfl) fun w6 hx6 => ?_
        have HX6 := hid hx6
        clear hx6
        go_wp2
        go_roundg r
        case measure => omega
        case rel => exact ⟨n + 1, by omega, by go_num, HX6⟩

end Go.Proofs.YtkkbeobocbgmeaaGreat
