/- What copsekeep.Inside answers: a point of a box, by numbers. -/
import Derived.Test.YtkkbeobocbgmeaaNodesA
import Derived.Test.YtkkbeobocbgmeaaBoxQ
import Derived.Test.YtkkbeobocbgmeaaHeld
import Derived.Test.YtkkbeobocbgmeaaQueryC
import Derived.Test.YtkkbeobocbgmeaaGridC
namespace Go.Proofs.Ytkkbeobocbgmeaa
open Go.RowKit M

def insideI (b : Bx) (zs : List Int) : Int → Int := fun i => withinI (pickI zs i.toNat) (b.at i).lo (max (b.at i).lo (b.at i).hi)
/-- a span's ends are small -/
def SmS (s : Sp) : Prop := -1000000000000 ≤ s.lo ∧ s.lo ≤ 1000000000000 ∧ -1000000000000 ≤ s.hi ∧ s.hi ≤ 1000000000000
def SmB (b : Bx) : Prop := SmS b.a ∧ SmS b.b ∧ SmS b.c ∧ SmS b.d ∧ SmS b.e
theorem SmB.at {b : Bx} (h : SmB b) (k : Int) : SmS (b.at k) := by
  obtain ⟨h0, h1, h2, h3, h4⟩ := h
  unfold Bx.at
  split
  · exact h0
  · split
    · exact h1
    · split
      · exact h2
      · split
        · exact h3
        · exact h4
theorem SmS.ok {s : Sp} (h : SmS s) : s.ok := by
  obtain ⟨h1, h2, h3, h4⟩ := h
  exact ⟨⟨by omega, by omega⟩, by omega, by omega⟩
theorem SmB.ok {b : Bx} (h : SmB b) : b.ok := ⟨h.1.ok, h.2.1.ok, h.2.2.1.ok, h.2.2.2.1.ok, h.2.2.2.2.ok⟩
theorem inside_in {b : Bx} (zs : List Int) {k : Int} (h : (b.at k).lo ≤ (b.at k).hi) : (b.at k).lo ≤ insideI b zs k ∧ insideI b zs k ≤ (b.at k).hi := by
  have := within_bd (pickI zs k.toNat) (b.at k).lo (max (b.at k).lo (b.at k).hi) (by omega)
  unfold insideI
  omega
theorem inside_has {b : Bx} (zs : List Int) (h : Full b) {t : Int} (h1 : b.e.lo ≤ t) (h2 : t ≤ b.e.hi) : HasX b (insideI b zs) t :=
  ⟨inside_in (k := 0) zs h.1, inside_in (k := 1) zs h.2.1, inside_in (k := 2) zs h.2.2.1, inside_in (k := 3) zs h.2.2.2.1, h1, h2⟩

/-- a point's numbers, those ahead of a place -/
def ptN (p : Int → Int) (j : Nat) : Int → Int := fun i => if i < (j : Int) then p i else 0
def PtF (w : World) (h : Nat) (p : Int → Int) : Prop := PtB w h (p 0) (p 1) (p 2) (p 3)
theorem PtF.jk {w w' : World} {h : Nat} {p : Int → Int} (H : PtF w h p) (hj : Jk w w') : PtF w' h p := PtB.jk H hj
theorem PtF.frozen {w : World} {h : Nat} {p : Int → Int} (H : PtF w h p) (q : Nat) : w.frozen? ⟨h, q, none⟩ = false := PtB.frozen H q
theorem PtF.lt {w : World} {h : Nat} {p : Int → Int} (H : PtF w h p) : h < w.heap.size := PtB.lt H
theorem PtF.put {w : World} {h : Nat} {p : Int → Int} {j : Nat} (H : PtF w h (ptN p j)) (hj : j < 4) : PtF (w.setCell ⟨h, j, none⟩ (.int .i64 (p (j : Int)))) h (ptN p (j + 1)) := by
  match j, hj with
  | 0, _ => exact heap_setCell_same _ _ _ _ _ _ H
  | 1, _ => exact heap_setCell_same _ _ _ _ _ _ H
  | 2, _ => exact heap_setCell_same _ _ _ _ _ _ H
  | 3, _ => exact heap_setCell_same _ _ _ _ _ _ H
  | j + 4, hj => omega
theorem PtF.cell {w : World} {h : Nat} {p : Int → Int} (H : PtF w h p) {j : Nat} (hj : j < 4) : w.cell? ⟨h, j, none⟩ = some (.int .i64 (p (j : Int))) := by
  obtain ⟨_, x0, x1, x2, x3⟩ := H.in
  match j, hj with
  | 0, _ => exact x0
  | 1, _ => exact x1
  | 2, _ => exact x2
  | 3, _ => exact x3
  | j + 4, hj => omega
theorem load_Pt {w : World} {h : Nat} {a0 a1 a2 a3 : Int} (H : PtB w h a0 a1 a2 a3) : (loadVar 52 ⟨h, 0, none⟩).run Try.prog w = .ok (.agg #[.int .i64 a0, .int .i64 a1, .int .i64 a2, .int .i64 a3]) w := run_loadVar_row w h _ _ _ _ _ H Try.underlying52 rfl (by kernel_rfl)

set_option maxRecDepth 100000 in
set_option maxHeartbeats 3200000 in
theorem inside_any {b : Bx} {a : Option Addr} {n c : Nat} {zs : List Int} (w : World) (hI : IsI w a n c zs) (hb : SmB b) : Calls Try.prog 16 #[boxV b, .slice a n c] w fun e w' => e = .returned (pointV (insideI b zs)) ∧ Jk w w' := by
  have J := rules20
  have HPk : Hid (∀ j : Nat, AnsW w 31 #[.slice a n c, .int .i64 (j : Int)] (.int .i64 (pickI zs j))) := hid fun j => pick_is hI j rfl
  have HWi : Hid (∀ j : Nat, Ans 17 #[.int .i64 (pickI zs j), .int .i64 (b.at (j : Int)).lo, .int .i64 (max (b.at (j : Int)).lo (b.at (j : Int)).hi)] (.int .i64 (insideI b zs (j : Int)))) := hid fun j => by
    obtain ⟨h1, h2, h3, h4⟩ := hb.at (j : Int)
    have hp := pick_bd hI j
    exact within_is (by rw [insideI, Int.toNat_natCast]) hp.1 hp.2 (by omega) (by omega) (by omega)
  obtain ⟨p, hp⟩ : ∃ p, insideI b zs = p := ⟨_, rfl⟩
  rw [hp] at HWi ⊢
  clear hp hI hb
  obtain ⟨w0, hw0⟩ : ∃ w0, ((w.alloc (.cells #[.int .i64 b.a.lo, .int .i64 b.a.hi, .int .i64 b.b.lo, .int .i64 b.b.hi, .int .i64 b.c.lo, .int .i64 b.c.hi, .int .i64 b.d.lo, .int .i64 b.d.hi, .int .i64 b.e.lo, .int .i64 b.e.hi] 30)).alloc (.cells #[.int .i64 0, .int .i64 0, .int .i64 0, .int .i64 0] 52)).alloc (.cells #[.int .i64 0, .int .i64 0, .int .i64 0, .int .i64 0] 52) = w0 := ⟨_, rfl⟩
  have HJ0 : Hid (Jk w w0) := hw0 ▸ hid ((((Jk.refl w).alloc _).alloc _).alloc _)
  have HB0 : Hid (BxB w0 w.heap.size b) := hw0 ▸ hid ((BxB.laid w b).jk (((Jk.refl _).alloc _).alloc _))
  have HZ0 : Hid (PtB w0 (w.heap.size + 1) 0 0 0 0) := by
    rw [← hw0]
    have := (PtB.laid (w.alloc (.cells #[.int .i64 b.a.lo, .int .i64 b.a.hi, .int .i64 b.b.lo, .int .i64 b.b.hi, .int .i64 b.c.lo, .int .i64 b.c.hi, .int .i64 b.d.lo, .int .i64 b.d.hi, .int .i64 b.e.lo, .int .i64 b.e.hi] 30)) 0 0 0 0).jk ((Jk.refl _).alloc (.cells #[.int .i64 0, .int .i64 0, .int .i64 0, .int .i64 0] 52))
    rw [World.size_alloc] at this
    exact hid this
  have HP0 : Hid (PtF w0 (w.heap.size + 1 + 1) (ptN p 0)) := by
    rw [← hw0]
    have := PtB.laid ((w.alloc (.cells #[.int .i64 b.a.lo, .int .i64 b.a.hi, .int .i64 b.b.lo, .int .i64 b.b.hi, .int .i64 b.c.lo, .int .i64 b.c.hi, .int .i64 b.d.lo, .int .i64 b.d.hi, .int .i64 b.e.lo, .int .i64 b.e.hi] 30)).alloc (.cells #[.int .i64 0, .int .i64 0, .int .i64 0, .int .i64 0] 52)) 0 0 0 0
    rw [World.size_alloc, World.size_alloc] at this
    exact hid this
  go_enter Try.func16, Try.ntmps16
  go_upto_region 3 with fail
  go_loopg [7] 4 (fun r i wr => ∃ j, j + r = 4 ∧ i = .int .i64 (j : Int) ∧ Hid (BxB wr w.heap.size b ∧ PtB wr (w.heap.size + 1) 0 0 0 0 ∧ PtF wr (w.heap.size + 1 + 1) (ptN p j) ∧ Jk w wr))
  case atStart => exact ⟨0, by omega, rfl, hid ⟨HB0.out, HZ0.out, HP0.out, HJ0.out⟩⟩
  case round =>
    obtain ⟨j, hj, rfl, HS⟩ := hrel
    clear HB0 HZ0 HP0 HJ0 hw0
    by_cases hfuel : gk = 0
    · subst hfuel
      obtain rfl : j = 4 := by omega
      have HP4 : Hid (PtB wr (w.heap.size + 1 + 1) (p 0) (p 1) (p 2) (p 3)) := hid HS.out.2.2.1
      have HJ4 := hid HS.out.2.2.2
      have HZ4 := hid HS.out.2.1
      obtain ⟨pl, p0, p1, p2, p3⟩ := HP4.out.in
      obtain ⟨zl, z0, z1, z2, z3⟩ := HZ4.out.in
      have zf := HZ4.out.frozen
      go_wp2
      have hle : w.heap.size ≤ w.heap.size + 1 := Nat.le_succ _
      have HP9 : PtB ((((wr.setCell ⟨w.heap.size + 1, 0, none⟩ (.int .i64 (p 0))).setCell ⟨w.heap.size + 1, 1, none⟩ (.int .i64 (p 1))).setCell ⟨w.heap.size + 1, 2, none⟩ (.int .i64 (p 2))).setCell ⟨w.heap.size + 1, 3, none⟩ (.int .i64 (p 3))) (w.heap.size + 1) (p 0) (p 1) (p 2) (p 3) := heap_setCell_same _ _ _ _ _ _ (heap_setCell_same _ _ _ _ _ _ (heap_setCell_same _ _ _ _ _ _ (heap_setCell_same _ _ _ _ _ _ HZ4.out)))
      exact bodyPost_ret (results_cell Try.results16 rfl (load_Pt HP9)) rfl ⟨rfl, (((HJ4.out.set hle _).set hle _).set hle _).set hle _⟩
    · obtain ⟨r, rfl⟩ : ∃ r, gk = r + 1 := ⟨gk - 1, by omega⟩
      have hj4 : (j : Int) < 4 := by omega
      have hj5 : (j : Int) < 5 := by omega
      have hj0 : (0 : Int) ≤ (j : Int) := by omega
      obtain ⟨k1, k2⟩ := HS.out.1.cellAt (j := j) (by omega)
      have kl := HS.out.1.lt
      have HPj := hid ((HPk.out j).up HS.out.2.2.2)
      have HWj := hid (HWi.out j)
      obtain ⟨y, hy⟩ : ∃ y, p (j : Int) = y := ⟨_, rfl⟩
      obtain ⟨x, hx⟩ : ∃ x, pickI zs j = x := ⟨_, rfl⟩
      obtain ⟨lo, hlo⟩ : ∃ x, (b.at (j : Int)).lo = x := ⟨_, rfl⟩
      obtain ⟨hi, hhi⟩ : ∃ x, (b.at (j : Int)).hi = x := ⟨_, rfl⟩
      rw [hy, hx, hlo, hhi] at HWj
      rw [hx] at HPj
      rw [hlo] at k1
      rw [hhi] at k2
      go_upto_region 5 with fail
      refine region_tail2 (.int .i64 (j : Int)) 17 #[true, true, true, true, true, true, true, true, true, true, true, true, true, true, true, true, true, true, false, false] (by kernel_rfl) (by decide) (by kernel_rfl) (by kernel_rfl) (by kernel_rfl) (fun _ _ _ h => h) (by rfl) (fun _ => rfl) (by kernel_rfl) ?_
      dsimp only [List.take, List.drop]
      repeat (go_big_quiet_step (first | (go_at_call 31; exact AnsW.junk (by with_reducible exact HPj.out) _) | (go_at_call 17; exact on_junk HWj.out _) | exact rfl))
      refine wpQuiet_nil ?_
      rintro _ ⟨Y, rfl⟩
      have HJy : Hid (Jk wr (junk wr Y)) := ⟨Y, rfl⟩
      generalize junk wr Y = wx at HJy ⊢
      have HPx := hid (HS.out.2.2.1.jk HJy.out)
      have kq := PtF.cell HPx.out (j := j) (by omega)
      have kf := HPx.out.frozen j
      have kl2 := HPx.out.lt
      have HPy : Hid (PtF (wx.setCell ⟨w.heap.size + 1 + 1, j, none⟩ (.int .i64 (p (j : Int)))) (w.heap.size + 1 + 1) (ptN p (j + 1))) := hid (PtF.put HPx.out (by omega))
      have HGy := hid (grown_set wx (w.heap.size + 1 + 1) j (.int .i64 (p (j : Int))))
      have HBy := hid ((HS.out.1.jk HJy.out).by HGy.out (by omega))
      have HZy : Hid (PtB (wx.setCell ⟨w.heap.size + 1 + 1, j, none⟩ (.int .i64 (p (j : Int)))) (w.heap.size + 1) 0 0 0 0) := hid ((HGy.out.block _ (HS.out.2.1.jk HJy.out).lt (by simp)).trans (HS.out.2.1.jk HJy.out))
      have HJz := hid ((HS.out.2.2.2.trans HJy.out).grown HGy.out (fun k hk => by cases hk; omega))
      rw [hy] at HPy HBy HZy HJz
      clear k1 k2 kl HPj HWj HGy HPx
      go_wp2
      go_roundg r
      case measure => omega
      case rel => exact ⟨j + 1, by omega, by go_num, hid ⟨HBy.out, HZy.out, HPy.out, HJz.out⟩⟩
theorem inside_ans {b : Bx} {a : Option Addr} {n c : Nat} {zs : List Int} {ww : World} (hI : IsI ww a n c zs) (hb : SmB b) : AnsW ww 16 #[boxV b, .slice a n c] (pointV (insideI b zs)) := fun w hj => inside_any w (hI.jk hj) hb

end Go.Proofs.Ytkkbeobocbgmeaa
