/- The reader of package text: what tree answers, on any text; the reader alone is written.
   The reader of package text: what model answers, on any text; the reader alone is written. -/
import Derived.Test.YtfabodbcdnmpmaaGreatDoorTextM
import Derived.Test.YtfabodbcdnmpmaaGreatDoorHeld
import Derived.Test.YtfabodbcdnmpmaaGreatDoorRowsF
namespace Go.Proofs.YtfabodbcdnmpmaaGreatDoor
open Go.RowKit M

theorem dig_bd : ∀ (l : Txt) (n : Int) (f : Bool), 0 ≤ n → n ≤ 319 → (f = false → n ≤ 31) → 0 ≤ (digR l n f).1 ∧ (digR l n f).1 ≤ 319
  | [], n, f, h0, h1, _ => by simp [digR, h0, h1]
  | c :: r, n, f, h0, h1, h2 => by
    unfold digR
    split
    · rename_i h
      have hc : 48 ≤ c.toNat ∧ c.toNat ≤ 57 := by simpa [isDig] using h.2
      have := h2 h.1
      exact dig_bd r _ _ (by omega) (by omega) (fun e => by simpa using e)
    · exact ⟨h0, h1⟩
theorem small_bd {p : Txt} {s s' : Rst} {n : Int} (h : smallR p s = (n, s')) : 0 ≤ n ∧ n ≤ 319 := by
  have h1 := dig_bd (takeR p s).1 0 (takeR p s).2 (by omega) (by omega) (fun _ => by omega)
  have h3 : digR (takeR p s).1 0 (takeR p s).2 = (n, s') := h
  rw [h3] at h1
  exact h1
theorem leaf_len (s : Rst) : (leafR s).2.1.length ≤ s.1.length := by
  obtain ⟨⟨A, s1⟩, e1⟩ : ∃ R, numR kLeaf s = R := ⟨_, rfl⟩
  have h1 := num_len e1
  have h2 := take_len [10] s1
  simp only [leafR, e1]
  omega
theorem fork_len (s : Rst) : (forkR s).2.1.length ≤ s.1.length := by
  obtain ⟨⟨F, s1⟩, e1⟩ : ∃ R, smallR kIf s = R := ⟨_, rfl⟩
  obtain ⟨⟨A, s2⟩, e2⟩ : ∃ R, numR kLe s1 = R := ⟨_, rfl⟩
  obtain ⟨⟨L, s3⟩, e3⟩ : ∃ R, smallR kThen s2 = R := ⟨_, rfl⟩
  obtain ⟨⟨Q, s4⟩, e4⟩ : ∃ R, smallR kElse s3 = R := ⟨_, rfl⟩
  have h1 := small_len e1
  have h2 := num_len e2
  have h3 := small_len e3
  have h4 := small_len e4
  have h5 := take_len [10] s4
  simp only [forkR, e1, e2, e3, e4]
  omega
theorem node_len (s : Rst) : (nodeR s).2.1.length ≤ s.1.length := by
  unfold nodeR
  split
  · exact leaf_len s
  · exact fork_len s
theorem nodes_bd : ∀ (k : Nat) (s : Rst), (nodesR k s).1.length ≤ k ∧ ∀ w, w ∈ (nodesR k s).1 → 0 ≤ w ∧ w ≤ 18446744073709551615
  | 0, s => by simp [nodesR]
  | k + 1, s => by
    unfold nodesR
    split
    · simp
    · have := nodes_bd k (nodeR s).2
      refine ⟨by simp only [List.length_cons]; omega, fun w hw => ?_⟩
      simp only [List.mem_cons] at hw
      rcases hw with rfl | hw
      · exact Nd.pack_bd _
      · exact this.2 w hw

/-- a tree in a block of its own -/
def TkB (w : World) (h : Nat) (cl : Int) (a : Option Addr) (n c : Nat) : Prop := w.heap[h]? = some (.cells #[.int .i64 cl, .slice a n c] 44 (0, 0))
theorem TkB.lt {w : World} {h : Nat} {cl : Int} {a : Option Addr} {n c : Nat} (H : TkB w h cl a n c) : h < w.heap.size := (Array.getElem?_eq_some_iff.1 H).1
theorem TkB.c0 {w : World} {h : Nat} {cl : Int} {a : Option Addr} {n c : Nat} (H : TkB w h cl a n c) : w.cell? ⟨h, 0, none⟩ = some (.int .i64 cl) := by rw [cell_of_row _ _ _ _ _ _ H]; rfl
theorem TkB.c1 {w : World} {h : Nat} {cl : Int} {a : Option Addr} {n c : Nat} (H : TkB w h cl a n c) : w.cell? ⟨h, 1, none⟩ = some (.slice a n c) := by rw [cell_of_row _ _ _ _ _ _ H]; rfl
theorem TkB.frozen {w : World} {h : Nat} {cl : Int} {a : Option Addr} {n c : Nat} (H : TkB w h cl a n c) (q : Nat) : w.frozen? ⟨h, q, none⟩ = false := frozen_of_row _ _ _ _ _ H
theorem TkB.set0 {w : World} {h : Nat} {cl : Int} {a : Option Addr} {n c : Nat} (H : TkB w h cl a n c) (x : Int) : TkB (w.setCell ⟨h, 0, none⟩ (.int .i64 x)) h x a n c := heap_setCell_same _ _ _ _ _ _ H
theorem TkB.set1 {w : World} {h : Nat} {cl : Int} {a : Option Addr} {n c : Nat} (H : TkB w h cl a n c) (a' : Option Addr) (n' c' : Nat) : TkB (w.setCell ⟨h, 1, none⟩ (.slice a' n' c')) h cl a' n' c' := heap_setCell_same _ _ _ _ _ _ H
theorem TkB.by {w w' : World} {h : Nat} {cl : Int} {a : Option Addr} {n c g : Nat} (H : TkB w h cl a n c) (hg : w.grownBy w' (some g)) (hne : h ≠ g) : TkB w' h cl a n c := (hg.block h H.lt (by simpa using hne)).trans H
theorem TkB.jk {w w' : World} {h : Nat} {cl : Int} {a : Option Addr} {n c : Nat} (H : TkB w h cl a n c) (hj : Jk w w') : TkB w' h cl a n c := (hj.below.block h H.lt).trans H
theorem TkB.laid (w : World) (cl : Int) (a : Option Addr) (n c : Nat) : TkB (w.alloc (.cells #[.int .i64 cl, .slice a n c] 44)) w.heap.size cl a n c := heap_alloc_new w _
/-- a world that a call on the reader may leave -/
structure Rld (w : World) (b : Nat) where
  w' : World
  g : w.grownBy w' (some b)
/-- what tree leaves -/
def GotK (w : World) (b : Nat) (t : Pt) (s' : Rst) (e : Ending) (w' : World) : Prop :=
  ∃ a n c, e = .returned (.agg #[.int .i64 t.cl, .slice a n c]) ∧ RdB w' b s'.1 s'.2 ∧ w.grownBy w' (some b) ∧ IsW w' a n c t.ws ∧ FitI t.cl ∧ ∀ g o, a = some ⟨g, o, none⟩ → w.heap.size ≤ g ∧ g < w'.heap.size

set_option maxRecDepth 100000 in
set_option maxHeartbeats 1600000 in
theorem tree_r {wb : World} (hL : LibP wb) (b : Nat) (s : Rst) (hl : s.1.length ≤ 1000000) {t : Pt} {s' : Rst} (hs : treeR s = (t, s')) (w : World) (h : RdJ wb b s.1 s.2 w) :
    Calls Tryz.prog 32 #[.pointer (some ⟨b, 0, none⟩)] w fun e w' => GotK w b t s' e w' := by
  obtain ⟨l, f⟩ := s
  simp only at h hl
  obtain ⟨⟨C, s1⟩, e1⟩ : ∃ R, smallR kTree (l, f) = R := ⟨_, rfl⟩
  obtain ⟨⟨N, s2⟩, e2⟩ : ∃ R, smallR [32] s1 = R := ⟨_, rfl⟩
  obtain ⟨s3, e3⟩ : ∃ R, takeR [10] s2 = R := ⟨_, rfl⟩
  have l1 := small_len e1
  have l2 := small_len e2
  have l3 := take_len [10] s2
  rw [e3] at l3
  simp only at l1
  have hC := small_bd e1
  have hN := small_bd e2
  obtain ⟨⟨W, s4⟩, e4⟩ : ∃ R, nodesR N.toNat s3 = R := ⟨_, rfl⟩
  have e5 : s4 = s' := by
    have := congrArg Prod.snd hs
    simpa [treeR, e1, e2, e3, e4] using this
  have e6 : (⟨C, W⟩ : Pt) = t := by
    have := congrArg Prod.fst hs
    simpa [treeR, e1, e2, e3, e4] using this
  subst e5
  subst e6
  obtain ⟨M, rfl⟩ := Int.eq_ofNat_of_zero_le hN.1
  rw [Int.toNat_natCast] at e4
  have hW := (nodes_bd M s3).2
  rw [e4] at hW
  have H1 := hid (small_r hL b kTree (l, f) e1)
  have H2 := hid (small_r hL b [32] s1 e2)
  have H3 := hid (take_r hL b [10] s2 e3)
  have HE := hid e4
  have HW := hid hW
  have HL := hid hL
  obtain ⟨w0, hw0⟩ : ∃ w0, (w.alloc (.cells #[.int .i64 0, .slice none 0 0] 44)).alloc (.cells #[.int .i64 0, .slice none 0 0] 44) = w0 := ⟨_, rfl⟩
  have hj0 : Jk w w0 := hw0 ▸ ((Jk.refl w).alloc _).alloc _
  have hN0 : TkB w0 (w.heap.size + 1) 0 none 0 0 := by
    rw [← hw0]
    have := TkB.laid (w.alloc (.cells #[.int .i64 0, .slice none 0 0] 44)) 0 none 0 0
    rwa [World.size_alloc] at this
  have hM0 : TkB w0 w.heap.size 0 none 0 0 := by
    rw [← hw0]
    exact ((Jk.refl _).alloc _).below.block _ (by simp) |>.trans (TkB.laid w 0 none 0 0)
  have hbl := h.rd.lt
  have hne : b ≠ w.heap.size + 1 := by omega
  have hne2 : b ≠ w.heap.size := by omega
  have hwb : wb.heap.size ≤ w.heap.size + 1 := Nat.le_succ_of_le h.j.below.size
  have HSz : Hid (w0.heap.size = w.heap.size + 1 + 1) := by rw [← hw0]; show _ = _; simp
  have HR0 := hid (h.grow hj0)
  have HG0 := hid (hj0.by b)
  have HN0 := hid hN0
  have HM0 := hid hM0
  clear h hj0 hN0 hM0 hs e1 e2 e3 e4 hW hL
  go_enter Tryz.func32, Tryz.ntmps32
  go_upto_region 3 with (go_at_call 29; refine (H1.out.on HR0.out).mono ?_; rintro e w2 ⟨rfl, hR2, hg2⟩; have HR2 := hid (HR0.out.call hR2 hg2); have HG2 := hid (HG0.out.trans hg2); have HN2 := hid (HN0.out.by hg2 (Ne.symm hne)); have HM2 := hid (HM0.out.by hg2 (Ne.symm hne2)); have HZ2 := hid hg2.size; clear hR2 hg2; have n1 := HN2.out.c0; have hf1 := HN2.out.frozen 0; have hlt1 := HN2.out.lt)
  have HR3 := hid (HR2.out.put hwb hne 0 (.int .i64 C))
  have HG3 := hid (put_new HG2.out (Nat.le_succ _) 0 (.int .i64 C))
  have HN3 := hid (HN2.out.set0 C)
  have HM3 : Hid (TkB (w2.setCell ⟨w.heap.size + 1, 0, none⟩ (.int .i64 C)) w.heap.size 0 none 0 0) := HM2.out.by (grown_set w2 (w.heap.size + 1) 0 (.int .i64 C)) (by omega)
  have HZ3 : Hid (w.heap.size + 1 + 1 ≤ (w2.setCell ⟨w.heap.size + 1, 0, none⟩ (.int .i64 C)).heap.size) := by
    have := HZ2.out
    rw [HSz.out] at this
    exact Nat.le_trans this (grown_set w2 _ 0 _).size
  clear HR2 HG2 HN2 HM2 hlt1 n1 hf1 HR0 HG0 HN0 HM0 HZ2 hw0
  generalize w2.setCell ⟨w.heap.size + 1, 0, none⟩ (.int .i64 C) = w3 at HR3 HG3 HN3 HM3 HZ3 ⊢
  go_upto_region 4 with (go_at_call 29; refine (H2.out.on HR3.out).mono ?_; rintro e w4 ⟨rfl, hR2, hg2⟩; have HR4 := hid (HR3.out.call hR2 hg2); have HG4 := hid (HG3.out.trans hg2); have HN4 := hid (HN3.out.by hg2 (Ne.symm hne)); have HM4 := hid (HM3.out.by hg2 (Ne.symm hne2)); have HZ4 := hid (Nat.le_trans HZ3.out hg2.size); clear hR2 hg2)
  go_wp2_with (go_at_call 30; refine (H3.out.on HR4.out).mono ?_; rintro e w5 ⟨rfl, hR2, hg2⟩; have HR5 := hid (HR4.out.call hR2 hg2); have HG5 := hid (HG4.out.trans hg2); have HN5 := hid (HN4.out.by hg2 (Ne.symm hne)); have HM5 := hid (HM4.out.by hg2 (Ne.symm hne2)); have HZ5 := hid (Nat.le_trans HZ4.out hg2.size); clear hR2 hg2)
  clear HR3 HG3 HN3 HM3 HZ3 HR4 HG4 HN4 HM4 HZ4
  go_loopg [] M (fun k wr => ∃ (j : Nat) (ds rest : List Int) (l : Txt) (f : Bool) (a : Option Addr) (c : Nat), j + k = M ∧ l.length ≤ 1000000 ∧ Hid (RdJ wb b l f wr) ∧ Hid (w.grownBy wr (some b)) ∧ Hid (TkB wr (w.heap.size + 1) C a j c) ∧ Hid (TkB wr w.heap.size 0 none 0 0) ∧ Hid (OwnU (w.heap.size + 1 + 1) wr (.slice a j c) j ds) ∧ Hid (nodesR k (l, f) = (rest, s4)) ∧ Hid (ds ++ rest = W) ∧ Hid (w.heap.size + 1 + 1 ≤ wr.heap.size))
  case atStart => exact ⟨0, [], W, s3.1, s3.2, none, 0, by omega, by omega, HR5, HG5, HN5, HM5, hid ⟨rfl, World.ownsRow_nil _ _ _ _⟩, HE, hid rfl, HZ5⟩
  case round =>
    obtain ⟨j, ds, rest, l, f, a, c, hj, hll, HR, HG, HN, HM, HO, HD, HA, HZ⟩ := hrel
    clear HR5 HG5 HN5 HM5 HZ5
    have c1 := HR.out.rd.c1
    have t0 := HN.out.c0
    have t1 := HN.out.c1
    have htl := HN.out.lt
    have htf := HN.out.frozen
    have hb := HR.out.rd.lt
    by_cases hex : f = true ∨ gk = 0
    · have HX : Hid (rest = [] ∧ s4 = (l, f)) := by
        have e := HD.out
        rcases hex with rfl | rfl
        · cases gk with
          | zero => simp only [nodesR, Prod.mk.injEq] at e; exact ⟨e.1.symm, e.2.symm⟩
          | succ k => simp only [nodesR, if_true, Prod.mk.injEq] at e; exact ⟨e.1.symm, e.2.symm⟩
        · simp only [nodesR, Prod.mk.injEq] at e; exact ⟨e.1.symm, e.2.symm⟩
      have HDs : Hid (ds = W) := by
        have := HA.out
        rw [HX.out.1, List.append_nil] at this
        exact this
      have HFin : Hid (IsW wr a j c W) := HDs.out ▸ OwnK.isW HO.out (fun i hi => by
        have hm : wd ds i ∈ ds := by
          have : i < ds.length := by rw [HO.out.1]; exact hi
          simp [wd, this]
        exact HW.out _ (HDs.out ▸ hm))
      have HAd : Hid (∀ g o, a = some ⟨g, o, none⟩ → w.heap.size ≤ g ∧ g < wr.heap.size) := fun g o e => by
        subst e
        have := World.ownsRow.lt HO.out.2 g rfl
        omega
      have m0 := HM.out.c0
      have m1 := HM.out.c1
      have hmf := HM.out.frozen
      have hml := HM.out.lt
      have HEn := hid ((HM.out.set0 C).set1 a j c)
      have HGf := hid (put_new (put_new HG.out (Nat.le_refl _) 0 (.int .i64 C)) (Nat.le_refl _) 1 (.slice a j c))
      have HRf : Hid (RdB ((wr.setCell ⟨w.heap.size, 0, none⟩ (.int .i64 C)).setCell ⟨w.heap.size, 1, none⟩ (.slice a j c)) b s4.1 s4.2) := by
        rw [HX.out.2]
        have h1 : RdB (wr.setCell ⟨w.heap.size, 0, none⟩ (.int .i64 C)) b l f := ((grown_set wr w.heap.size 0 _).block b hb (by simpa using hne2)).trans HR.out.rd
        exact ((grown_set _ w.heap.size 1 _).block b h1.lt (by simpa using hne2)).trans h1
      have HWf : Hid (IsW ((wr.setCell ⟨w.heap.size, 0, none⟩ (.int .i64 C)).setCell ⟨w.heap.size, 1, none⟩ (.slice a j c)) a j c W) := by
        have hk : ∀ g o, a = some ⟨g, o, none⟩ → some w.heap.size ≠ some g := fun g o e h => by
          subst e
          have := World.ownsRow.lt HO.out.2 g rfl
          simp at h
          omega
        exact (HFin.out.kept (grown_set wr w.heap.size 0 _) hk).kept (grown_set _ w.heap.size 1 _) hk
      have hsz : ((wr.setCell ⟨w.heap.size, 0, none⟩ (.int .i64 C)).setCell ⟨w.heap.size, 1, none⟩ (.slice a j c)).heap.size = wr.heap.size := by simp
      have HZf := hid hsz
      clear hsz
      obtain ⟨z0, z1⟩ : _ ∧ _ := ⟨HEn.out.c0, HEn.out.c1⟩
      have hlt : f = true ∨ ¬ (j : Int) < (M : Int) := by
        rcases hex with h | h
        · exact .inl h
        · exact .inr (by omega)
      clear hex
      rcases hlt with rfl | hlt
      case' inr => cases f
      all_goals
        go_wp2
        exact bodyPost_ret (v := .agg #[.int .i64 C, .slice a j c]) (by simp [results, Tryz.results32, go_sem, z0, z1]) rfl ⟨a, j, c, rfl, HRf.out, HGf.out, HWf.out, ⟨by simp only; omega, by simp only; omega⟩, fun g o e => by rw [HZf.out]; exact HAd.out g o e⟩
    · obtain ⟨k, rfl⟩ : ∃ k, gk = k + 1 := ⟨gk - 1, by omega⟩
      obtain rfl : f = false := by cases f <;> simp_all
      have hlt : (j : Int) < (M : Int) := by omega
      clear hex
      obtain ⟨⟨x, s5⟩, e5⟩ : ∃ R, nodeR (l, false) = R := ⟨_, rfl⟩
      have l5 := node_len (l, false)
      rw [e5] at l5
      simp only at l5
      have HD2 : Hid (rest = x.pack :: (nodesR k s5).1 ∧ s4 = (nodesR k s5).2) := by
        have e := HD.out
        simp only [nodesR, Bool.false_eq_true, if_false, e5, Prod.mk.injEq] at e
        exact ⟨e.1.symm, e.2.symm⟩
      have HX := hid (node_r HL.out b (l, false) hll e5)
      have HP := hid (pack_ans x)
      have HPb := hid (Nd.pack_bd x)
      obtain ⟨y, hy⟩ : ∃ y, x.pack = y := ⟨_, rfl⟩
      rw [hy] at HD2 HP HPb
      simp only [nodeV] at HX HP
      clear hy e5 HD
      have hq : ∀ p : Rld wr b, p.w'.cell? ⟨w.heap.size + 1, 1, none⟩ = some (.slice a j c) := fun p => (HN.out.by p.g (Ne.symm hne)).c1
      go_wp2_with fail
      refine region_midS (T := Rld wr b) (fun p => p.w') 6 [0, 1, 2] [3, 4, 5] #[true, true, true, true, true, true, false, false, false] (by kernel_rfl) (by kernel_rfl) (fun _ _ d _ _ h => by cases d <;> exact h) ⟨⟨wr.drew, grown_drew (World.grownBy.refl _ _)⟩, rfl⟩ ?_
      dsimp only [opersAt, List.getElem?_cons_zero, List.getElem?_cons_succ]
      repeat (go_big_quiet_step (first | exact rfl))
      refine wpQuiet_nil ?_
      intro K1 hK1
      go_simp
      go_at_call 50
      refine (HX.out.on (HR.out.grow (Jk.refl wr).drew)).mono ?_
      rintro e w1 ⟨rfl, hR1, hg1⟩
      have HR1 := hid ((HR.out.grow (Jk.refl wr).drew).call hR1 hg1)
      have HG1 : Hid (wr.grownBy w1 (some b)) := (grown_drew (World.grownBy.refl wr _)).trans hg1
      clear hR1 hg1
      go_simp
      refine hK1 _ _ ⟨⟨w1, HG1.out⟩, rfl⟩ ?_
      clear hK1 K1
      intro K2 hK2
      go_simp
      go_at_call 49
      refine (HP.out.on _).mono ?_
      rintro e w2 ⟨rfl, hj2⟩
      have HJ2 := hid hj2
      clear hj2
      go_simp
      refine hK2 _ _ ⟨⟨w2, HG1.out.trans (HJ2.out.by b)⟩, rfl⟩ ?_
      clear hK2 K2
      intro K3 hK3
      go_simp
      refine hK3 _ _ ⟨⟨_, HG1.out.trans ((HJ2.out.alloc (.cells #[.int .u64 y] 55)).by b)⟩, rfl⟩ ?_
      clear hK3 K3
      obtain ⟨w3, hw3⟩ : ∃ w3, w2.alloc (.cells #[.int .u64 y] 55) = w3 := ⟨_, rfl⟩
      have HJ3 : Hid (Jk w1 w3) := hw3 ▸ HJ2.out.alloc _
      have HG3 : Hid (wr.grownBy w3 (some b)) := HG1.out.trans (HJ3.out.by b)
      have HAt : Hid (AtK .u64 w3 w2.heap.size 0 [y]) := fun i hi => by
        simp at hi
        subst hi
        rw [← hw3]
        exact new_cells w2 #[.int .u64 y] _ _ rfl 0 _ rfl
      have HR3 := hid (HR1.out.grow HJ3.out)
      have hnb : (Value.slice a j c).ownBlock ≠ some b := fun e => by have := HO.out.base b e; omega
      have HO3 : Hid (OwnU (w.heap.size + 1 + 1) w3 (.slice a j c) j ds) := HO.out.kept HG3.out (.inr hnb)
      have HN3 : Hid (TkB w3 (w.heap.size + 1) C a j c) := HN.out.by HG3.out (Ne.symm hne)
      have HM3 : Hid (TkB w3 w.heap.size 0 none 0 0) := HM.out.by HG3.out (Ne.symm hne2)
      have hz3 : w.heap.size + 1 + 1 ≤ w3.heap.size := Nat.le_trans HZ.out HG3.out.size
      simp only [hw3]
      clear hw3 HN HM HO c1 t0 t1 htl htf hb hq
      refine list_appU rfl (.tmp 25) (.tmp 29) rfl HO3.out hz3 rfl w2.heap.size 0 1 1 [y] rfl (by decide) rfl HAt.out (by omega) ?_
      intro g6 c6 w6 hO6 hG6
      have HO6 := hid hO6
      have hn6 : ∀ k, k < w.heap.size + 1 + 1 → some k ≠ (Value.slice a j c).ownBlock := fun k hk e => by have := HO3.out.base k e.symm; omega
      have HN6 : Hid (TkB w6 (w.heap.size + 1) C a j c) := (hG6.block _ HN3.out.lt (hn6 _ (by omega))).trans HN3.out
      have HM6 : Hid (TkB w6 w.heap.size 0 none 0 0) := (hG6.block _ HM3.out.lt (hn6 _ (by omega))).trans HM3.out
      have HR6 : Hid (RdJ wb b s5.1 s5.2 w6) := ⟨HR3.out.j.grown hG6 (fun k hk => by have := HO3.out.base k hk; omega), HR3.out.base, (hG6.block b HR3.out.rd.lt (hn6 _ (by omega))).trans HR3.out.rd⟩
      have HG6 : Hid (w.grownBy w6 (some b)) := ⟨hG6.os.trans (HG.out.trans HG3.out).os, hG6.tape.trans (HG.out.trans HG3.out).tape, hG6.output.trans (HG.out.trans HG3.out).output, Nat.le_trans (HG.out.trans HG3.out).size hG6.size, fun k hk hkb => (hG6.block k (Nat.lt_of_lt_of_le hk (HG.out.trans HG3.out).size) (hn6 k (by omega))).trans ((HG.out.trans HG3.out).block k hk hkb)⟩
      have HZ6 : Hid (w.heap.size + 1 + 1 ≤ w6.heap.size) := Nat.le_trans hz3 hG6.size
      have t1 := HN6.out.c1
      have htl := HN6.out.lt
      have htf := HN6.out.frozen
      clear hO6 hG6 hn6 hnb
      go_wp2
      go_roundg k
      case measure => omega
      case rel =>
        have hne6 : g6 ≠ w.heap.size + 1 := fun e => by have := World.ownsRow.lt HO6.out.2 g6 rfl; omega
        refine ⟨j + 1, ds ++ [y], (nodesR k s5).1, s5.1, s5.2, some ⟨g6, 0, none⟩, c6, by omega, by omega, hid (HR6.out.put hwb hne 1 _), hid (put_new HG6.out (Nat.le_succ _) 1 _), hid (HN6.out.set1 _ _ _), hid (HM6.out.by (grown_set w6 _ 1 _) (by omega)), hid (HO6.out.kept (grown_set w6 _ 1 _) (.inr (by simpa [Value.ownBlock] using hne6))), hid (by rw [HD2.out.2]), hid (by have := HA.out; rw [HD2.out.1] at this; rw [← this]; simp), hid (Nat.le_trans HZ6.out (grown_set w6 _ 1 _).size)⟩

end Go.Proofs.YtfabodbcdnmpmaaGreatDoor

namespace Go.Proofs.YtfabodbcdnmpmaaGreatDoor
open Go.RowKit M

def Tr.pt (t : Tr) : Pt := ⟨t.cl, t.ws⟩
def Md.pm (m : Md) : Pm := ⟨m.d, m.k, m.b0, m.b1, m.b2, m.ts.map Tr.pt⟩
/-- trees of the call's own, whose words are the call's own, too -/
structure PRow (B : Nat) (w : World) (v : Value) (n : Nat) (ts : List Tr) : Prop where
  own : OwnT B w v n ts
  each : ∀ i, i < n → ∀ g o, (tA ts i).a = some ⟨g, o, none⟩ → B ≤ g ∧ g < w.heap.size ∧ v.ownBlock ≠ some g
  ok : ∀ i, i < n → (tA ts i).ok w
theorem PRow.nil (B : Nat) (w : World) : PRow B w (.slice none 0 0) 0 [] := ⟨OwnT.nil B w, fun i hi => by omega, fun i hi => by omega⟩
theorem PRow.mono {B B' : Nat} {w : World} {v : Value} {n : Nat} {ts : List Tr} (h : PRow B w v n ts) (hb : B' ≤ B) : PRow B' w v n ts :=
  ⟨h.own.mono hb, fun i hi g o e => by
    obtain ⟨h2, h3, h4⟩ := h.each i hi g o e
    exact ⟨Nat.le_trans hb h2, h3, h4⟩, h.ok⟩
theorem PRow.jk {B : Nat} {w w' : World} {v : Value} {n : Nat} {ts : List Tr} (h : PRow B w v n ts) (hj : Jk w w') : PRow B w' v n ts :=
  ⟨h.own.jk hj, fun i hi g o e => by
    obtain ⟨h2, h3, h4⟩ := h.each i hi g o e
    exact ⟨h2, Nat.lt_of_lt_of_le h3 hj.below.size, h4⟩, fun i hi => (h.ok i hi).jk hj⟩
theorem PRow.kept {B : Nat} {w w' : World} {v : Value} {n : Nat} {ts : List Tr} (h : PRow B w v n ts) {b : Nat} (hb : b < B) (hg : w.grownBy w' (some b)) : PRow B w' v n ts := by
  refine ⟨h.own.kept hg ?_, fun i hi g o e => ?_, fun i hi => ?_⟩
  · cases hv : v.ownBlock with
    | none => exact .inl rfl
    | some k =>
      right
      intro e
      have := h.own.base k hv
      simp at e
      omega
  · obtain ⟨h2, h3, h4⟩ := h.each i hi g o e
    exact ⟨h2, Nat.lt_of_lt_of_le h3 hg.size, h4⟩
  · refine ⟨(h.ok i hi).fit, (h.ok i hi).is.kept hg fun g' o e => ?_⟩
    have := (h.each i hi g' o e).1
    intro e2
    simp at e2
    omega
theorem PRow.app {B : Nat} {w w' : World} {v : Value} {n : Nat} {ts : List Tr} {t : Tr} {g' c' : Nat} (h : PRow B w v n ts) (ho : OwnT B w' (.slice (some ⟨g', 0, none⟩) (n + 1) c') (n + 1) (ts ++ [t])) (hg : w.grownBy w' v.ownBlock) (hg' : v.ownBlock = some g' ∨ g' = w.heap.size)
    (ht : t.ok w) (ha : ∀ g o, t.a = some ⟨g, o, none⟩ → B ≤ g ∧ g < w.heap.size ∧ v.ownBlock ≠ some g) : PRow B w' (.slice (some ⟨g', 0, none⟩) (n + 1) c') (n + 1) (ts ++ [t]) := by
  have hl := h.own.1
  have hall : ∀ i, i < n + 1 → (∀ g o, (tA (ts ++ [t]) i).a = some ⟨g, o, none⟩ → B ≤ g ∧ g < w.heap.size ∧ v.ownBlock ≠ some g) ∧ (tA (ts ++ [t]) i).ok w := fun i hi => by
    by_cases e : i < n
    · rw [tA_append_left _ _ _ (by omega)]; exact ⟨h.each i e, h.ok i e⟩
    · rw [tA_append_right _ _ _ (by omega), show i - ts.length = 0 by omega]; exact ⟨ha, ht⟩
  refine ⟨ho, fun i hi g o e0 => ?_, fun i hi => ?_⟩
  · obtain ⟨h2, h3, h4⟩ := (hall i hi).1 g o e0
    refine ⟨h2, Nat.lt_of_lt_of_le h3 hg.size, fun e => ?_⟩
    simp [Value.ownBlock] at e
    rcases hg' with e2 | e2
    · rw [e] at e2; exact h4 e2
    · omega
  · obtain ⟨h1, h5⟩ := hall i hi
    refine ⟨h5.fit, h5.is.kept hg fun g2 o e => ?_⟩
    intro e2
    exact (h1 g2 o e).2.2 e2
theorem MdB.by {w w' : World} {h g : Nat} {m : Md} (H : MdB w h m) (hg : w.grownBy w' (some g)) (hne : h ≠ g) : MdB w' h m := (hg.block h H.lt (by simpa using hne)).trans H
theorem tree_len (s : Rst) : (treeR s).2.1.length ≤ s.1.length := by
  obtain ⟨⟨C, s1⟩, e1⟩ : ∃ R, smallR kTree s = R := ⟨_, rfl⟩
  obtain ⟨⟨N, s2⟩, e2⟩ : ∃ R, smallR [32] s1 = R := ⟨_, rfl⟩
  have h1 := small_len e1
  have h2 := small_len e2
  have h3 := take_len [10] s2
  have h4 : ∀ (k : Nat) (s : Rst), (nodesR k s).2.1.length ≤ s.1.length := fun k => by
    induction k with
    | zero => intro s; simp [nodesR]
    | succ k ih =>
      intro s
      unfold nodesR
      split
      · simp
      · have := ih (nodeR s).2
        have := node_len s
        simp only
        omega
  have h5 := h4 N.toNat (takeR [10] s2)
  simp only [treeR, e1, e2]
  omega
theorem bias_fit : ∀ (k : Nat) (s : Rst) (i : Nat), FitI (wd (biasR k s).1 i)
  | 0, s, i => by simp [biasR, wd, FitI]
  | k + 1, s, 0 => scanN_bd _
  | k + 1, s, i + 1 => by
    have := bias_fit k (numR [32] s).2 i
    simpa [biasR, wd] using this
/-- what model leaves -/
def GotMd (w : World) (b : Nat) (P : Pm) (s' : Rst) (e : Ending) (w' : World) : Prop :=
  ∃ m : Md, e = .returned (modelV m) ∧ m.pm = P ∧ m.ok w' ∧ PRow w.heap.size w' (.slice m.a m.n m.c) m.n m.ts ∧ RdB w' b s'.1 s'.2 ∧ w.grownBy w' (some b)

set_option maxRecDepth 100000 in
set_option maxHeartbeats 3200000 in
theorem model_r {wb : World} (hL : LibP wb) (b : Nat) (s : Rst) (hl : s.1.length ≤ 1000000) {P : Pm} {s' : Rst} (hs : modelR s = (P, s')) (w : World) (h : RdJ wb b s.1 s.2 w) :
    Calls Tryz.prog 14 #[.pointer (some ⟨b, 0, none⟩)] w fun e w' => GotMd w b P s' e w' := by
  obtain ⟨l, f⟩ := s
  simp only at h hl
  obtain ⟨⟨D, s1⟩, e1⟩ : ∃ R, smallR kForest (l, f) = R := ⟨_, rfl⟩
  obtain ⟨⟨K, s2⟩, e2⟩ : ∃ R, smallR [32] s1 = R := ⟨_, rfl⟩
  obtain ⟨s3, e3⟩ : ∃ R, takeR kBias s2 = R := ⟨_, rfl⟩
  have hD := small_bd e1
  have hK := small_bd e2
  have l1 := small_len e1
  have l2 := small_len e2
  have l3 := take_len kBias s2
  rw [e3] at l3
  simp only at l1
  obtain ⟨N, hN⟩ : ∃ N : Nat, (N : Int) = min K 3 := ⟨(min K 3).toNat, by omega⟩
  obtain ⟨⟨Bs, s4⟩, e4⟩ : ∃ R, biasR N s3 = R := ⟨_, rfl⟩
  obtain ⟨s5, e5⟩ : ∃ R, takeR [10] s4 = R := ⟨_, rfl⟩
  have l4 := take_len [10] s4
  rw [e5] at l4
  have hF := bias_fit N s3
  rw [e4] at hF
  simp only at hF
  obtain ⟨⟨T, s6⟩, e6⟩ : ∃ R, treesR 8 s5 = R := ⟨_, rfl⟩
  have hmin : (min K 3).toNat = N := by omega
  have e7 : s6 = s' := by
    have := congrArg Prod.snd hs
    simpa [modelR, e1, e2, e3, hmin, e4, e5, e6] using this
  have e8 : (⟨D, K, wd Bs 0, wd Bs 1, wd Bs 2, T⟩ : Pm) = P := by
    have := congrArg Prod.fst hs
    simpa [modelR, e1, e2, e3, hmin, e4, e5, e6] using this
  subst e7
  subst e8
  have hlb : ∀ (k : Nat) (s : Rst), (biasR k s).2.1.length ≤ s.1.length := fun k => by
    induction k with
    | zero => intro s; simp [biasR]
    | succ k ih =>
      intro s
      have h1 := ih (numR [32] s).2
      have h2 := num_len (show numR [32] s = ((numR [32] s).1, (numR [32] s).2) from rfl)
      simp only [biasR]
      omega
  have l5 := hlb N s3
  rw [e4] at l5
  simp only at l5
  have H1 := hid (small_r hL b kForest (l, f) e1)
  have H2 := hid (small_r hL b [32] s1 e2)
  have H3 := hid (take_r hL b kBias s2 e3)
  have H5 := hid (take_r hL b [10] s4 e5)
  have HE4 := hid e4
  have HE6 := hid e6
  have HF := hid hF
  have HL := hid hL
  have HN := hid hN
  obtain ⟨w0, hw0⟩ : ∃ w0, (w.alloc (.cells #[.int .i64 0, .int .i64 0, .int .i64 0, .int .i64 0, .int .i64 0, .slice none 0 0] 25)).alloc (.cells #[.int .i64 0, .int .i64 0, .int .i64 0, .int .i64 0, .int .i64 0, .slice none 0 0] 25) = w0 := ⟨_, rfl⟩
  have hj0 : Jk w w0 := hw0 ▸ ((Jk.refl w).alloc _).alloc _
  have hN0 : MdB w0 (w.heap.size + 1) ⟨0, 0, 0, 0, 0, none, 0, 0, []⟩ := by
    rw [← hw0]
    have := MdB.laid (w.alloc (.cells #[.int .i64 0, .int .i64 0, .int .i64 0, .int .i64 0, .int .i64 0, .slice none 0 0] 25)) ⟨0, 0, 0, 0, 0, none, 0, 0, []⟩
    rwa [World.size_alloc] at this
  have hM0 : MdB w0 w.heap.size ⟨0, 0, 0, 0, 0, none, 0, 0, []⟩ := by
    rw [← hw0]
    exact ((Jk.refl _).alloc _).below.block _ (by simp) |>.trans (MdB.laid w ⟨0, 0, 0, 0, 0, none, 0, 0, []⟩)
  have hbl := h.rd.lt
  have hne : b ≠ w.heap.size + 1 := by omega
  have hne2 : b ≠ w.heap.size := by omega
  have hwb : wb.heap.size ≤ w.heap.size + 1 := Nat.le_succ_of_le h.j.below.size
  have HSz : Hid (w0.heap.size = w.heap.size + 1 + 1) := by rw [← hw0]; show _ = _; simp
  have HR0 := hid (h.grow hj0)
  have HG0 := hid (hj0.by b)
  have HN0 := hid hN0
  have HM0 := hid hM0
  clear h hj0 hN0 hM0 hs e1 e2 e3 e4 e5 e6 hL hF hlb hmin hN
  go_enter Tryz.func14, Tryz.ntmps14
  go_upto_region 3 with (go_at_call 29; refine (H1.out.on HR0.out).mono ?_; rintro e w2 ⟨rfl, hR2, hg2⟩; have HR2 := hid (HR0.out.call hR2 hg2); have HG2 := hid (HG0.out.trans hg2); have HN2 := hid (HN0.out.by hg2 (Ne.symm hne)); have HM2 := hid (HM0.out.by hg2 (Ne.symm hne2)); have HZ2 := hid hg2.size; clear hR2 hg2; have n1 := HN2.out.in.2.1; have hf1 := HN2.out.frozen 0; have hlt1 := HN2.out.lt)
  have HR3 := hid (HR2.out.put hwb hne 0 (.int .i64 D))
  have HG3 := hid (put_new HG2.out (Nat.le_succ _) 0 (.int .i64 D))
  have HN3 := hid (HN2.out.setD D)
  have HM3 : Hid (MdB (w2.setCell ⟨w.heap.size + 1, 0, none⟩ (.int .i64 D)) w.heap.size ⟨0, 0, 0, 0, 0, none, 0, 0, []⟩) := HM2.out.by (grown_set w2 (w.heap.size + 1) 0 (.int .i64 D)) (by omega)
  have HZ3 : Hid (w.heap.size + 1 + 1 ≤ (w2.setCell ⟨w.heap.size + 1, 0, none⟩ (.int .i64 D)).heap.size) := by
    have := HZ2.out
    rw [HSz.out] at this
    exact Nat.le_trans this (grown_set w2 _ 0 _).size
  clear HR2 HG2 HN2 HM2 hlt1 n1 hf1 HR0 HG0 HN0 HM0 HZ2 hw0
  generalize w2.setCell ⟨w.heap.size + 1, 0, none⟩ (.int .i64 D) = w3 at HR3 HG3 HN3 HM3 HZ3 ⊢
  go_upto_region 4 with (go_at_call 29; refine (H2.out.on HR3.out).mono ?_; rintro e w4 ⟨rfl, hR2, hg2⟩; have HR4 := hid (HR3.out.call hR2 hg2); have HG4 := hid (HG3.out.trans hg2); have HN4 := hid (HN3.out.by hg2 (Ne.symm hne)); have HM4 := hid (HM3.out.by hg2 (Ne.symm hne2)); have HZ4 := hid (Nat.le_trans HZ3.out hg2.size); clear hR2 hg2; have n1 := HN4.out.in.2.2.1; have hf1 := HN4.out.frozen 1; have hlt1 := HN4.out.lt)
  have HR5 := hid (HR4.out.put hwb hne 1 (.int .i64 K))
  have HG5 := hid (put_new HG4.out (Nat.le_succ _) 1 (.int .i64 K))
  have HN5 := hid (HN4.out.setK K)
  have HM5 : Hid (MdB (w4.setCell ⟨w.heap.size + 1, 1, none⟩ (.int .i64 K)) w.heap.size ⟨0, 0, 0, 0, 0, none, 0, 0, []⟩) := HM4.out.by (grown_set w4 (w.heap.size + 1) 1 (.int .i64 K)) (by omega)
  have HZ5 : Hid (w.heap.size + 1 + 1 ≤ (w4.setCell ⟨w.heap.size + 1, 1, none⟩ (.int .i64 K)).heap.size) := Nat.le_trans HZ4.out (grown_set w4 _ 1 _).size
  clear HR3 HG3 HN3 HM3 HZ3 HR4 HG4 HN4 HM4 HZ4 hlt1 n1 hf1
  generalize w4.setCell ⟨w.heap.size + 1, 1, none⟩ (.int .i64 K) = w5 at HR5 HG5 HN5 HM5 HZ5 ⊢
  go_upto_region 5 with (go_at_call 30; refine (H3.out.on HR5.out).mono ?_; rintro e w6 ⟨rfl, hR2, hg2⟩; have HR6 := hid (HR5.out.call hR2 hg2); have HG6 := hid (HG5.out.trans hg2); have HN6 := hid (HN5.out.by hg2 (Ne.symm hne)); have HM6 := hid (HM5.out.by hg2 (Ne.symm hne2)); have HZ6 := hid (Nat.le_trans HZ5.out hg2.size); clear hR2 hg2; have n1 := HN6.out.in.2.2.1; have hlt1 := HN6.out.lt)
  clear HR5 HG5 HN5 HM5 HZ5
  go_cut [15, 16] (fun m i wc => m = .int .i64 (N : Int) ∧ i = .int .i64 0 ∧ wc = w6)
  case first =>
    have hN := HN.out
    by_cases h3 : K ≤ 3
    case' pos => obtain rfl : K = (N : Int) := by omega
    case' neg => obtain rfl : N = 3 := by omega
    all_goals
      clear HN hN
      go_wp2
      all_goals
        try go_meet
        first
        | exact ⟨rfl, rfl, rfl⟩
        | omega
  case rest =>
    obtain ⟨rfl, rfl, hw⟩ := hcut
    obtain ⟨w7, rfl⟩ : ∃ z, z = wc := ⟨_, rfl⟩
    obtain rfl := hw.symm
    have hN3 : N ≤ 3 := by have := HN.out; omega
    clear n1 hlt1
    go_wp2
    go_loopg [16, 4] N (fun k i v wr => ∃ (j : Nat) (ds rest : List Int) (l : Txt) (f : Bool), i = .int .i64 (j : Int) ∧ j + k = N ∧ ds.length = j ∧ l.length ≤ 1000000 ∧ Hid (RdJ wb b l f wr) ∧ Hid (w.grownBy wr (some b)) ∧ Hid (MdB wr (w.heap.size + 1) ⟨D, K, wd ds 0, wd ds 1, wd ds 2, none, 0, 0, []⟩) ∧ Hid (MdB wr w.heap.size ⟨0, 0, 0, 0, 0, none, 0, 0, []⟩) ∧ Hid (biasR k (l, f) = (rest, s4)) ∧ Hid (ds ++ rest = Bs) ∧ Hid (w.heap.size + 1 + 1 ≤ wr.heap.size))
    case atStart => exact ⟨0, [], Bs, s3.1, s3.2, rfl, by omega, rfl, by omega, HR6, HG6, HN6, HM6, HE4, hid rfl, HZ6⟩
    case round =>
      obtain ⟨j, ds, rest, l, f, rfl, hj, hdl, hll, HR, HG, HM, HM0, HD, HA, HZ⟩ := hrel
      clear HR6 HG6 HN6 HM6 HZ6
      by_cases hk : gk = 0
      · subst hk
        obtain rfl : j = N := by omega
        have HX : Hid (rest = [] ∧ s4 = (l, f)) := by
          have e := HD.out
          simp only [biasR, Prod.mk.injEq] at e
          exact ⟨e.1.symm, e.2.symm⟩
        have HDs : Hid (ds = Bs) := by
          have := HA.out
          rw [HX.out.1, List.append_nil] at this
          exact this
        have hR' := HR.out
        rw [show RdJ wb b l f wr = RdJ wb b s4.1 s4.2 wr by rw [HX.out.2]] at hR'
        have HR4 := hid hR'
        rw [HDs.out] at HM
        clear hR' HD HA HX HDs HR
        go_wp2_with (go_at_call 30; refine (H5.out.on HR4.out).mono ?_; rintro e w8 ⟨rfl, hR2, hg2⟩; have HR8 := hid (HR4.out.call hR2 hg2); have HG8 := hid (HG.out.trans hg2); have HN8 := hid (HM.out.by hg2 (Ne.symm hne)); have HM8 := hid (HM0.out.by hg2 (Ne.symm hne2)); have HZ8 := hid (Nat.le_trans HZ.out hg2.size); clear hR2 hg2)
        go_loopg [] 8 (fun k wr => ∃ (q : Nat) (ts : List Tr) (rest : List Pt) (l : Txt) (f : Bool) (a : Option Addr) (c : Nat), q + k = 8 ∧ l.length ≤ 1000000 ∧ Hid (RdJ wb b l f wr) ∧ Hid (w.grownBy wr (some b)) ∧ Hid (MdB wr (w.heap.size + 1) ⟨D, K, wd Bs 0, wd Bs 1, wd Bs 2, a, q, c, ts⟩) ∧ Hid (MdB wr w.heap.size ⟨0, 0, 0, 0, 0, none, 0, 0, []⟩) ∧ Hid (PRow (w.heap.size + 1 + 1) wr (.slice a q c) q ts) ∧ Hid (treesR k (l, f) = (rest, s6)) ∧ Hid (ts.map Tr.pt ++ rest = T) ∧ Hid (w.heap.size + 1 + 1 ≤ wr.heap.size))
        case atStart => exact ⟨0, [], T, s5.1, s5.2, none, 0, by omega, by omega, HR8, HG8, HN8, HM8, hid (PRow.nil _ _), HE6, hid rfl, HZ8⟩
        case round =>
          obtain ⟨q, ts, rest, l, f, a, c, hq, hll, HR, HG, HM, HM0, HP, HD, HA, HZ⟩ := hrel
          clear HR8 HG8 HN8 HM8 HZ8 HR4
          have c0 := HR.out.rd.c0
          have c1 := HR.out.rd.c1
          have hb := HR.out.rd.lt
          have hml := HM.out.lt
          have hmf := HM.out.frozen
          obtain ⟨-, n0, n1, n2, n3, n4, n5⟩ := HM.out.in
          simp only at n0 n1 n2 n3 n4 n5
          by_cases hex : f = true ∨ l = [] ∨ gk = 0
          · have HX : Hid (rest = [] ∧ s6 = (l, f)) := by
              have e := HD.out
              cases gk with
              | zero => simp only [treesR, Prod.mk.injEq] at e; exact ⟨e.1.symm, e.2.symm⟩
              | succ k =>
                have h : f = true ∨ l = [] := by rcases hex with h | h | h <;> first | exact .inl h | exact .inr h | cases h
                simp only [treesR, if_pos h, Prod.mk.injEq] at e
                exact ⟨e.1.symm, e.2.symm⟩
            have HTs : Hid (ts.map Tr.pt = T) := by
              have := HA.out
              rw [HX.out.1, List.append_nil] at this
              exact this
            obtain ⟨-, z0, z1, z2, z3, z4, z5⟩ := HM0.out.in
            have hzl := HM0.out.lt
            have hzf := HM0.out.frozen
            simp only at z0 z1 z2 z3 z4 z5
            have HE := hid ((((((HM0.out.setD D).setK K).setB0 (wd Bs 0)).setB1 (wd Bs 1)).setB2 (wd Bs 2)).setT a q c ts)
            have HGf := hid (put_new (put_new (put_new (put_new (put_new (put_new HG.out (Nat.le_refl _) 0 (.int .i64 D)) (Nat.le_refl _) 1 (.int .i64 K)) (Nat.le_refl _) 2 (.int .i64 (wd Bs 0))) (Nat.le_refl _) 3 (.int .i64 (wd Bs 1))) (Nat.le_refl _) 4 (.int .i64 (wd Bs 2))) (Nat.le_refl _) 5 (.slice a q c))
            have hp := fun (z : World) (hz : RdB z b l f) (i : Nat) (u : Value) => (((grown_set z w.heap.size i u).block b hz.lt (by simpa using hne2)).trans hz : RdB (z.setCell ⟨w.heap.size, i, none⟩ u) b l f)
            have HRf := hid (hp _ (hp _ (hp _ (hp _ (hp _ (hp _ HR.out.rd 0 (.int .i64 D)) 1 (.int .i64 K)) 2 (.int .i64 (wd Bs 0))) 3 (.int .i64 (wd Bs 1))) 4 (.int .i64 (wd Bs 2))) 5 (.slice a q c))
            have hw' : w.heap.size < w.heap.size + 1 + 1 := by omega
            have HPf := hid ((((((HP.out.kept hw' (grown_set _ w.heap.size 0 (.int .i64 D))).kept hw' (grown_set _ w.heap.size 1 (.int .i64 K))).kept hw' (grown_set _ w.heap.size 2 (.int .i64 (wd Bs 0)))).kept hw' (grown_set _ w.heap.size 3 (.int .i64 (wd Bs 1)))).kept hw' (grown_set _ w.heap.size 4 (.int .i64 (wd Bs 2)))).kept hw' (grown_set _ w.heap.size 5 (.slice a q c)))
            clear hp
            obtain ⟨-, y0, y1, y2, y3, y4, y5⟩ := HE.out.in
            simp only at y0 y1 y2 y3 y4 y5
            have hlt : f = true ∨ (f = false ∧ l = []) ∨ (f = false ∧ (∃ c r, l = c :: r) ∧ ¬ (q : Int) < 8) := by
              cases f
              · cases l with
                | nil => exact .inr (.inl ⟨rfl, rfl⟩)
                | cons c r => exact .inr (.inr ⟨rfl, ⟨c, r, rfl⟩, by
                    rcases hex with h | h | h
                    · cases h
                    · cases h
                    · omega⟩)
              · exact .inl rfl
            clear hex
            rcases hlt with rfl | ⟨rfl, rfl⟩ | ⟨rfl, ⟨c', r', rfl⟩, hlt⟩
            all_goals
              go_wp2
              refine bodyPost_ret (v := modelV ⟨D, K, wd Bs 0, wd Bs 1, wd Bs 2, a, q, c, ts⟩) (by simp [results, Tryz.results14, go_sem, y0, y1, y2, y3, y4, y5]) rfl ⟨⟨D, K, wd Bs 0, wd Bs 1, wd Bs 2, a, q, c, ts⟩, rfl, ?_, ⟨⟨by simp only; omega, by simp only; omega⟩, ⟨by simp only; omega, by simp only; omega⟩, HF.out 0, HF.out 1, HF.out 2, HPf.out.own.isT HPf.out.ok⟩, HPf.out.mono (by omega), ?_, HGf.out⟩
              · unfold Md.pm
                simp only
                rw [HTs.out]
              · rw [HX.out.2]
                exact HRf.out
          · obtain ⟨k, rfl⟩ : ∃ k, gk = k + 1 := ⟨gk - 1, by omega⟩
            obtain rfl : f = false := by cases f <;> simp_all
            have hlt : (q : Int) < 8 := by omega
            obtain ⟨c', r', hlc⟩ : ∃ c' r', l = c' :: r' := by
              cases l with
              | nil => simp at hex
              | cons c r => exact ⟨c, r, rfl⟩
            obtain ⟨⟨t, s9⟩, e9⟩ : ∃ R, treeR (l, false) = R := ⟨_, rfl⟩
            have l9 := tree_len (l, false)
            rw [e9] at l9
            simp only at l9
            have HD2 : Hid (rest = t :: (treesR k s9).1 ∧ s6 = (treesR k s9).2) := by
              have e := HD.out
              simp only [treesR, e9, Bool.false_eq_true, false_or] at e
              rw [if_neg (by rw [hlc]; simp)] at e
              simp only [Prod.mk.injEq] at e
              exact ⟨e.1.symm, e.2.symm⟩
            have HX := hid (fun w1 (hr : RdJ wb b l false w1) => tree_r HL.out b (l, false) hll e9 w1 hr)
            subst hlc
            clear e9 HD hex
            have hq2 : ∀ p : Rld wr b, p.w'.cell? ⟨w.heap.size + 1, 5, none⟩ = some (.slice a q c) := fun p => (HM.out.by p.g (Ne.symm hne)).in.2.2.2.2.2.2
            obtain ⟨C, W⟩ := t
            go_wp2_with fail
            refine region_midS (T := Rld wr b) (fun p => p.w') 5 [0, 1, 2] [3, 4] #[true, true, true, true, true, false, false, false] (by kernel_rfl) (by kernel_rfl) (fun _ _ d _ _ h => by cases d <;> exact h) ⟨⟨wr.drew, grown_drew (World.grownBy.refl _ _)⟩, rfl⟩ ?_
            dsimp only [opersAt, List.getElem?_cons_zero, List.getElem?_cons_succ]
            repeat (go_big_quiet_step (first | exact rfl))
            refine wpQuiet_nil ?_
            intro K1 hK1
            go_simp
            go_at_call 32
            refine (HX.out _ (HR.out.grow (Jk.refl wr).drew)).mono ?_
            rintro e w1 ⟨ta, tn, tc, rfl, hR1, hg1, hI1, hF1, hA1⟩
            have HR1 := hid ((HR.out.grow (Jk.refl wr).drew).call hR1 hg1)
            have HG1 : Hid (wr.grownBy w1 (some b)) := (grown_drew (World.grownBy.refl wr _)).trans hg1
            have HI1 := hid hI1
            have HF1 := hid hF1
            have HA1 : Hid (∀ g o, ta = some ⟨g, o, none⟩ → wr.heap.size ≤ g ∧ g < w1.heap.size) := hA1
            clear hR1 hg1 hI1 hF1 hA1
            go_simp
            refine hK1 _ _ ⟨⟨w1, HG1.out⟩, rfl⟩ ?_
            clear hK1 K1
            intro K2 hK2
            go_simp
            refine hK2 _ _ ⟨⟨_, HG1.out.trans (((Jk.refl w1).alloc (.cells #[.int .i64 C, .slice ta tn tc] 44)).by b)⟩, rfl⟩ ?_
            clear hK2 K2
            obtain ⟨w3, hw3⟩ : ∃ w3, w1.alloc (.cells #[.int .i64 C, .slice ta tn tc] 44) = w3 := ⟨_, rfl⟩
            have HJ3 : Hid (Jk w1 w3) := hw3 ▸ (Jk.refl w1).alloc _
            have HG3 : Hid (wr.grownBy w3 (some b)) := HG1.out.trans (HJ3.out.by b)
            have HAt : Hid (AtT w3 w1.heap.size 0 [⟨C, ta, tn, tc, W⟩]) := hw3 ▸ new_tree w1 _ _ _ _ _ rfl
            have HR3 := hid (HR1.out.grow HJ3.out)
            have HP3 : Hid (PRow (w.heap.size + 1 + 1) w3 (.slice a q c) q ts) := HP.out.kept (by omega) HG3.out
            have HN3 := hid (HM.out.by HG3.out (Ne.symm hne))
            have HM3 := hid (HM0.out.by HG3.out (Ne.symm hne2))
            have hz3 : w.heap.size + 1 + 1 ≤ w3.heap.size := Nat.le_trans HZ.out HG3.out.size
            have HTk : Hid (Tr.ok w3 ⟨C, ta, tn, tc, W⟩) := ⟨HF1.out, HI1.out.jk HJ3.out⟩
            have HTa : Hid (∀ g o, ta = some ⟨g, o, none⟩ → w.heap.size + 1 + 1 ≤ g ∧ g < w3.heap.size ∧ (Value.slice a q c).ownBlock ≠ some g) := fun g o e => by
              obtain ⟨h1, h2⟩ := HA1.out g o e
              have hz := HZ.out
              refine ⟨by omega, Nat.lt_of_lt_of_le h2 HJ3.out.below.size, fun e2 => ?_⟩
              have := (World.ownsRow.lt HP.out.own.2 g e2).2
              omega
            simp only [hw3]
            clear hw3 HM HM0 HP c0 c1 n0 n1 n2 n3 n4 n5 hml hmf hb hq2
            refine list_appT (ys := [⟨C, ta, tn, tc, W⟩]) rfl (.tmp 46) (.tmp 49) rfl HP3.out.own hz3 rfl (some ⟨w1.heap.size, 0, none⟩) 1 1 rfl rfl (by decide) ⟨_, _, rfl, HAt.out⟩ (by omega) (q + 1) rfl ?_
            intro g6 c6 w6' hO6 hG6 hg6
            have HP6 : Hid (PRow (w.heap.size + 1 + 1) w6' (.slice (some ⟨g6, 0, none⟩) (q + 1) c6) (q + 1) (ts ++ [⟨C, ta, tn, tc, W⟩])) := HP3.out.app hO6 hG6 hg6 HTk.out HTa.out
            have hn6 : ∀ k, k < w.heap.size + 1 + 1 → some k ≠ (Value.slice a q c).ownBlock := fun k hk e => by have := HP3.out.own.base k e.symm; omega
            have HN6 : Hid (MdB w6' (w.heap.size + 1) ⟨D, K, wd Bs 0, wd Bs 1, wd Bs 2, a, q, c, ts⟩) := (hG6.block _ HN3.out.lt (hn6 _ (by omega))).trans HN3.out
            have HM6 : Hid (MdB w6' w.heap.size ⟨0, 0, 0, 0, 0, none, 0, 0, []⟩) := (hG6.block _ HM3.out.lt (hn6 _ (by omega))).trans HM3.out
            have HR6 : Hid (RdJ wb b s9.1 s9.2 w6') := ⟨HR3.out.j.grown hG6 (fun k hk => by have := HP3.out.own.base k hk; omega), HR3.out.base, (hG6.block b HR3.out.rd.lt (hn6 _ (by omega))).trans HR3.out.rd⟩
            have HG6 : Hid (w.grownBy w6' (some b)) := ⟨hG6.os.trans (HG.out.trans HG3.out).os, hG6.tape.trans (HG.out.trans HG3.out).tape, hG6.output.trans (HG.out.trans HG3.out).output, Nat.le_trans (HG.out.trans HG3.out).size hG6.size, fun k hk hkb => (hG6.block k (Nat.lt_of_lt_of_le hk (HG.out.trans HG3.out).size) (hn6 k (by omega))).trans ((HG.out.trans HG3.out).block k hk hkb)⟩
            have HZ6 : Hid (w.heap.size + 1 + 1 ≤ w6'.heap.size) := Nat.le_trans hz3 hG6.size
            have t1 := HN6.out.in.2.2.2.2.2.2
            have htl := HN6.out.lt
            have htf := HN6.out.frozen
            simp only at t1
            clear hO6 hG6 hn6 hg6
            go_wp2
            go_roundg k
            case measure => omega
            case rel =>
              refine ⟨q + 1, ts ++ [⟨C, ta, tn, tc, W⟩], (treesR k s9).1, s9.1, s9.2, some ⟨g6, 0, none⟩, c6, by omega, by simp only [List.length_cons] at hll l9; omega, hid (HR6.out.put hwb hne 5 _), hid (put_new HG6.out (Nat.le_succ _) 5 _), hid (HN6.out.setT _ _ _ _), hid (HM6.out.by (grown_set w6' _ 5 _) (by omega)), hid (HP6.out.kept (by omega) (grown_set w6' _ 5 _)), hid (by rw [HD2.out.2]), hid (by have := HA.out; rw [HD2.out.1] at this; rw [← this]; simp [Tr.pt]), hid (Nat.le_trans HZ6.out (grown_set w6' _ 5 _).size)⟩
      · obtain ⟨k, rfl⟩ : ∃ k, gk = k + 1 := ⟨gk - 1, by omega⟩
        have hlt : (j : Int) < (N : Int) := by omega
        obtain ⟨⟨x, s9⟩, e9⟩ : ∃ R, numR [32] (l, f) = R := ⟨_, rfl⟩
        have l9 := num_len e9
        simp only at l9
        have HD2 : Hid (rest = x :: (biasR k s9).1 ∧ s4 = (biasR k s9).2) := by
          have e := HD.out
          simp only [biasR, e9, Prod.mk.injEq] at e
          exact ⟨e.1.symm, e.2.symm⟩
        have HX := hid (number_r HL.out b [32] (l, f) hll e9)
        clear e9 HD
        have h012 : j = 0 ∨ j = 1 ∨ j = 2 := by omega
        rcases h012 with rfl | rfl | rfl
        · obtain rfl : ds = [] := List.eq_nil_of_length_eq_zero hdl
          go_wp2_with (go_at_call 31; refine (HX.out.on HR.out).mono ?_; rintro e w8 ⟨rfl, hR2, hg2⟩; have HR8 := hid (HR.out.call hR2 hg2); have HG8 := hid (HG.out.trans hg2); have HN8 := hid (HM.out.by hg2 (Ne.symm hne)); have HM8 := hid (HM0.out.by hg2 (Ne.symm hne2)); have HZ8 := hid (Nat.le_trans HZ.out hg2.size); clear hR2 hg2; have hml := HN8.out.lt; have hmf := HN8.out.frozen; have n0 := HN8.out.in.2.2.2.1)
          go_roundg k
          case measure => omega
          case rel => exact ⟨0 + 1, [] ++ [x], (biasR k s9).1, s9.1, s9.2, by go_num, by omega, rfl, by omega, hid (HR8.out.put hwb hne _ _), hid (put_new HG8.out (Nat.le_succ _) _ _), hid (by rw [show wd ([] ++ [x]) 0 = x by simp [wd], show wd ([] ++ [x]) 1 = 0 by simp [wd], show wd ([] ++ [x]) 2 = 0 by simp [wd]]; exact HN8.out.setB0 x), hid (HM8.out.by (grown_set w8 _ _ _) (by omega)), hid (by rw [HD2.out.2]), hid (by have := HA.out; rw [HD2.out.1] at this; rw [← this]; rfl), hid (Nat.le_trans HZ8.out (grown_set w8 _ _ _).size)⟩
        · obtain ⟨p, rfl⟩ := List.length_eq_one_iff.1 hdl
          go_wp2_with (go_at_call 31; refine (HX.out.on HR.out).mono ?_; rintro e w8 ⟨rfl, hR2, hg2⟩; have HR8 := hid (HR.out.call hR2 hg2); have HG8 := hid (HG.out.trans hg2); have HN8 := hid (HM.out.by hg2 (Ne.symm hne)); have HM8 := hid (HM0.out.by hg2 (Ne.symm hne2)); have HZ8 := hid (Nat.le_trans HZ.out hg2.size); clear hR2 hg2; have hml := HN8.out.lt; have hmf := HN8.out.frozen; have n1 := HN8.out.in.2.2.2.2.1)
          go_roundg k
          case measure => omega
          case rel => exact ⟨1 + 1, [p] ++ [x], (biasR k s9).1, s9.1, s9.2, by go_num, by omega, rfl, by omega, hid (HR8.out.put hwb hne _ _), hid (put_new HG8.out (Nat.le_succ _) _ _), hid (HN8.out.setB1 x), hid (HM8.out.by (grown_set w8 _ _ _) (by omega)), hid (by rw [HD2.out.2]), hid (by have := HA.out; rw [HD2.out.1] at this; rw [← this]; rfl), hid (Nat.le_trans HZ8.out (grown_set w8 _ _ _).size)⟩
        · obtain ⟨p, q, rfl⟩ : ∃ p q, ds = [p, q] := by
            match ds, hdl with
            | [p, q], _ => exact ⟨p, q, rfl⟩
          go_wp2_with (go_at_call 31; refine (HX.out.on HR.out).mono ?_; rintro e w8 ⟨rfl, hR2, hg2⟩; have HR8 := hid (HR.out.call hR2 hg2); have HG8 := hid (HG.out.trans hg2); have HN8 := hid (HM.out.by hg2 (Ne.symm hne)); have HM8 := hid (HM0.out.by hg2 (Ne.symm hne2)); have HZ8 := hid (Nat.le_trans HZ.out hg2.size); clear hR2 hg2; have hml := HN8.out.lt; have hmf := HN8.out.frozen; have n2 := HN8.out.in.2.2.2.2.2.1)
          go_roundg k
          case measure => omega
          case rel => exact ⟨2 + 1, [p, q] ++ [x], (biasR k s9).1, s9.1, s9.2, by go_num, by omega, rfl, by omega, hid (HR8.out.put hwb hne _ _), hid (put_new HG8.out (Nat.le_succ _) _ _), hid (HN8.out.setB2 x), hid (HM8.out.by (grown_set w8 _ _ _) (by omega)), hid (by rw [HD2.out.2]), hid (by have := HA.out; rw [HD2.out.1] at this; rw [← this]; rfl), hid (Nat.le_trans HZ8.out (grown_set w8 _ _ _).size)⟩

end Go.Proofs.YtfabodbcdnmpmaaGreatDoor
