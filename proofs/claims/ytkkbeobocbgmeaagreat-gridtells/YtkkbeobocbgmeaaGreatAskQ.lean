/- The queries that numbers make: what copsekeep's Ask.Query answers, number for number. -/
import Derived.Test.YtkkbeobocbgmeaaGreatQueryB
import Derived.Test.YtkkbeobocbgmeaaGreatHeld
namespace Go.Proofs.YtkkbeobocbgmeaaGreat
open Go.RowKit M

def askVals (h0 : Nat) (a : Ak) (m : Md) (K CL BU : Int) (X : Bx) : Nat → Value
  | 0 => .pointer (some ⟨h0, 0, none⟩)
  | 1 => .int .i64 a.kd
  | 2 => .int .i64 K
  | 3 => .pointer (some ⟨h0, 1, none⟩)
  | 4 => .int .i64 a.cl
  | 5 => .pointer (some ⟨h0 + 1, 1, none⟩)
  | 6 => .int .i64 m.k
  | 7 => .int .i64 (m.k - 1)
  | 8 => .int .i64 CL
  | 9 => modelV m
  | 10 => .pointer (some ⟨h0, 7, none⟩)
  | 11 => .slice a.sa a.sn a.sc
  | 12 => boxW X
  | 13 => .pointer (some ⟨h0, 5, none⟩)
  | 14 => .int .i64 a.bu
  | 15 => .int .i64 BU
  | 16 => queryV ⟨K, CL, X, 0, 0, 0, false, BU⟩
  | _ => undef
/-- what the region's operations yield -/
def AskG (B h0 : Nat) (a : Ak) (m : Md) (K CL BU : Int) (X : Bx) (k : Nat) (v : Value) (z : World) : Prop :=
  if k = 17 then ∃ h, v = .pointer (some ⟨h, 0, none⟩) ∧ B ≤ h ∧ QyB z h ⟨0, 0, Bx.nil, 0, 0, 0, false, 0⟩ else v = askVals h0 a m K CL BU X k
theorem AskG.mono {B h0 : Nat} {a : Ak} {m : Md} {K CL BU : Int} {X : Bx} (k : Nat) (v : Value) (z z' : World) (hj : Jk z z') (h : AskG B h0 a m K CL BU X k v z) : AskG B h0 a m K CL BU X k v z' := by
  unfold AskG at *
  split at h
  · next e => rw [if_pos e]; obtain ⟨g, e1, h1, h2⟩ := h; exact ⟨g, e1, h1, h2.jk hj⟩
  · next e => rw [if_neg e]; exact h

set_option maxRecDepth 100000 in
set_option maxHeartbeats 6400000 in
theorem ask_ans {a : Ak} {m : Md} {ww : World} (ha : a.ok ww) (h1 : 1 ≤ m.d) (h4 : m.d ≤ 4) (hk1 : 1 ≤ m.k) (hk3 : m.k ≤ 3) : AnsW ww 5 #[askV a, modelV m] (queryV (queryI a m.d m.k)) := fun w hjw => by
  have J := rules8
  have ha' := ha.jk hjw
  have HR0 := hid (region_ans h1 h4 ha'.sp)
  have hKb := within_bd a.kd 1 3 (by omega)
  have hCb := within_bd a.cl 0 (m.k - 1) (by omega)
  have hBb := within_bd a.bu 0 65536 (by omega)
  have hLb := within_bd a.lo (-9000) 9000 (by omega)
  have hSb := within_bd a.sz 0 18000 (by omega)
  have hFb := within_bd a.f 0 (m.d - 1) (by omega)
  have HK := hid (within_q (n := a.kd) (lo := 1) (hi := 3) rfl ha'.kd (by omega) (by omega) (by omega))
  have HC := hid (within_q (n := a.cl) (lo := 0) (hi := m.k - 1) rfl ha'.cl (by omega) (by omega) (by omega))
  have HB := hid (within_q (n := a.bu) (lo := 0) (hi := 65536) rfl ha'.bu (by omega) (by omega) (by omega))
  have HL := hid (within_q (n := a.lo) (lo := -9000) (hi := 9000) rfl ha'.lo (by omega) (by omega) (by omega))
  have HS := hid (within_q (n := a.sz) (lo := 0) (hi := 18000) rfl ha'.sz (by omega) (by omega) (by omega))
  have HF := hid (within_q (n := a.f) (lo := 0) (hi := m.d - 1) rfl ha'.f (by omega) (by omega) (by omega))
  have HQ : Hid (∀ q : Qy, q = queryI a m.d m.k ↔ q = ⟨if withinI a.kd 1 3 = 2 ∧ m.k < 2 then 1 else withinI a.kd 1 3, withinI a.cl 0 (m.k - 1), regionI m.d a.sz', if (if withinI a.kd 1 3 = 2 ∧ m.k < 2 then 1 else withinI a.kd 1 3) = 1 then withinI a.lo (-9000) 9000 else 0, if (if withinI a.kd 1 3 = 2 ∧ m.k < 2 then 1 else withinI a.kd 1 3) = 1 then withinI a.lo (-9000) 9000 + withinI a.sz 0 18000 else 0, if withinI a.kd 1 3 = 3 then withinI a.f 0 (m.d - 1) else 0, if withinI a.kd 1 3 = 3 then a.fa else false, withinI a.bu 0 65536⟩) := fun q => Iff.rfl
  obtain ⟨K, hK⟩ : ∃ z, withinI a.kd 1 3 = z := ⟨_, rfl⟩
  obtain ⟨CL, hCe⟩ : ∃ z, withinI a.cl 0 (m.k - 1) = z := ⟨_, rfl⟩
  obtain ⟨BU, hBe⟩ : ∃ z, withinI a.bu 0 65536 = z := ⟨_, rfl⟩
  obtain ⟨LO, hLe⟩ : ∃ z, withinI a.lo (-9000) 9000 = z := ⟨_, rfl⟩
  obtain ⟨SZ, hSe⟩ : ∃ z, withinI a.sz 0 18000 = z := ⟨_, rfl⟩
  obtain ⟨FT, hFe⟩ : ∃ z, withinI a.f 0 (m.d - 1) = z := ⟨_, rfl⟩
  obtain ⟨X, hX⟩ : ∃ z, regionI m.d a.sz' = z := ⟨_, rfl⟩
  rw [hK] at HK hKb
  rw [hCe] at HC hCb
  rw [hBe] at HB hBb
  rw [hLe] at HL hLb
  rw [hSe] at HS hSb
  rw [hFe] at HF hFb
  rw [hX] at HR0
  rw [hK, hCe, hBe, hLe, hSe, hFe, hX] at HQ
  obtain ⟨qf, hqf⟩ : ∃ z, queryI a m.d m.k = z := ⟨_, rfl⟩
  rw [hqf] at HQ
  rw [hqf]
  clear hK hCe hBe hLe hSe hFe hX hqf ha ha' hjw
  obtain ⟨kd, cl, lo, sz, f, bu, fa, sa, sn, sc, zs⟩ := a
  obtain ⟨d, k, b0, b1, b2, ma, mn, mc, ts⟩ := m
  simp only at *
  have hk1' : IntKind.i64.wrap (k - 1) = k - 1 := i64_in (by omega) (by omega)
  have hd1' : IntKind.i64.wrap (d - 1) = d - 1 := i64_in (by omega) (by omega)
  have hls' : IntKind.i64.wrap (LO + SZ) = LO + SZ := i64_in (by omega) (by omega)
  obtain ⟨w0, hw0⟩ : ∃ w0, ((w.alloc (.cells #[.int .i64 kd, .int .i64 cl, .int .i64 lo, .int .i64 sz, .int .i64 f, .int .i64 bu, .bool fa, .slice sa sn sc] 27)).alloc (.cells #[.int .i64 d, .int .i64 k, .int .i64 b0, .int .i64 b1, .int .i64 b2, .slice ma mn mc] 31)).alloc (.cells #[.int .i64 0, .int .i64 0, .int .i64 0, .int .i64 0, .int .i64 0, .int .i64 0, .int .i64 0, .int .i64 0, .int .i64 0, .int .i64 0, .int .i64 0, .int .i64 0, .int .i64 0, .int .i64 0, .int .i64 0, .bool false, .int .i64 0] 38) = w0 := ⟨_, rfl⟩
  have HJ0 : Hid (Jk w w0) := hw0 ▸ (((Jk.refl w).alloc _).alloc _).alloc _
  have HA : Hid (AkIn w0 w.heap.size ⟨kd, cl, lo, sz, f, bu, fa, sa, sn, sc, zs⟩) := by
    rw [← hw0]
    exact (AkIn.laid w ⟨kd, cl, lo, sz, f, bu, fa, sa, sn, sc, zs⟩ _).jk (((Jk.refl _).alloc _).alloc _)
  have HM : Hid (MdIn w0 (w.heap.size + 1) ⟨d, k, b0, b1, b2, ma, mn, mc, ts⟩) := by
    rw [← hw0]
    have := (MdIn.laid (w.alloc (.cells #[.int .i64 kd, .int .i64 cl, .int .i64 lo, .int .i64 sz, .int .i64 f, .int .i64 bu, .bool fa, .slice sa sn sc] 27)) ⟨d, k, b0, b1, b2, ma, mn, mc, ts⟩ 31).jk ((Jk.refl _).alloc (.cells #[.int .i64 0, .int .i64 0, .int .i64 0, .int .i64 0, .int .i64 0, .int .i64 0, .int .i64 0, .int .i64 0, .int .i64 0, .int .i64 0, .int .i64 0, .int .i64 0, .int .i64 0, .int .i64 0, .int .i64 0, .bool false, .int .i64 0] 38))
    rwa [World.size_alloc] at this
  have HZ : Hid (QyB w0 (w.heap.size + 1 + 1) ⟨0, 0, Bx.nil, 0, 0, 0, false, 0⟩) := by
    rw [← hw0]
    have := QyB.laid ((w.alloc (.cells #[.int .i64 kd, .int .i64 cl, .int .i64 lo, .int .i64 sz, .int .i64 f, .int .i64 bu, .bool fa, .slice sa sn sc] 27)).alloc (.cells #[.int .i64 d, .int .i64 k, .int .i64 b0, .int .i64 b1, .int .i64 b2, .slice ma mn mc] 31)) ⟨0, 0, Bx.nil, 0, 0, 0, false, 0⟩
    rwa [World.size_alloc, World.size_alloc] at this
  have HZs : Hid (w.heap.size ≤ w.heap.size + 1 + 1 ∧ w.heap.size + 1 + 1 < w0.heap.size) := ⟨by omega, HZ.out.lt⟩
  have HR := hid (HR0.out.up HJ0.out)
  clear HR0
  go_enter Tryz.func5, Tryz.ntmps5
  go_upto_region 1 with fail
  go_cut [5] (fun p wc => ∃ h, p = .pointer (some ⟨h, 0, none⟩) ∧ w0.heap.size ≤ h ∧ QyB wc h ⟨K, CL, X, 0, 0, 0, false, BU⟩ ∧ Jk w0 wc)
  case first =>
    refine region_good 18 (fun _ => undef) (fun x => ⟨#[.agg #[.int .i64 kd, .int .i64 cl, .int .i64 lo, .int .i64 sz, .int .i64 f, .int .i64 bu, .bool fa, .slice sa sn sc], .agg #[.int .i64 d, .int .i64 k, .int .i64 b0, .int .i64 b1, .int .i64 b2, .slice ma mn mc], .pointer (some ⟨w.heap.size, 0, none⟩), .pointer (some ⟨w.heap.size + 1, 0, none⟩), .pointer (some ⟨w.heap.size + 1 + 1, 0, none⟩), x 17, x 0, x 1, x 2, x 3, x 4, x 5, x 6, x 7, x 8, x 9, x 10, x 11, x 12, x 13, x 14, x 15, x 16, undef, undef, undef, undef, undef, undef, undef, undef, undef, undef, undef, undef, undef, undef, undef, undef, undef, undef, undef, undef, undef, undef, undef, undef, undef, undef, undef, undef, undef, undef, undef, undef, undef, undef, undef], []⟩) (Jk w0) Jk (AskG w0.heap.size w.heap.size ⟨kd, cl, lo, sz, f, bu, fa, sa, sn, sc, zs⟩ ⟨d, k, b0, b1, b2, ma, mn, mc, ts⟩ K CL BU X) (by kernel_rfl) (by kernel_rfl) (Jk.refl w0).drew AskG.mono ?_ ?_
    · intro i o hi ho x w' hC hd L hK
      obtain ⟨e0, e1, e2, e3, e4, e5, e6, e7, e8⟩ := HA.out.jk hC
      obtain ⟨m0, m1, m2, m3, m4, m5, m6⟩ := HM.out.jk hC
      simp only at e1 e2 e3 e4 e5 e6 e7 e8 m1 m2 m3 m4 m5 m6
      match i, hi with
      | 0, _ => -- Op.fieldAddr 44 t2 0
        simp at ho
        subst ho
        go_simp
        exact hK _ _ hC (Jk.refl _) rfl
      | 1, _ => -- Op.load 3 t6
        simp at ho
        subst ho
        obtain ⟨x, rfl⟩ := upd_know (show x 0 = askVals w.heap.size ⟨kd, cl, lo, sz, f, bu, fa, sa, sn, sc, zs⟩ ⟨d, k, b0, b1, b2, ma, mn, mc, ts⟩ K CL BU X 0 from hd 0 (by kernel_rfl))
        simp only [upd, askVals, reduceIte, Nat.reduceEqDiff]
        go_simp
        exact hK _ _ hC (Jk.refl _) rfl
      | 2, _ => -- Op.call { value (Operand.func 17), args := #[t7, const (1:i64), const (3:i64)], argTypes :
        simp at ho
        subst ho
        obtain ⟨x, rfl⟩ := upd_know (show x 1 = askVals w.heap.size ⟨kd, cl, lo, sz, f, bu, fa, sa, sn, sc, zs⟩ ⟨d, k, b0, b1, b2, ma, mn, mc, ts⟩ K CL BU X 1 from hd 1 (by kernel_rfl))
        simp only [upd, askVals, reduceIte, Nat.reduceEqDiff]
        go_simp
        go_at_call 7
        refine (HK.out.on _).mono ?_
        rintro e w1 ⟨rfl, rfl⟩
        go_simp
        exact hK _ _ hC (Jk.refl _) rfl
      | 3, _ => -- Op.fieldAddr 44 t2 1
        simp at ho
        subst ho
        go_simp
        exact hK _ _ hC (Jk.refl _) rfl
      | 4, _ => -- Op.load 3 t9
        simp at ho
        subst ho
        obtain ⟨x, rfl⟩ := upd_know (show x 3 = askVals w.heap.size ⟨kd, cl, lo, sz, f, bu, fa, sa, sn, sc, zs⟩ ⟨d, k, b0, b1, b2, ma, mn, mc, ts⟩ K CL BU X 3 from hd 3 (by kernel_rfl))
        simp only [upd, askVals, reduceIte, Nat.reduceEqDiff]
        go_simp
        exact hK _ _ hC (Jk.refl _) rfl
      | 5, _ => -- Op.fieldAddr 25 t3 1
        simp at ho
        subst ho
        go_simp
        exact hK _ _ hC (Jk.refl _) rfl
      | 6, _ => -- Op.load 3 t11
        simp at ho
        subst ho
        obtain ⟨x, rfl⟩ := upd_know (show x 5 = askVals w.heap.size ⟨kd, cl, lo, sz, f, bu, fa, sa, sn, sc, zs⟩ ⟨d, k, b0, b1, b2, ma, mn, mc, ts⟩ K CL BU X 5 from hd 5 (by kernel_rfl))
        simp only [upd, askVals, reduceIte, Nat.reduceEqDiff]
        go_simp
        exact hK _ _ hC (Jk.refl _) rfl
      | 7, _ => -- Op.binOp BinOp.sub 3 t12 (const (1:i64)) 3
        simp at ho
        subst ho
        obtain ⟨x, rfl⟩ := upd_know (show x 6 = askVals w.heap.size ⟨kd, cl, lo, sz, f, bu, fa, sa, sn, sc, zs⟩ ⟨d, k, b0, b1, b2, ma, mn, mc, ts⟩ K CL BU X 6 from hd 6 (by kernel_rfl))
        simp only [upd, askVals, reduceIte, Nat.reduceEqDiff]
        go_simp
        exact hK _ _ hC (Jk.refl _) rfl
      | 8, _ => -- Op.call { value (Operand.func 17), args := #[t10, const (0:i64), t13], argTypes := #[3, 3,
        simp at ho
        subst ho
        obtain ⟨x, rfl⟩ := upd_know2 (show x 4 = askVals w.heap.size ⟨kd, cl, lo, sz, f, bu, fa, sa, sn, sc, zs⟩ ⟨d, k, b0, b1, b2, ma, mn, mc, ts⟩ K CL BU X 4 from hd 4 (by kernel_rfl)) (show x 7 = askVals w.heap.size ⟨kd, cl, lo, sz, f, bu, fa, sa, sn, sc, zs⟩ ⟨d, k, b0, b1, b2, ma, mn, mc, ts⟩ K CL BU X 7 from hd 7 (by kernel_rfl))
        simp only [upd, askVals, reduceIte, Nat.reduceEqDiff]
        go_simp
        go_at_call 7
        refine (HC.out.on _).mono ?_
        rintro e w1 ⟨rfl, rfl⟩
        go_simp
        exact hK _ _ hC (Jk.refl _) rfl
      | 9, _ => -- Op.load 25 t3
        simp at ho
        subst ho
        go_simp
        exact hK _ _ hC (Jk.refl _) rfl
      | 10, _ => -- Op.fieldAddr 44 t2 7
        simp at ho
        subst ho
        go_simp
        exact hK _ _ hC (Jk.refl _) rfl
      | 11, _ => -- Op.load 39 t16
        simp at ho
        subst ho
        obtain ⟨x, rfl⟩ := upd_know (show x 10 = askVals w.heap.size ⟨kd, cl, lo, sz, f, bu, fa, sa, sn, sc, zs⟩ ⟨d, k, b0, b1, b2, ma, mn, mc, ts⟩ K CL BU X 10 from hd 10 (by kernel_rfl))
        simp only [upd, askVals, reduceIte, Nat.reduceEqDiff]
        go_simp
        exact hK _ _ hC (Jk.refl _) rfl
      | 12, _ => -- Op.call { value (Operand.func 33), args := #[t15, t17], argTypes := #[25, 39] }
        simp at ho
        subst ho
        obtain ⟨x, rfl⟩ := upd_know2 (show x 9 = askVals w.heap.size ⟨kd, cl, lo, sz, f, bu, fa, sa, sn, sc, zs⟩ ⟨d, k, b0, b1, b2, ma, mn, mc, ts⟩ K CL BU X 9 from hd 9 (by kernel_rfl)) (show x 11 = askVals w.heap.size ⟨kd, cl, lo, sz, f, bu, fa, sa, sn, sc, zs⟩ ⟨d, k, b0, b1, b2, ma, mn, mc, ts⟩ K CL BU X 11 from hd 11 (by kernel_rfl))
        simp only [upd, askVals, reduceIte, Nat.reduceEqDiff]
        go_simp
        go_at_call 20
        refine (HR.out _ hC).mono ?_
        rintro e w1 ⟨rfl, hj1⟩
        have HJ1 := hid hj1
        clear hj1
        go_simp
        exact hK _ _ (hC.trans HJ1.out) HJ1.out rfl
      | 13, _ => -- Op.fieldAddr 44 t2 5
        simp at ho
        subst ho
        go_simp
        exact hK _ _ hC (Jk.refl _) rfl
      | 14, _ => -- Op.load 3 t19
        simp at ho
        subst ho
        obtain ⟨x, rfl⟩ := upd_know (show x 13 = askVals w.heap.size ⟨kd, cl, lo, sz, f, bu, fa, sa, sn, sc, zs⟩ ⟨d, k, b0, b1, b2, ma, mn, mc, ts⟩ K CL BU X 13 from hd 13 (by kernel_rfl))
        simp only [upd, askVals, reduceIte, Nat.reduceEqDiff]
        go_simp
        exact hK _ _ hC (Jk.refl _) rfl
      | 15, _ => -- Op.call { value (Operand.func 17), args := #[t20, const (0:i64), const (65536:i64)], argTy
        simp at ho
        subst ho
        obtain ⟨x, rfl⟩ := upd_know (show x 14 = askVals w.heap.size ⟨kd, cl, lo, sz, f, bu, fa, sa, sn, sc, zs⟩ ⟨d, k, b0, b1, b2, ma, mn, mc, ts⟩ K CL BU X 14 from hd 14 (by kernel_rfl))
        simp only [upd, askVals, reduceIte, Nat.reduceEqDiff]
        go_simp
        go_at_call 7
        refine (HB.out.on _).mono ?_
        rintro e w1 ⟨rfl, rfl⟩
        go_simp
        exact hK _ _ hC (Jk.refl _) rfl
      | 16, _ => -- Op.build 32 #[(0, t8), (1, t14), (2, t18), (7, t21)]
        simp at ho
        subst ho
        obtain ⟨x, rfl⟩ := upd_know4 (show x 2 = askVals w.heap.size ⟨kd, cl, lo, sz, f, bu, fa, sa, sn, sc, zs⟩ ⟨d, k, b0, b1, b2, ma, mn, mc, ts⟩ K CL BU X 2 from hd 2 (by kernel_rfl)) (show x 8 = askVals w.heap.size ⟨kd, cl, lo, sz, f, bu, fa, sa, sn, sc, zs⟩ ⟨d, k, b0, b1, b2, ma, mn, mc, ts⟩ K CL BU X 8 from hd 8 (by kernel_rfl)) (show x 12 = askVals w.heap.size ⟨kd, cl, lo, sz, f, bu, fa, sa, sn, sc, zs⟩ ⟨d, k, b0, b1, b2, ma, mn, mc, ts⟩ K CL BU X 12 from hd 12 (by kernel_rfl)) (show x 15 = askVals w.heap.size ⟨kd, cl, lo, sz, f, bu, fa, sa, sn, sc, zs⟩ ⟨d, k, b0, b1, b2, ma, mn, mc, ts⟩ K CL BU X 15 from hd 15 (by kernel_rfl))
        simp only [upd, askVals, reduceIte, Nat.reduceEqDiff]
        go_simp
        exact hK _ _ hC (Jk.refl _) rfl
      | 17, _ => -- Op.alloc 32
        simp at ho
        subst ho
        go_simp
        exact hK _ _ (hC.alloc _) ((Jk.refl _).alloc _) ⟨_, rfl, hC.below.size, QyB.laid _ ⟨0, 0, Bx.nil, 0, 0, 0, false, 0⟩⟩
      | n + 18, h => exact absurd h (by omega)
    · intro x w' hC hG
      obtain ⟨h, hv, hh, hq⟩ : ∃ h, x 17 = .pointer (some ⟨h, 0, none⟩) ∧ w0.heap.size ≤ h ∧ QyB w' h ⟨0, 0, Bx.nil, 0, 0, 0, false, 0⟩ := hG 17 (by decide)
      obtain ⟨x, rfl⟩ := upd_know2 hv (show x 16 = queryV ⟨K, CL, X, 0, 0, 0, false, BU⟩ from hG 16 (by decide))
      simp only [upd, reduceIte, Nat.reduceEqDiff]
      refine list_storeQ rfl _ _ rfl hq rfl ⟨K, CL, X, 0, 0, 0, false, BU⟩ rfl fun w2 hq2 hg2 => ?_
      go_wp2
      go_meet
      case rel => exact ⟨h, rfl, hh, hq2, hC.grown hg2 (fun k hk => by cases hk; exact hh)⟩
  case rest =>
    obtain ⟨h, rfl, hh, hq, hj⟩ := hcut
    obtain ⟨w1, rfl⟩ : ∃ z, z = wc := ⟨_, rfl⟩
    obtain ⟨e0, e1, e2, e3, e4, e5, e6, e7, e8⟩ := HA.out.jk hj
    obtain ⟨m0, m1, m2, m3, m4, m5, m6⟩ := HM.out.jk hj
    obtain ⟨q0, q1, q2, q3, q4, q5, q6, q7, q8, q9, q10, q11, q12, q13, q14, q15, q16⟩ := hq.in
    have hqf := hq.frozen
    have hql := hq.lt
    have hn1 : h ≠ w.heap.size := by have := HZs.out; omega
    have hn2 : h ≠ w.heap.size + 1 := by have := HZs.out; omega
    have hn3 : w.heap.size ≠ h := Ne.symm hn1
    have hn4 : w.heap.size + 1 ≠ h := Ne.symm hn2
    simp only at e1 e2 e3 e4 e5 e6 e7 e8 m1 m2 m3 m4 m5 m6 q0 q1 q2 q3 q4 q5 q6 q7 q8 q9 q10 q11 q12 q13 q14 q15 q16
    have HJ1 := hid hj
    have HQB := hid hq
    clear hj hq
    have hKc : K = 1 ∨ K = 2 ∨ K = 3 := by omega
    rcases hKc with rfl | rfl | rfl
    · go_upto_region 10 with (first | (go_at_call 7; refine (AnsP.on (by with_reducible first | exact HL.out | exact HS.out | exact HF.out) _).mono ?_; rintro e w9 ⟨rfl, hw⟩; obtain rfl := hw.symm))
      have HQ2 := hid (HQB.out.setLo LO)
      have HJ2 := hid (HJ1.out.set (p := ⟨h, 12, none⟩) hh (.int .i64 LO))
      generalize hwE : w1.setCell ⟨h, 12, none⟩ (.int .i64 LO) = wE at HQ2 HJ2 ⊢
      clear hwE HQB q0 q1 q2 q3 q4 q5 q6 q7 q8 q9 q10 q11 q12 q13 q14 q15 q16 hqf hql e0 e1 e2 e3 e4 e5 e6 e7 e8 m0 m1 m2 m3 m4 m5 m6
      obtain ⟨q0, q1, q2, q3, q4, q5, q6, q7, q8, q9, q10, q11, q12, q13, q14, q15, q16⟩ := HQ2.out.in
      obtain ⟨e0, e1, e2, e3, e4, e5, e6, e7, e8⟩ := HA.out.jk HJ2.out
      have hqf := HQ2.out.frozen
      have hql := HQ2.out.lt
      simp only at e1 e2 e3 e4 e5 e6 e7 e8 q0 q1 q2 q3 q4 q5 q6 q7 q8 q9 q10 q11 q12 q13 q14 q15 q16
      have hx12 : (wE.setCell ⟨h, 13, none⟩ (.int .i64 (LO + SZ))).drew.cell? ⟨h, 12, none⟩ = some (.int .i64 LO) := ((HQ2.out.setHi (LO + SZ)).drew).in.2.2.2.2.2.2.2.2.2.2.2.2.1
      go_region_held3 (fun z => z.cell? ⟨h, 12, none⟩ = some (.int .i64 LO) ∧ z.cell? ⟨w.heap.size, 3, none⟩ = some (.int .i64 sz)) (go_keep) (first | (go_at_call 7; refine (AnsP.on (by with_reducible first | exact HL.out | exact HS.out | exact HF.out) _).mono ?_; rintro e w9 ⟨rfl, hw⟩; obtain rfl := hw.symm))
      have HQ3 := hid ((HQ2.out.setHi (LO + SZ)).drew)
      have HJ3 := hid ((HJ2.out.set (p := ⟨h, 13, none⟩) hh (.int .i64 (LO + SZ))).drew)
      clear HQ2 HJ2
      have HQ2 := HQ3
      have HJ2 := HJ3
      clear HQ3 HJ3
      generalize hwF : (wE.setCell ⟨h, 13, none⟩ (.int .i64 (LO + SZ))).drew = wF at HQ2 HJ2 ⊢
      clear hwF hx12 q0 q1 q2 q3 q4 q5 q6 q7 q8 q9 q10 q11 q12 q13 q14 q15 q16 hqf hql e0 e1 e2 e3 e4 e5 e6 e7 e8
      go_upto_region 11 with fail
      refine wp_region_lit ?_
      refine list_loadQ rfl _ rfl HQ2.out rfl ?_
      refine list_storeQ rfl _ _ rfl (HZ.out.jk HJ2.out) rfl ⟨1, CL, X, LO, LO + SZ, 0, false, BU⟩ rfl fun w9 hq9 hg9 => ?_
      have HJ9 := hid ((HJ0.out.trans HJ2.out).grown hg9 (fun k hk => by cases hk; exact HZs.out.1))
      have HQ9 : Hid (⟨1, CL, X, LO, LO + SZ, 0, false, BU⟩ = qf) := (HQ.out _).2 (by simp)
            
      go_wp2
      exact bodyPost_ret (results_cell Tryz.results5 rfl (load_Q hq9)) rfl ⟨by rw [HQ9.out], HJ9.out⟩
    · by_cases hk2 : k < 2
      · go_upto_region 10 with (first | (go_at_call 7; refine (AnsP.on (by with_reducible first | exact HL.out | exact HS.out | exact HF.out) _).mono ?_; rintro e w9 ⟨rfl, hw⟩; obtain rfl := hw.symm))
        have HQ2 := hid ((HQB.out.setKd 1).setLo LO)
        have HJ2 := hid ((HJ1.out.set (p := ⟨h, 0, none⟩) hh (.int .i64 1)).set (p := ⟨h, 12, none⟩) hh (.int .i64 LO))
        generalize hwE : (w1.setCell ⟨h, 0, none⟩ (.int .i64 1)).setCell ⟨h, 12, none⟩ (.int .i64 LO) = wE at HQ2 HJ2 ⊢
        clear hwE HQB q0 q1 q2 q3 q4 q5 q6 q7 q8 q9 q10 q11 q12 q13 q14 q15 q16 hqf hql e0 e1 e2 e3 e4 e5 e6 e7 e8 m0 m1 m2 m3 m4 m5 m6
        obtain ⟨q0, q1, q2, q3, q4, q5, q6, q7, q8, q9, q10, q11, q12, q13, q14, q15, q16⟩ := HQ2.out.in
        obtain ⟨e0, e1, e2, e3, e4, e5, e6, e7, e8⟩ := HA.out.jk HJ2.out
        have hqf := HQ2.out.frozen
        have hql := HQ2.out.lt
        simp only at e1 e2 e3 e4 e5 e6 e7 e8 q0 q1 q2 q3 q4 q5 q6 q7 q8 q9 q10 q11 q12 q13 q14 q15 q16
        have hx12 : (wE.setCell ⟨h, 13, none⟩ (.int .i64 (LO + SZ))).drew.cell? ⟨h, 12, none⟩ = some (.int .i64 LO) := ((HQ2.out.setHi (LO + SZ)).drew).in.2.2.2.2.2.2.2.2.2.2.2.2.1
        go_region_held3 (fun z => z.cell? ⟨h, 12, none⟩ = some (.int .i64 LO) ∧ z.cell? ⟨w.heap.size, 3, none⟩ = some (.int .i64 sz)) (go_keep) (first | (go_at_call 7; refine (AnsP.on (by with_reducible first | exact HL.out | exact HS.out | exact HF.out) _).mono ?_; rintro e w9 ⟨rfl, hw⟩; obtain rfl := hw.symm))
        have HQ3 := hid ((HQ2.out.setHi (LO + SZ)).drew)
        have HJ3 := hid ((HJ2.out.set (p := ⟨h, 13, none⟩) hh (.int .i64 (LO + SZ))).drew)
        clear HQ2 HJ2
        have HQ2 := HQ3
        have HJ2 := HJ3
        clear HQ3 HJ3
        generalize hwF : (wE.setCell ⟨h, 13, none⟩ (.int .i64 (LO + SZ))).drew = wF at HQ2 HJ2 ⊢
        clear hwF hx12 q0 q1 q2 q3 q4 q5 q6 q7 q8 q9 q10 q11 q12 q13 q14 q15 q16 hqf hql e0 e1 e2 e3 e4 e5 e6 e7 e8
        go_upto_region 11 with fail
        refine wp_region_lit ?_
        refine list_loadQ rfl _ rfl HQ2.out rfl ?_
        refine list_storeQ rfl _ _ rfl (HZ.out.jk HJ2.out) rfl ⟨1, CL, X, LO, LO + SZ, 0, false, BU⟩ rfl fun w9 hq9 hg9 => ?_
        have HJ9 := hid ((HJ0.out.trans HJ2.out).grown hg9 (fun k hk => by cases hk; exact HZs.out.1))
        have HQ9 : Hid (⟨1, CL, X, LO, LO + SZ, 0, false, BU⟩ = qf) := (HQ.out _).2 (by simp [hk2])
                
        go_wp2
        exact bodyPost_ret (results_cell Tryz.results5 rfl (load_Q hq9)) rfl ⟨by rw [HQ9.out], HJ9.out⟩
      · have HQ2 := HQB
        have HJ2 := HJ1
        go_upto_region 11 with fail
        refine wp_region_lit ?_
        refine list_loadQ rfl _ rfl HQ2.out rfl ?_
        refine list_storeQ rfl _ _ rfl (HZ.out.jk HJ2.out) rfl ⟨2, CL, X, 0, 0, 0, false, BU⟩ rfl fun w9 hq9 hg9 => ?_
        have HJ9 := hid ((HJ0.out.trans HJ2.out).grown hg9 (fun k hk => by cases hk; exact HZs.out.1))
        have HQ9 : Hid (⟨2, CL, X, 0, 0, 0, false, BU⟩ = qf) := (HQ.out _).2 (by simp [hk2])
                
        go_wp2
        exact bodyPost_ret (results_cell Tryz.results5 rfl (load_Q hq9)) rfl ⟨by rw [HQ9.out], HJ9.out⟩
    · go_upto_region 7 with fail
      go_region_held3 (fun z => z.cell? ⟨w.heap.size, 4, none⟩ = some (.int .i64 f) ∧ z.cell? ⟨w.heap.size, 6, none⟩ = some (.bool fa) ∧ z.cell? ⟨w.heap.size + 1, 0, none⟩ = some (.int .i64 d)) (go_keep) (first | (go_at_call 7; refine (AnsP.on (by with_reducible first | exact HL.out | exact HS.out | exact HF.out) _).mono ?_; rintro e w9 ⟨rfl, hw⟩; obtain rfl := hw.symm))
      have HQ2 := hid (((HQB.out.setF FT).setFa fa).drew)
      have HJ2 := hid (((HJ1.out.set (p := ⟨h, 14, none⟩) hh (.int .i64 FT)).set (p := ⟨h, 15, none⟩) hh (.bool fa)).drew)
      generalize hwE : ((w1.setCell ⟨h, 14, none⟩ (.int .i64 FT)).setCell ⟨h, 15, none⟩ (.bool fa)).drew = wE at HQ2 HJ2 ⊢
      clear hwE HQB q0 q1 q2 q3 q4 q5 q6 q7 q8 q9 q10 q11 q12 q13 q14 q15 q16 hqf hql e0 e1 e2 e3 e4 e5 e6 e7 e8 m0 m1 m2 m3 m4 m5 m6
      obtain ⟨q0, q1, q2, q3, q4, q5, q6, q7, q8, q9, q10, q11, q12, q13, q14, q15, q16⟩ := HQ2.out.in
      obtain ⟨e0, e1, e2, e3, e4, e5, e6, e7, e8⟩ := HA.out.jk HJ2.out
      have hqf := HQ2.out.frozen
      have hql := HQ2.out.lt
      simp only at e1 e2 e3 e4 e5 e6 e7 e8 q0 q1 q2 q3 q4 q5 q6 q7 q8 q9 q10 q11 q12 q13 q14 q15 q16
      go_upto_region 11 with fail
      refine wp_region_lit ?_
      refine list_loadQ rfl _ rfl HQ2.out rfl ?_
      refine list_storeQ rfl _ _ rfl (HZ.out.jk HJ2.out) rfl ⟨3, CL, X, 0, 0, FT, fa, BU⟩ rfl fun w9 hq9 hg9 => ?_
      have HJ9 := hid ((HJ0.out.trans HJ2.out).grown hg9 (fun k hk => by cases hk; exact HZs.out.1))
      have HQ9 : Hid (⟨3, CL, X, 0, 0, FT, fa, BU⟩ = qf) := (HQ.out _).2 (by simp)
            
      go_wp2
      exact bodyPost_ret (results_cell Tryz.results5 rfl (load_Q hq9)) rfl ⟨by rw [HQ9.out], HJ9.out⟩

end Go.Proofs.YtkkbeobocbgmeaaGreat
