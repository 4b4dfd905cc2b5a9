/- The law TextTells of chapter 9 answers true: its walk through the Go text, by the contracts of package text and of the document's own answer. Conditions: what the statement itself says of the library's variables ('Env'). -/
import Derived.Test.YtfabodbcdnmpmaaGreatDoorLawTextRuns
import Derived.Test.YtfabodbcdnmpmaaGreatDoorForestA
import Derived.Test.YtfabodbcdnmpmaaGreatDoorRowsF
import Derived.Test.YtfabodbcdnmpmaaGreatDoorModelE
import Derived.Test.YtfabodbcdnmpmaaGreatDoorSameM
import Derived.Test.YtfabodbcdnmpmaaGreatDoorRefParse
import Derived.Deep.RegionHeld3
namespace Go.Proofs.YtfabodbcdnmpmaaGreatDoor
open Go.RowKit M

/-- a forest that was laid in a block of its own -/
def FoZ (w : World) (h : Nat) (f : Fo) : Prop := h < w.heap.size ∧ w.cell? ⟨h, 0, none⟩ = some (.int .i64 f.d) ∧ w.cell? ⟨h, 1, none⟩ = some (.int .i64 f.k) ∧ w.cell? ⟨h, 2, none⟩ = some (.slice f.ba f.bn f.bc) ∧ w.cell? ⟨h, 3, none⟩ = some (.slice f.sa f.sn f.sc)
theorem FoZ.jk {w w' : World} {h : Nat} {f : Fo} (H : FoZ w h f) (hj : Jk w w') : FoZ w' h f := by
  obtain ⟨h0, h1, h2, h3, h4⟩ := H
  have e := fun i => hj.below.cell (p := ⟨h, i, none⟩) h0
  exact ⟨Nat.lt_of_lt_of_le h0 hj.below.size, (e 0).trans h1, (e 1).trans h2, (e 2).trans h3, (e 3).trans h4⟩
theorem FoZ.laid (w : World) (f : Fo) (t : TypeId) : FoZ (w.alloc (.cells #[.int .i64 f.d, .int .i64 f.k, .slice f.ba f.bn f.bc, .slice f.sa f.sn f.sc] t)) w.heap.size f :=
  ⟨by simp, World.cell?_alloc_at _ _ _ _ rfl, World.cell?_alloc_at _ _ _ _ rfl, World.cell?_alloc_at _ _ _ _ rfl, World.cell?_alloc_at _ _ _ _ rfl⟩
/-- a whole model is laid over another one -/
def putZ (w : World) (h : Nat) (m : Md) : World := (((((w.setCell ⟨h, 0, none⟩ (.int .i64 m.d)).setCell ⟨h, 1, none⟩ (.int .i64 m.k)).setCell ⟨h, 2, none⟩ (.int .i64 m.b0)).setCell ⟨h, 3, none⟩ (.int .i64 m.b1)).setCell ⟨h, 4, none⟩ (.int .i64 m.b2)).setCell ⟨h, 5, none⟩ (.slice m.a m.n m.c)
theorem putZ_is {w : World} {h : Nat} {m0 : Md} (H : MdB w h m0) (m : Md) : MdB (putZ w h m) h m := (((((H.setD m.d).setK m.k).setB0 m.b0).setB1 m.b1).setB2 m.b2).setT m.a m.n m.c m.ts
theorem putZ_frow {B : Nat} {w : World} {v : Value} {n : Nat} {ts : List Tr} (H : FRow B w v n ts) {h : Nat} (hb : h < B) (m : Md) : FRow B (putZ w h m) v n ts := (((((H.set hb 0 _).set hb 1 _).set hb 2 _).set hb 3 _).set hb 4 _).set hb 5 _
theorem putZ_jk {a w : World} (H : Jk a w) {h : Nat} (hb : a.heap.size ≤ h) (m : Md) : Jk a (putZ w h m) := (((((H.set hb _).set hb _).set hb _).set hb _).set hb _).set hb _
theorem text_ext (l : Txt) (i j : Nat) : (⟨l.toArray⟩ : ByteArray).extract i j = ⟨((l.drop i).take (j - i)).toArray⟩ := by
  rw [Lib.extract_eq]

set_option maxRecDepth 100000 in
set_option maxHeartbeats 6400000 in
theorem textTells_walk0 (m : Md) (f : Fo) (T : Txt) (own : Bool) (w : World) (hL : LibP w) (hT : T.length ≤ 9223372036854775807) (hm : m.ok w) (hf : f.ok w) : Calls Tryz.prog 3 #[modelV m, forestV f, .string ⟨T.toArray⟩, .bool own] w fun e w' => e = .returned (.bool true) ∧ Jk w w' := by
  have J := rules8
  obtain ⟨w5, hw5⟩ : ∃ w5, w.alloc (.cells #[.int .i64 m.d, .int .i64 m.k, .int .i64 m.b0, .int .i64 m.b1, .int .i64 m.b2, .slice m.a m.n m.c] 25) = w5 := ⟨_, rfl⟩
  have hsz5 : w5.heap.size = w.heap.size + 1 := by rw [← hw5]; simp
  have hM5 : MdB w5 w.heap.size m := hw5 ▸ MdB.laid w m
  have hJ5 : Jk w w5 := hw5 ▸ (Jk.refl w).alloc _
  obtain ⟨w0, hw0⟩ : ∃ w0, w5.alloc (.cells #[.int .i64 f.d, .int .i64 f.k, .slice f.ba f.bn f.bc, .slice f.sa f.sn f.sc] 29) = w0 := ⟨_, rfl⟩
  have HFo : Hid (FoZ w0 (w.heap.size + 1) f) := hsz5 ▸ hw0 ▸ FoZ.laid w5 f _
  have hJF : Jk w5 w0 := hw0 ▸ (Jk.refl w5).alloc _
  have HJ0 : Hid (Jk w w0) := hJ5.trans hJF
  have HM0 : Hid (MdB w0 w.heap.size m) := hM5.jk hJF
  have HMk : Hid (m.ok w) := hm
  have HL := hid hL
  have HMod : Hid (∀ w', Jk w w' → Calls Tryz.prog 4 #[forestV f] w' fun e w'' => GotM w' e w'') := fun w' hj => model_any f w' (hf.jk hj)
  obtain ⟨fi0, fi1, fi2, fi3, fi4⟩ := HFo.out
  obtain ⟨mi0, mi1, mi2, mi3, mi4, mi5, mi6⟩ := HM0.out.in
  have mz := HM0.out.frozen
  clear hf hm hJF hJ5 hM5 hL
  obtain ⟨d, k, ba, bn, bc, bz, sa, sn, sc, ss⟩ := f
  obtain ⟨D, k', b0, b1, b2, a, n, c, ts⟩ := m
  simp only [forestV, modelV] at *
  have hcap := HMk.out.is.cap
  have hmax := HMk.out.is.max
  simp only at hcap hmax
  unfold maxLen at hmax
  have HTn : Hid (T.length ≤ 9223372036854775807) := hT
  go_enter Tryz.func3, Tryz.ntmps3
  go_upto_region 1 with fail
  go_cut [18] (fun _ wc => ∃ n' ts', MdB wc w.heap.size ⟨D, k', b0, b1, b2, a, n', c, ts'⟩ ∧ IsT w a n' c ts' ∧ Jk w wc ∧ FoZ wc (w.heap.size + 1) ⟨d, k, ba, bn, bc, bz, sa, sn, sc, ss⟩)
  case first =>
    by_cases h4 : (4 : Int) < (n : Int)
    · obtain ⟨g, o, rfl, hg, hat⟩ := HMk.out.is.lies (by simp only; omega)
      have hc4 : (4 : Int) ≤ (c : Int) := by omega
      have hmin : min (n : Int) 4 = 4 := by omega
      go_wp2
      go_meet
      case rel =>
        refine ⟨4, ts.take 4, HM0.out.setT _ _ _ _, HMk.out.is.take 4 (by simp only; omega), HJ0.out.set (Nat.le_refl _) _, ?_⟩
        obtain ⟨f0, f1, f2, f3, f4⟩ := HFo.out
        have e := fun i => World.cell?_setCell_far w0 ⟨w.heap.size, 5, none⟩ ⟨w.heap.size + 1, i, none⟩ (.slice (some ⟨g, o, none⟩) 4 c) (by simp)
        exact ⟨Nat.lt_of_lt_of_le f0 (grown_set w0 _ _ _).size, (e 0).trans f1, (e 1).trans f2, (e 2).trans f3, (e 3).trans f4⟩
    · have hmin : min (n : Int) 4 = (n : Int) := by omega
      have hnn : (0 : Int) ≤ (n : Int) := by omega
      have hnc : (n : Int) ≤ (c : Int) := by omega
      go_wp2
      go_meet
      case rel =>
        refine ⟨n, ts, HM0.out.setT _ _ _ _, HMk.out.is, HJ0.out.set (Nat.le_refl _) _, ?_⟩
        obtain ⟨f0, f1, f2, f3, f4⟩ := HFo.out
        have e := fun i => World.cell?_setCell_far w0 ⟨w.heap.size, 5, none⟩ ⟨w.heap.size + 1, i, none⟩ (.slice a n c) (by simp)
        exact ⟨Nat.lt_of_lt_of_le f0 (grown_set w0 _ _ _).size, (e 0).trans f1, (e 1).trans f2, (e 2).trans f3, (e 3).trans f4⟩
  case rest =>
    obtain ⟨n', ts', hM1, hI1, hJ1, hF1⟩ := hcut
    obtain ⟨w1, rfl⟩ : ∃ z, z = wc := ⟨_, rfl⟩
    have HM1 := hid hM1
    have HI1 := hid hI1
    have HJ1 := hid hJ1
    have HF1 := hid hF1
    clear fi0 fi1 fi2 fi3 fi4 mi0 mi1 mi2 mi3 mi4 mi5 mi6 mz hcap hmax hM1 hI1 hJ1 hF1 HM0 HFo HJ0
    obtain ⟨fi0, fi1, fi2, fi3, fi4⟩ := HF1.out
    obtain ⟨mi0, mi1, mi2, mi3, mi4, mi5, mi6⟩ := HM1.out.in
    have mz := HM1.out.frozen
    simp only at fi1 fi2 fi3 fi4 mi1 mi2 mi3 mi4 mi5 mi6
    cases own
    case' false =>
      go_upto_region 4 with fail
      obtain ⟨d8, k8, b08, b18, b28, a8, n8, c8, ts8, HM8, HO8⟩ : ∃ d8 k8 b08 b18 b28 a8 n8 c8 ts8, Hid (MdB w1 w.heap.size ⟨d8, k8, b08, b18, b28, a8, n8, c8, ts8⟩) ∧ Hid (Md.ok w1 ⟨d8, k8, b08, b18, b28, a8, n8, c8, ts8⟩) :=
        ⟨_, _, _, _, _, _, _, _, _, HM1.out, ⟨HMk.out.fd, HMk.out.fk, HMk.out.f0, HMk.out.f1, HMk.out.f2, HI1.out.jk HJ1.out⟩⟩
      obtain ⟨w8, hw8⟩ : ∃ z, z = w1 := ⟨_, rfl⟩
      have HJ8 : Hid (Jk w w8) := by rw [hw8]; exact HJ1.out
      rw [← hw8] at HM8 HO8 ⊢
      clear hw8
    case' true =>
      go_upto_region 4 with (go_at_call 4; refine (HMod.out _ HJ1.out).mono ?_; rintro e w7 ⟨⟨d8, k8, b08, b18, b28, a8, n8, c8, ts8⟩, rfl, hr8, -, -, hfr8, hj8⟩; have HR8 := hid hr8; have HFr8 := hid hfr8; have HJ7 := hid (HJ1.out.trans hj8); have HM7 := hid (HM1.out.jk hj8); obtain ⟨q0, q1, q2, q3, q4, q5, q6⟩ := HM7.out.in; have qf := HM7.out.frozen; simp only at q1 q2 q3 q4 q5 q6; clear hr8 hfr8 hj8)
      have HM8 : Hid (MdB (putZ w7 w.heap.size ⟨d8, k8, b08, b18, b28, a8, n8, c8, ts8⟩) w.heap.size ⟨d8, k8, b08, b18, b28, a8, n8, c8, ts8⟩) := putZ_is HM7.out _
      have HO8 : Hid (Md.ok (putZ w7 w.heap.size ⟨d8, k8, b08, b18, b28, a8, n8, c8, ts8⟩) ⟨d8, k8, b08, b18, b28, a8, n8, c8, ts8⟩) := HR8.out.mdok (putZ_frow HFr8.out HM1.out.lt ⟨d8, k8, b08, b18, b28, a8, n8, c8, ts8⟩)
      have HJ8 : Hid (Jk w (putZ w7 w.heap.size ⟨d8, k8, b08, b18, b28, a8, n8, c8, ts8⟩)) := putZ_jk HJ7.out (Nat.le_refl _) _
      obtain ⟨w8, hw8⟩ : ∃ z, z = putZ w7 w.heap.size ⟨d8, k8, b08, b18, b28, a8, n8, c8, ts8⟩ := ⟨_, rfl⟩
      have hw8' : w8 = (((((w7.setCell ⟨w.heap.size, 0, none⟩ (.int .i64 d8)).setCell ⟨w.heap.size, 1, none⟩ (.int .i64 k8)).setCell ⟨w.heap.size, 2, none⟩ (.int .i64 b08)).setCell ⟨w.heap.size, 3, none⟩ (.int .i64 b18)).setCell ⟨w.heap.size, 4, none⟩ (.int .i64 b28)).setCell ⟨w.heap.size, 5, none⟩ (.slice a8 n8 c8) := hw8
      rw [← hw8] at HM8 HO8 HJ8
      rw [← hw8']
      clear hw8 hw8' q0 q1 q2 q3 q4 q5 q6 qf
    all_goals
      clear fi0 fi1 fi2 fi3 fi4 mi0 mi1 mi2 mi3 mi4 mi5 mi6 mz HM1 HI1 HF1
      obtain ⟨tb, htb⟩ : ∃ tb : ByteArray, tb = ⟨T.toArray⟩ := ⟨_, rfl⟩
      have htz : tb.size = T.length := by rw [htb]; exact text_size T
      have hext : tb.extract 0 80 = ⟨(T.take 80).toArray⟩ := by rw [htb, text_ext]; simp
      have hexa : T.length ≤ 80 → tb.extract 0 T.length = ⟨(T.take 80).toArray⟩ := fun h => by rw [htb, text_ext, List.take_of_length_le (by simp), List.drop_zero, List.take_of_length_le h]
      have HEx := hid hexa
      have HTb := hid htb
      rw [← htb]
      clear htb hexa
      go_cut [2] (fun v wc => v = .string ⟨(T.take 80).toArray⟩ ∧ wc = w8)
      case first =>
        have hTn := HTn.out
        by_cases h80 : (80 : Int) < (T.length : Int)
        · have hmin : min (T.length : Int) 80 = 80 := by omega
          have h80' : (80 : Int) ≤ (T.length : Int) := by omega
          go_wp2
          go_meet
          case rel => exact ⟨rfl, rfl⟩
        · have hmin : min (T.length : Int) 80 = (T.length : Int) := by omega
          have h00 : (0 : Int) ≤ (T.length : Int) := by omega
          have hex := HEx.out (by omega)
          go_wp2
          go_meet
          case rel => exact ⟨rfl, rfl⟩
      case rest =>
        obtain ⟨rfl, hw⟩ := hcut
        obtain rfl := hw.symm
        have hl80 : (T.take 80).length ≤ 80 := by simp; omega
        obtain ⟨U, hU⟩ : ∃ U, T.take 80 = U := ⟨_, rfl⟩
        rw [hU] at hl80 ⊢
        clear hU hext HEx htz
        have HPs := hid (fun (z : World) (hz : Jk w z) => parse_m HL.out U (by omega) hz)
        have HRs := hid (fun (z : World) => rparse_m U (by omega) z)
        simp only [tx] at HPs HRs
        go_upto_region 6 with (go_at_call 5; refine (HPs.out _ HJ8.out).mono ?_; rintro e w9 ⟨⟨d3, k3, b30, b31, b32, a3, n3, c3, ts3⟩, ok, rfl, hok, hpp, hj9⟩; have HO9 := hid hok; have HPp := hid hpp; have HJ89 := hid hj9; clear hok hpp hj9)
        have HJA : Hid (Jk w9 (w9.alloc (.cells #[.int .i64 d3, .int .i64 k3, .int .i64 b30, .int .i64 b31, .int .i64 b32, .slice a3 n3 c3] 25))) := (Jk.refl w9).alloc _
        have HMA : Hid (MdB (w9.alloc (.cells #[.int .i64 d3, .int .i64 k3, .int .i64 b30, .int .i64 b31, .int .i64 b32, .slice a3 n3 c3] 25)) w9.heap.size ⟨d3, k3, b30, b31, b32, a3, n3, c3, ts3⟩) := MdB.laid w9 ⟨d3, k3, b30, b31, b32, a3, n3, c3, ts3⟩
        generalize w9.alloc (.cells #[.int .i64 d3, .int .i64 k3, .int .i64 b30, .int .i64 b31, .int .i64 b32, .slice a3 n3 c3] 25) = wA at HJA HMA ⊢
        generalize w9.heap.size = hA at HMA ⊢
        have HOA := hid (HO9.out.jk HJA.out)
        have HJ8A := hid (HJ89.out.trans HJA.out)
        clear HO9 HJ89 HJA
        go_upto_region 7 with (go_at_call 6; refine (HRs.out _).mono ?_; rintro e wB ⟨⟨d4, k4, b40, b41, b42, a4, n4, c4, ts4⟩, ok4, rfl, hok, hpp, hjB⟩; have HOB := hid hok; have HPq := hid hpp; have HJAB := hid hjB; clear hok hpp hjB)
        have HJC : Hid (Jk wB (wB.alloc (.cells #[.int .i64 d4, .int .i64 k4, .int .i64 b40, .int .i64 b41, .int .i64 b42, .slice a4 n4 c4] 25))) := (Jk.refl wB).alloc _
        have HMC : Hid (MdB (wB.alloc (.cells #[.int .i64 d4, .int .i64 k4, .int .i64 b40, .int .i64 b41, .int .i64 b42, .slice a4 n4 c4] 25)) wB.heap.size ⟨d4, k4, b40, b41, b42, a4, n4, c4, ts4⟩) := MdB.laid wB ⟨d4, k4, b40, b41, b42, a4, n4, c4, ts4⟩
        generalize wB.alloc (.cells #[.int .i64 d4, .int .i64 k4, .int .i64 b40, .int .i64 b41, .int .i64 b42, .slice a4 n4 c4] 25) = wC at HJC HMC ⊢
        generalize wB.heap.size = hC at HMC ⊢
        have HJAC := hid (HJAB.out.trans HJC.out)
        have HJ8C := hid (HJ8A.out.trans HJAC.out)
        have hsm := ParseP.same HPp.out HPq.out
        obtain ⟨hpm, rfl⟩ := hsm
        have HPm := hid hpm
        clear hpm
        have HOC := hid (HOB.out.jk HJC.out)
        have HO8C := hid (HO8.out.jk HJ8C.out)
        have HLC := hid (HL.out.at (HJ8.out.trans HJ8C.out))
        obtain ⟨PT, hPT⟩ : ∃ P, printM (Md.pm ⟨d8, k8, b08, b18, b28, a8, n8, c8, ts8⟩) = P := ⟨_, rfl⟩
        have HPr0 := hid (print_m HLC.out HO8C.out)
        have HRr0 := hid (rprint_m HO8C.out)
        rw [hPT] at HPr0 HRr0
        clear hPT
        have HPr : Hid (∀ z, Jk wC z → Calls Tryz.prog 7 #[.agg #[.int .i64 d8, .int .i64 k8, .int .i64 b08, .int .i64 b18, .int .i64 b28, .slice a8 n8 c8]] z fun e w' => e = .returned (.string ⟨PT.toArray⟩) ∧ Jk wC w') := fun z hz => (HPr0.out z hz).mono fun e w'' h => ⟨h.1, hz.trans h.2⟩
        have HRr : Hid (∀ z, Jk wC z → Calls Tryz.prog 8 #[.agg #[.int .i64 d8, .int .i64 k8, .int .i64 b08, .int .i64 b18, .int .i64 b28, .slice a8 n8 c8]] z fun e w' => e = .returned (.string ⟨PT.toArray⟩) ∧ Jk wC w') := fun z hz => (HRr0.out z hz).mono fun e w'' h => ⟨h.1, hz.trans h.2⟩
        have HMs0 := hid (models_ans (b := true) (HOA.out.jk HJAC.out) HOC.out ⟨fun _ => HPm.out, fun _ => rfl⟩)
        have HMs : Hid (∀ z, Jk wC z → Calls Tryz.prog 9 #[.agg #[.int .i64 d3, .int .i64 k3, .int .i64 b30, .int .i64 b31, .int .i64 b32, .slice a3 n3 c3], .agg #[.int .i64 d4, .int .i64 k4, .int .i64 b40, .int .i64 b41, .int .i64 b42, .slice a4 n4 c4]] z fun e w' => e = .returned (.bool true) ∧ Jk wC w') := fun z hz => (HMs0.out z hz).mono fun e w'' h => ⟨h.1, hz.trans h.2⟩
        have HRn : Hid (∀ z, Jk wC z → Calls Tryz.prog 10 #[] z fun e w' => e = .returned (.bool true) ∧ Jk wC w') := fun z hz => (runs_ans HLC.out z hz).mono fun e w'' h => ⟨h.1, hz.trans h.2⟩
        obtain ⟨al, x0, x1, x2, x3, x4, x5⟩ := (HM8.out.jk HJ8C.out).in
        obtain ⟨bl, y0, y1, y2, y3, y4, y5⟩ := (HMA.out.jk HJAC.out).in
        obtain ⟨cl, z0, z1, z2, z3, z4, z5⟩ := HMC.out.in
        simp only at x0 x1 x2 x3 x4 x5 y0 y1 y2 y3 y4 y5 z0 z1 z2 z3 z4 z5
        have HSS : Hid (∀ z, Jk wC z → (z.cell? ⟨w.heap.size, 0, none⟩ = some (.int .i64 d8) ∧ z.cell? ⟨w.heap.size, 1, none⟩ = some (.int .i64 k8) ∧ z.cell? ⟨w.heap.size, 2, none⟩ = some (.int .i64 b08) ∧ z.cell? ⟨w.heap.size, 3, none⟩ = some (.int .i64 b18) ∧ z.cell? ⟨w.heap.size, 4, none⟩ = some (.int .i64 b28) ∧ z.cell? ⟨w.heap.size, 5, none⟩ = some (.slice a8 n8 c8) ∧ z.cell? ⟨hA, 0, none⟩ = some (.int .i64 d3) ∧ z.cell? ⟨hA, 1, none⟩ = some (.int .i64 k3) ∧ z.cell? ⟨hA, 2, none⟩ = some (.int .i64 b30) ∧ z.cell? ⟨hA, 3, none⟩ = some (.int .i64 b31) ∧ z.cell? ⟨hA, 4, none⟩ = some (.int .i64 b32) ∧ z.cell? ⟨hA, 5, none⟩ = some (.slice a3 n3 c3) ∧ z.cell? ⟨hC, 0, none⟩ = some (.int .i64 d4) ∧ z.cell? ⟨hC, 1, none⟩ = some (.int .i64 k4) ∧ z.cell? ⟨hC, 2, none⟩ = some (.int .i64 b40) ∧ z.cell? ⟨hC, 3, none⟩ = some (.int .i64 b41) ∧ z.cell? ⟨hC, 4, none⟩ = some (.int .i64 b42) ∧ z.cell? ⟨hC, 5, none⟩ = some (.slice a4 n4 c4))) := fun z hz => by
          have q1 := fun i => hz.below.cell (p := ⟨w.heap.size, i, none⟩) al
          have q2 := fun i => hz.below.cell (p := ⟨hA, i, none⟩) bl
          have q3 := fun i => hz.below.cell (p := ⟨hC, i, none⟩) cl
          rw [q1, q1, q1, q1, q1, q1, q2, q2, q2, q2, q2, q2, q3, q3, q3, q3, q3, q3]
          exact ⟨x0, x1, x2, x3, x4, x5, y0, y1, y2, y3, y4, y5, z0, z1, z2, z3, z4, z5⟩
        clear HPr0 HRr0 HMs0 HPs HRs
        go_region_held3 (fun z => z.cell? ⟨w.heap.size, 0, none⟩ = some (.int .i64 d8) ∧ z.cell? ⟨w.heap.size, 1, none⟩ = some (.int .i64 k8) ∧ z.cell? ⟨w.heap.size, 2, none⟩ = some (.int .i64 b08) ∧ z.cell? ⟨w.heap.size, 3, none⟩ = some (.int .i64 b18) ∧ z.cell? ⟨w.heap.size, 4, none⟩ = some (.int .i64 b28) ∧ z.cell? ⟨w.heap.size, 5, none⟩ = some (.slice a8 n8 c8) ∧ z.cell? ⟨hA, 0, none⟩ = some (.int .i64 d3) ∧ z.cell? ⟨hA, 1, none⟩ = some (.int .i64 k3) ∧ z.cell? ⟨hA, 2, none⟩ = some (.int .i64 b30) ∧ z.cell? ⟨hA, 3, none⟩ = some (.int .i64 b31) ∧ z.cell? ⟨hA, 4, none⟩ = some (.int .i64 b32) ∧ z.cell? ⟨hA, 5, none⟩ = some (.slice a3 n3 c3) ∧ z.cell? ⟨hC, 0, none⟩ = some (.int .i64 d4) ∧ z.cell? ⟨hC, 1, none⟩ = some (.int .i64 k4) ∧ z.cell? ⟨hC, 2, none⟩ = some (.int .i64 b40) ∧ z.cell? ⟨hC, 3, none⟩ = some (.int .i64 b41) ∧ z.cell? ⟨hC, 4, none⟩ = some (.int .i64 b42) ∧ z.cell? ⟨hC, 5, none⟩ = some (.slice a4 n4 c4))
          (first | (refine HSS.out _ ?_; repeat (with_reducible first | assumption | exact Jk.refl _ | apply Jk.drew)))
          (first
            | (go_at_call 7; refine (HPr.out _ (by repeat (with_reducible first | assumption | exact Jk.refl _ | apply Jk.drew))).mono ?_; rintro e wP ⟨rfl, hjP⟩)
            | (go_at_call 8; refine (HRr.out _ (by repeat (with_reducible first | assumption | exact Jk.refl _ | apply Jk.drew))).mono ?_; rintro e wR ⟨rfl, hjR⟩)
            | (go_at_call 9; refine (HMs.out _ (by repeat (with_reducible first | assumption | exact Jk.refl _ | apply Jk.drew))).mono ?_; rintro e wS ⟨rfl, hjS⟩)
            | (go_at_call 10; refine (HRn.out _ (by repeat (with_reducible first | assumption | exact Jk.refl _ | apply Jk.drew))).mono ?_; rintro e wT ⟨rfl, hjT⟩))
        all_goals
          go_wp2_with fail
          go_ret
          exact ⟨rfl, HJ8.out.trans (HJ8C.out.trans (by repeat (with_reducible first | assumption | exact Jk.refl _ | apply Jk.drew)))⟩

theorem textTells_walk (m : Md) (f : Fo) (t : ByteArray) (own : Bool) (w : World) (hm : m.ok w) (hf : f.ok w) (ht : t.size ≤ maxLen) (hE : Env w) : Calls Tryz.prog 3 #[modelV m, forestV f, .string t, .bool own] w fun e w' => e = .returned (.bool true) ∧ Jk w w' := by
  obtain ⟨T, rfl⟩ : ∃ T : Txt, t = ⟨T.toArray⟩ := ⟨t.data.toList, by cases t; simp⟩
  exact textTells_walk0 m f T own w (lib_p hE) (by rw [text_size] at ht; exact ht) hm hf

end Go.Proofs.YtfabodbcdnmpmaaGreatDoor
