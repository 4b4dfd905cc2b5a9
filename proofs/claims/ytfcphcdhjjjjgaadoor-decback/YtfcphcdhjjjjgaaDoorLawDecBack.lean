/- The law DecBack of chapter 3 answers true for every two numbers, place and byte: a number comes back out of its text; two have one text just if they are the same; a text with a sign changed is scanned just if it is another number's text. Conditions: what the statement itself says of the library's variables ('Env'). -/
import Derived.Test.YtfcphcdhjjjjgaaDoorLawDecRuns
import Derived.Test.YtfcphcdhjjjjgaaDoorRefDec1
import Derived.Test.YtfcphcdhjjjjgaaDoorWithinB
import Derived.Lib.ConvBytes
import Derived.Deep.DeepCutAuto
import Derived.Deep.QuietTactic
import Derived.BigQuiet
import Derived.RegionTactic
namespace Go.Proofs.YtfcphcdhjjjjgaaDoor
open Go.RowKit M

theorem runs_on {w : World} (hE : Env w) (w1 : World) (hb : Below w.heap.size w w1) :
    Calls Tryd.prog 3 #[] w1 fun e w' => e = .returned (.bool true) ∧ Below w.heap.size w w' :=
  (decRuns_walk w1 (hE.on hb)).mono fun _ _ h => ⟨h.1, below_on hb h.2⟩

/-- from the beginning of block g on, these bytes, none of them frozen -/
def BytesAt (w : World) (g : Nat) (l : Txt) : Prop := ∀ j, j < l.length → w.cell? ⟨g, j, none⟩ = some (.int .u8 ((byteAt l j).toNat : Int)) ∧ w.frozen? ⟨g, j, none⟩ = false
theorem BytesAt.below {B : Nat} {w w' : World} {g : Nat} {l : Txt} (h : BytesAt w g l) (hb : Below B w w') (hg : g < B) : BytesAt w' g l := fun j hj =>
  ⟨(hb.cell (p := ⟨g, j, none⟩) hg).trans (h j hj).1, (hb.frozen (p := ⟨g, j, none⟩) hg).trans (h j hj).2⟩
theorem BytesAt.lt {w : World} {g : Nat} {l : Txt} (h : BytesAt w g l) (hl : 0 < l.length) : g < w.heap.size := World.block_lt_of_cell? w _ (h 0 hl).1
theorem byteAt_set (l : Txt) (i j : Nat) (c : UInt8) (hj : j < l.length) : byteAt (l.set i c) j = if i = j then c else byteAt l j := by
  unfold byteAt
  rw [getD_in _ _ (by simpa using hj), getD_in _ _ hj, List.getElem_set]
theorem BytesAt.set {w : World} {g : Nat} {l : Txt} (h : BytesAt w g l) (i : Nat) (hi : i < l.length) (c : UInt8) (X : Int) (hX : X = (c.toNat : Int)) : BytesAt (w.setCell ⟨g, i, none⟩ (.int .u8 X)) g (l.set i c) := by
  subst hX
  intro j hj
  have hj' : j < l.length := by simpa using hj
  rw [byteAt_set l i j c hj']
  refine ⟨?_, ?_⟩
  · by_cases e : i = j
    · subst e
      rw [if_pos rfl]
      exact World.cell?_setCell_same _ _ _ (h i hi).1
    · rw [if_neg e, World.cell?_setCell_other _ _ _ _ (by intro h; cases h; exact e rfl)]
      exact (h j hj').1
  · rw [World.frozen?_setCell]
    exact (h j hj').2
theorem BytesAt.text {w : World} {g : Nat} {l : Txt} (h : BytesAt w g l) (cap : Nat) : (convert 27 9 (.slice (some ⟨g, 0, none⟩) l.length cap)).run Tryd.prog w = .ok (.string ⟨l.toArray⟩) w := by
  refine run_convert_bytes_back w 27 9 5 ⟨g, 0, none⟩ cap l Tryd.underlying27 Tryd.underlying5 Tryd.underlying9 fun j hj => ?_
  have hadd : (⟨g, 0, none⟩ : Addr).add j = ⟨g, j, none⟩ := by unfold Addr.add; split <;> simp_all
  rw [hadd, (h j hj).1]
  unfold byteAt
  rw [getD_in _ _ hj]
theorem bytes_of (l : Txt) (w : World) : ∃ cap w', (convert 9 27 (.string ⟨l.toArray⟩)).run Tryd.prog w = .ok (.slice (some ⟨w.heap.size, 0, none⟩) l.length cap) w' ∧ BytesAt w' w.heap.size l ∧ Below w.heap.size w w' ∧ w.heap.size < w'.heap.size := by
  have hr := Lib.run_convert_string_bytes (P := Tryd.prog) w 9 27 5 ⟨l.toArray⟩ Tryd.underlying9 Tryd.underlying27 Tryd.underlying5
  refine ⟨_, _, hr, ?_, ?_, ?_⟩
  · intro j hj
    refine ⟨?_, ?_⟩
    · rw [Lib.bytesWorld_cell w 5 ⟨l.toArray⟩ j hj]
      rfl
    · unfold World.frozen?
      rw [Lib.bytesWorld_at_new]
      have hsz : j < (Lib.bytesCells w 5 ⟨l.toArray⟩).size := by
        unfold Lib.bytesCells
        rw [Array.size_append, Array.size_map]
        have : (⟨l.toArray⟩ : ByteArray).data.size = l.length := by simp
        omega
      simp
      omega
  · refine ⟨rfl, rfl, rfl, ?_, fun k hk => Lib.bytesWorld_at_old w _ _ k hk⟩
    rw [Lib.bytesWorld_size]; omega
  · rw [Lib.bytesWorld_size]; omega

/-- a world behind w0: what w0 held is as it was -/
structure Later (w0 : World) where
  w : World
  b : Below w0.heap.size w0 w
/-- a region that draws its order, whose operations only read and whose callees may lay blocks of their own: walked once, in the order of the text -/
theorem region_later {id : Nat} {Q : Exit → Act → World → Prop} {a : Act} {w : World} {l : List Oper} (hm : Tryd.prog.follows .mixedOrders = true) (hB : Region.lexB .any l.toArray = true)
    (h : wpQuiet Tryd.prog l.toArray (fun w' => ∃ p : Later w, w' = p.w) (fun a' => ∀ w', (∃ p : Later w, w' = p.w) → Q .normal a' w') l a) : (Code.region id l.toArray true).wp Tryd.prog Q a w :=
  wp_region_quiet (C := fun w' => ∃ p : Later w, w' = p.w) hm hB ⟨⟨_, (Below.refl _ w).drew⟩, rfl⟩ (by simpa using h)

theorem bd8 {a : Int} (h : (Lit.int .u8 a).wf = true) : ∃ c : UInt8, a = (c.toNat : Int) := by
  have hb : 0 ≤ a ∧ a ≤ 255 := by simpa [Lit.wf, IntKind.min, IntKind.max, IntKind.signed, IntKind.bits] using h
  exact ⟨UInt8.ofNat a.toNat, by rw [UInt8.toNat_ofNat']; omega⟩

set_option maxRecDepth 100000 in
set_option maxHeartbeats 3200000 in
theorem decBack_walk (n m at_ x : Int) (w0 : (Lit.int .i64 n).wf = true) (w1 : (Lit.int .i64 m).wf = true) (w2 : (Lit.int .i64 at_).wf = true) (w3 : (Lit.int .u8 x).wf = true) (w : World) (hE : Env w) :
    Calls Tryd.prog 5 #[.int .i64 n, .int .i64 m, .int .i64 at_, .int .u8 x] w fun e w' => e = .returned (.bool true) ∧ Below w.heap.size w w' := by
  obtain ⟨n1, n2⟩ := bdi w0
  obtain ⟨m1, m2⟩ := bdi w1
  obtain ⟨a1, a2⟩ := bdi w2
  obtain ⟨c, rfl⟩ := bd8 w3
  obtain ⟨S, hS⟩ : ∃ S, printL n = S := ⟨_, rfl⟩
  obtain ⟨T, hT⟩ : ∃ T, printL m = T := ⟨_, rfl⟩
  have hl := printL_len n n1 n2
  have hsc := scan_print n n1 n2
  have HST : Hid (S = T ↔ n = m) := ⟨fun h => print_inj n1 n2 m1 m2 (by rw [hS, hT, h]), fun h => by rw [← hS, ← hT, h]⟩
  rw [hS] at hl hsc
  obtain ⟨hl1, hl2⟩ := hl
  obtain ⟨hsc1, hsc2⟩ := hsc
  have HE : Hid (Env w) := hE
  have b0 := Below.refl w.heap.size w
  clear w0 w1 w2 w3 hE
  go_enter Tryd.func5, Tryd.ntmps5
  go_upto_region 3 with (first
    | (go_at_call 9; refine (print_on HE.out _ (by assumption) (by assumption) _ (by assumption)).mono ?_; rintro e w1 ⟨rfl, b1⟩)
    | (go_at_call 8; refine (scan_on HE.out _ (by omega) _ (by assumption)).mono ?_; rintro e w1 ⟨rfl, b1⟩))
  have hd1 : decide ((S.length : Int) < 1) = false := by simp; omega
  go_cut [51] (fun o wc => o = .bool false ∧ wc = w1)
  case first =>
    by_cases hnm : n = m
    · have hST := HST.out.2 hnm
      subst hnm hST
      clear HST
      go_wp2
      go_meet
      case rel => exact ⟨rfl, rfl⟩
    · have hST : (S == T) = false := by simpa using fun h => hnm (HST.out.1 h)
      have hnm' : (n == m) = false := by simpa using hnm
      clear HST
      go_wp2
      go_meet
      case rel => exact ⟨rfl, rfl⟩
  case rest =>
    obtain ⟨rfl, hw⟩ := hcut
    obtain rfl := hw.symm
    clear HST hsc1 hsc2
    go_upto_region 5 with fail
    obtain ⟨cap, w4, hcv, hB4, hb4, hs4⟩ := bytes_of S w1
    have hw1 : w.heap.size ≤ w1.heap.size := b1.size
    have HB : Hid (BytesAt w4 w1.heap.size S) := hB4
    have b4 : Below w.heap.size w w4 := below_on b1 hb4
    have HG : Hid (w.heap.size ≤ w1.heap.size) := hw1
    obtain ⟨g, hg⟩ : ∃ g, w1.heap.size = g := ⟨_, rfl⟩
    rw [hg] at hcv hs4 HB HG
    obtain ⟨L, hL⟩ : ∃ L, S.length = L := ⟨_, rfl⟩
    rw [hL] at hcv hl1 hl2
    have hw := within_any at_ 0 ((L : Int) - 1) w4 a1 a2 (by omega) (by omega) (by omega)
    have hwb := within_bd at_ 0 ((L : Int) - 1) (by omega)
    obtain ⟨i, hi⟩ : ∃ i : Nat, withinI at_ 0 ((L : Int) - 1) = (i : Int) := ⟨(withinI at_ 0 ((L : Int) - 1)).toNat, by omega⟩
    rw [hi] at hw hwb
    have hiL : i < L := by omega
    have hcell := (HB.out i (by omega)).1
    have hfz := (HB.out i (by omega)).2
    obtain ⟨c0, hc0⟩ : ∃ c0, ((byteAt S i).toNat : Int) = c0 := ⟨_, rfl⟩
    rw [hc0] at hcell
    have hS2 := HB.out.set i (by omega) c _ rfl
    obtain ⟨S2, hS2e⟩ : ∃ S2, S.set i c = S2 := ⟨_, rfl⟩
    rw [hS2e] at hS2
    have hS2l : S2.length = L := by rw [← hS2e]; simp [hL]
    obtain ⟨w5, hw5⟩ : ∃ w5, w4.setCell ⟨g, i, none⟩ (.int .u8 (c.toNat : Int)) = w5 := ⟨_, rfl⟩
    rw [hw5] at hS2
    have hcs := hS2.text cap
    rw [hS2l] at hcs
    have b5 : Below w.heap.size w w5 := by rw [← hw5]; exact b4.setCell HG.out _
    have HS2 : Hid (BytesAt w5 g S2) := hS2
    have hsc := scan_any S2 w5 (by omega) (HE.out.on b5).2 (HE.out.on b5).1
    obtain ⟨V, hV⟩ : ∃ V, scanN S2 = V := ⟨_, rfl⟩
    obtain ⟨b, hb⟩ : ∃ b, scanB S2 = b := ⟨_, rfl⟩
    have HV : Hid ((b = true → printL V = S2 ∧ -9223372036854775808 ≤ V ∧ V ≤ 9223372036854775807) ∧ (b = false → V = 0)) := by
      rw [← hV, ← hb]
      exact ⟨fun h => ⟨(scan_yes h).1, scanN_bd S2⟩, fun h => (scan_no h).1⟩
    rw [hV, hb] at hsc
    clear hB4 hb4 hS2 hc0 hS2e hV hb hg hw1 hwb hi b0 b1
    go_upto_region 8 with (first
      | (go_at_call 12; refine hw.mono ?_; rintro e w' ⟨rfl, hw'⟩; obtain rfl := hw'.symm)
      | (go_at_call 8; refine hsc.mono ?_; rintro e w6 ⟨rfl, b6⟩))
    have HC : Hid (∀ w', Below w6.heap.size w6 w' → (convert 27 9 (.slice (some ⟨g, 0, none⟩) L cap)).run Tryd.prog w' = .ok (.string ⟨S2.toArray⟩) w') := fun w' hb' => by
      have h1 := HS2.out.lt (by omega)
      have h2 := (HS2.out.below b6 h1).below hb' (Nat.lt_of_lt_of_le h1 b6.size)
      have h3 := h2.text cap
      rwa [hS2l] at h3
    have b7 : Below w.heap.size w w6 := below_on b5 b6
    have HT6 : Hid (Tab w6) := (HE.out.on b7).1
    have hc6 := HC.out w6 (Below.refl _ _)
    clear hcv hsc hcs hw hcell hfz hw5 b5 b6 b4 HS2 HB
    go_cut [83] (fun o wc => o = .bool false ∧ Below w6.heap.size w6 wc)
    case first =>
      cases b
      · obtain rfl := HV.out.2 rfl
        clear HV
        go_quiet (fail)
        go_wp2_with fail
        go_meet
        case rel => exact ⟨rfl, below_drewN (Below.refl _ _) _⟩
      · obtain ⟨hv1, hv2, hv3⟩ := HV.out.1 rfl
        clear HV
        have hp := fun w' (hb' : Below w6.heap.size w6 w') => print_any V w' hv2 hv3 (HT6.out.on hb')
        rw [hv1] at hp
        have hcp : ∀ p : Later w6, (convert 27 9 (.slice (some ⟨g, 0, none⟩) L cap)).run Tryd.prog p.w = .ok (.string ⟨S2.toArray⟩) p.w := fun p => HC.out p.w p.b
        have HP : Hid (∀ p : Later w6, Calls Tryd.prog 9 #[.int .i64 V] p.w fun e w' => e = .returned (.string ⟨S2.toArray⟩) ∧ ∃ q : Later w6, w' = q.w) := fun p =>
          (hp p.w p.b).mono fun _ w' h => ⟨h.1, ⟨w', below_on p.b h.2⟩, rfl⟩
        clear hp hc6
        refine region_later (by kernel_rfl) (by kernel_rfl) ?_
        repeat (go_big_quiet_step (first | exact HP.out _ | exact rfl))
        refine wpQuiet_nil ?_
        rintro _ ⟨p, rfl⟩
        go_wp2_with fail
        go_meet
        case rel => exact ⟨rfl, p.b⟩
    case rest =>
      obtain ⟨rfl, bc⟩ := hcut
      have b8 : Below w.heap.size w wc := below_on b7 bc
      have g1 := scan_empty
      have g2 := scan_point S
      have g3 := scan_plus S
      have t1 : ((⟨S.toArray⟩ : ByteArray) ++ (⟨#[46]⟩ : ByteArray)) = ⟨(S ++ [46]).toArray⟩ := text_app S [46]
      have t2 : ((⟨#[43]⟩ : ByteArray) ++ (⟨S.toArray⟩ : ByteArray)) = ⟨(43 :: S).toArray⟩ := text_app [43] S
      have r1 := runs_on HE.out
      have HL : Hid (S.length ≤ 30) := by show _ ≤ _; omega
      clear HV HC HT6 hc6 b7 bc hS hT
      go_wp2_with (first
        | (go_at_call 8; refine (scan_on HE.out _ (by first | decide | (have := HL.out; simp; omega)) _ (by assumption)).mono ?_; rintro e w9 ⟨rfl, b9⟩)
        | (go_at_call 3; refine (r1 _ (by assumption)).mono ?_; rintro e w9 ⟨rfl, b9⟩))
      go_ret
      exact ⟨rfl, by assumption⟩

end Go.Proofs.YtfcphcdhjjjjgaaDoor
