/- What Depth of package tree answers of a tree: how many nodes the longest way has. -/
import Derived.Test.YtdhmibjokacfpaaTreeD
namespace Go.Proofs.Ytdhmibjokacfpaa
open Go.RowKit M

set_option maxRecDepth 100000 in
set_option maxHeartbeats 1600000 in
theorem depth_yes {a : Option Addr} {n c : Nat} {ws : List Int} {w : World} (d : Int) (hw : IsW w a n c ws) (ht : TreeP ws 4) (hd : lg (ndA ws) n = d) :
    Calls Try.prog 13 #[.slice a n c] w fun e w' => e = .returned (.int .i64 d) ∧ Jk w w' := by
  have J := rules8
  have HL : Hid (ws.length = n) := hw.len
  have n1 : 1 ≤ n := by rw [← hw.len]; exact ht.full
  have n2 : n ≤ 31 := by rw [← hw.len]; exact ht.few
  have HS : Hid (Shape (ndA ws) n 4) := by have := ht.shape; rwa [hw.len] at this
  have HR0 : Hid (∀ i, i < n → (ndA ws i).rightB = true) := fun i hi => ht.right (by rw [hw.len]; exact hi)
  have HT := hid (unpackTree_any a n c ws 4 true w hw (by simp [ht]))
  have HD := hid hd
  clear hw ht hd
  go_enter Try.func13, Try.ntmps13
  go_wp2_with (first | (go_at_call 25; refine HT.out.mono ?_; rintro e w1 ⟨v, rfl, hv, _, hj⟩; obtain ⟨g, c', rfl, hO⟩ := hv rfl; have HO := hid hO; have HJ := hid hj; clear hO hj hv))
  have HI : Hid (Ints31 57 (w1.alloc (.cells #[.int .i64 1, .int .i64 0, .int .i64 0, .int .i64 0, .int .i64 0, .int .i64 0, .int .i64 0, .int .i64 0, .int .i64 0, .int .i64 0, .int .i64 0, .int .i64 0, .int .i64 0, .int .i64 0, .int .i64 0, .int .i64 0, .int .i64 0, .int .i64 0, .int .i64 0, .int .i64 0, .int .i64 0, .int .i64 0, .int .i64 0, .int .i64 0, .int .i64 0, .int .i64 0, .int .i64 0, .int .i64 0, .int .i64 0, .int .i64 0, .int .i64 0] 57)) w1.heap.size (fun q => wy (ndA ws) 0 q)) := by
    refine ⟨_, heap_alloc_new _ _, rfl, ?_⟩
    intro q hq
    match q, hq with
    | 0, _ | 1, _ | 2, _ | 3, _ | 4, _ | 5, _ | 6, _ | 7, _ | 8, _ | 9, _ | 10, _ | 11, _ | 12, _ | 13, _ | 14, _ | 15, _ | 16, _ | 17, _ | 18, _ | 19, _ | 20, _ | 21, _ | 22, _ | 23, _ | 24, _ | 25, _ | 26, _ | 27, _ | 28, _ | 29, _ | 30, _ => rfl
    | q + 31, h => omega
  have hgl : w.heap.size ≤ g ∧ g < w1.heap.size := World.ownsRow.lt HO.out.2 g rfl
  have hwl : w.heap.size ≤ w1.heap.size := HJ.out.below.size
  obtain ⟨h, hh⟩ : ∃ h, w1.heap.size = h := ⟨_, rfl⟩
  rw [hh] at HI hgl hwl
  obtain ⟨w2, hw2⟩ : ∃ w2, w1.alloc (.cells #[.int .i64 1, .int .i64 0, .int .i64 0, .int .i64 0, .int .i64 0, .int .i64 0, .int .i64 0, .int .i64 0, .int .i64 0, .int .i64 0, .int .i64 0, .int .i64 0, .int .i64 0, .int .i64 0, .int .i64 0, .int .i64 0, .int .i64 0, .int .i64 0, .int .i64 0, .int .i64 0, .int .i64 0, .int .i64 0, .int .i64 0, .int .i64 0, .int .i64 0, .int .i64 0, .int .i64 0, .int .i64 0, .int .i64 0, .int .i64 0, .int .i64 0] 57) = w2 := ⟨_, rfl⟩
  have HO2 : Hid (OwnN w.heap.size w2 (.slice (some ⟨g, 0, none⟩) n c') n (nodesTo ws n)) := hw2 ▸ HO.out.jk ((Jk.refl _).alloc _)
  have HJ2 : Hid (Jk w w2) := hw2 ▸ HJ.out.alloc _
  rw [hw2] at HI ⊢
  rw [hh]
  clear hw2 hh HO HJ HT
  go_loopg [6, 19] n (fun k mx i wr => ∃ j : Nat, j + k = n ∧ i = .int .i64 (j : Int) ∧ mx = .int .i64 (lg (ndA ws) j) ∧ Ints31 57 wr h (fun q => wy (ndA ws) j q) ∧ OwnN w.heap.size wr (.slice (some ⟨g, 0, none⟩) n c') n (nodesTo ws n) ∧ Jk w wr)
  case atStart => exact ⟨0, by omega, rfl, rfl, HI.out, HO2.out, HJ2.out⟩
  case round =>
    obtain ⟨j, hj, rfl, rfl, hI, hO, hJ⟩ := hrel
    have HI' := hid hI
    have HO' := hid hO
    have HJ' := hid hJ
    have hhs := hI.lt
    clear hI hO hJ HI HO2 HJ2
    by_cases hlt : j < n
    · have i0 : (0 : Int) ≤ (j : Int) := by omega
      have i1 : (j : Int) < (n : Int) := by omega
      have i31 : (j : Int) < 31 := by omega
      have hcs := HO'.out.cells hlt
      rw [nodesTo_at ws n j hlt] at hcs
      have HR : Hid ((ndA ws j).rightB = true) := HR0.out j hlt
      have HFi := hid (HS.out.fine j hlt)
      obtain ⟨x, hx⟩ : ∃ x, ndA ws j = x := ⟨_, rfl⟩
      have HX := hid hx
      rw [hx] at hcs HR HFi
      obtain ⟨leaf, v, f, a', l, r⟩ := x
      clear hx
      obtain ⟨c0, c1, c2, c3, c4, c5⟩ := hcs
      have hgs : g < wr.heap.size := by omega
      obtain ⟨W, hW⟩ : ∃ W, wy (ndA ws) j j = W := ⟨_, rfl⟩
      obtain ⟨G, hG⟩ : ∃ G, lg (ndA ws) j = G := ⟨_, rfl⟩
      have bW := wy_low HS.out j (by omega) j (by omega)
      have bG := lg_bd HS.out j (by omega)
      rw [hW] at bW
      rw [hG] at bG
      have HLg : Hid (lg (ndA ws) (j + 1) = max G W) := by show max (lg (ndA ws) j) (wy (ndA ws) j j) = _; rw [hG, hW]
      have HW := hid hW
      rw [hG]
      have k0 := HI'.out.cell (q := j) (by omega)
      simp only [hW] at k0
      have bW2 : W ≤ 32 := by omega
      have bG2 : G ≤ 32 := by omega
      obtain ⟨M, hM⟩ : ∃ M, (M = G ∧ W ≤ G ∧ ¬ G < W) ∨ (M = W ∧ G < W ∧ ¬ W ≤ G) := by
        by_cases e : W ≤ G
        · exact ⟨G, .inl ⟨rfl, e, by omega⟩⟩
        · exact ⟨W, .inr ⟨rfl, by omega, e⟩⟩
      have HM : Hid (lg (ndA ws) (j + 1) = M) := by
        show lg (ndA ws) (j + 1) = M
        rw [HLg.out]; omega
      clear hW hG HLg
      cases leaf
      case true =>
        have HI2 : Hid (Ints31 57 wr h (fun q => wy (ndA ws) (j + 1) q)) := HI'.out.congr fun q _ => by
          simp only [wy]
          rw [HX.out, if_pos rfl]
        rcases hM with ⟨rfl, h1, h2⟩ | ⟨rfl, h1, h2⟩
        all_goals
          go_wp2
          go_roundg (gk - 1)
          case measure => omega
          case rel => exact ⟨j + 1, by omega, by go_num, by rw [HM.out], HI2.out.jk ((Jk.refl _).alloc _), HO'.out.jk ((Jk.refl _).alloc _), HJ'.out.alloc _⟩
      case false =>
        have hR := Nd.right_iff.1 HR.out
        simp [Nd.Right] at hR
        obtain ⟨L, rfl⟩ := Int.eq_ofNat_of_zero_le (show 0 ≤ l by omega)
        obtain ⟨R, rfl⟩ := Int.eq_ofNat_of_zero_le (show 0 ≤ r by omega)
        have hLR : ¬ L = R ∧ j < L ∧ j < R ∧ L < n ∧ R < n := by
          rcases HFi.out with h | ⟨_, h1, h2, h3, h4, h5⟩
          · cases h
          · simp at h1 h2 h3 h4 h5; omega
        obtain ⟨hne, hl1, hr1, hl2, hr2⟩ := hLR
        have k1 := HI'.out.cell (q := L) (by omega)
        have k2 := HI'.out.frozen L
        have hS := HI'.out.set (q := L) (by omega) (W + 1)
        have k3 := hS.cell (q := R) (by omega)
        have k4 := hS.frozen R
        have k5 := hS.cell (q := j) (by omega)
        simp only [updN] at k5
        rw [if_neg (by omega), HW.out] at k5
        have HS2 := hid (hS.set (q := R) (by omega) (W + 1))
        obtain ⟨V1, hV1⟩ : ∃ V, wy (ndA ws) j (L : Int) = V := ⟨_, rfl⟩
        obtain ⟨V2, hV2⟩ : ∃ V, updN (fun q => wy (ndA ws) j q) L (W + 1) R = V := ⟨_, rfl⟩
        simp only [hV1] at k1
        rw [hV2] at k3
        have HO3 := hid ((HO'.out.set (h := h) (by omega) L (.int .i64 (W + 1))).set (h := h) (by omega) R (.int .i64 (W + 1)))
        have HJ3 := hid ((HJ'.out.set (p := ⟨h, L, none⟩) (show w.heap.size ≤ h by omega) (.int .i64 (W + 1))).set (p := ⟨h, R, none⟩) (show w.heap.size ≤ h by omega) (.int .i64 (W + 1)))
        have HI2 : Hid (Ints31 57 ((wr.setCell ⟨h, L, none⟩ (.int .i64 (W + 1))).setCell ⟨h, R, none⟩ (.int .i64 (W + 1))) h (fun q => wy (ndA ws) (j + 1) q)) := HS2.out.congr fun q _ => by
          show updN (updN (fun q => wy (ndA ws) j q) L (W + 1)) R (W + 1) q = (if (ndA ws j).leaf = true then wy (ndA ws) j q else if (ndA ws j).r = q then wy (ndA ws) j j + 1 else if (ndA ws j).l = q then wy (ndA ws) j j + 1 else wy (ndA ws) j q)
          rw [HX.out, HW.out]
          show (if q = R then W + 1 else if q = L then W + 1 else wy (ndA ws) j q) = (if false = true then wy (ndA ws) j q else if (R : Int) = q then W + 1 else if (L : Int) = q then W + 1 else wy (ndA ws) j q)
          rw [if_neg (show ¬ false = true by decide)]
          by_cases e1 : q = R
          · rw [if_pos e1, if_pos (show (R : Int) = q by omega)]
          · rw [if_neg e1, if_neg (show ¬ (R : Int) = q by omega)]
            by_cases e2 : q = L
            · rw [if_pos e2, if_pos (show (L : Int) = q by omega)]
            · rw [if_neg e2, if_neg (show ¬ (L : Int) = q by omega)]
        have hh1 : h < wr.heap.size + 1 := by omega
        clear hS hV1 hV2 hR HS2
        have l31 : (L : Int) < 31 := by omega
        have r31 : (R : Int) < 31 := by omega
        have l0 : (0 : Int) ≤ (L : Int) := by omega
        have r0 : (0 : Int) ≤ (R : Int) := by omega
        have kw : IntKind.i64.wrap (W + 1) = W + 1 := i64_in (by omega) (by omega)
        rcases hM with ⟨rfl, h1, h2⟩ | ⟨rfl, h1, h2⟩
        all_goals
          go_wp2
          go_region
          go_wp2
          go_region
          go_wp2
          go_roundg (gk - 1)
          case measure => omega
          case rel =>
            refine ⟨j + 1, by omega, by go_num, by rw [HM.out], HI2.out.jk ?_, HO3.out.jk ?_, HJ3.out.trans ?_⟩
            all_goals
              repeat (with_reducible first | exact Jk.refl _ | apply Jk.junk | apply Jk.alloc | apply Jk.drewN | apply Jk.drew)
    · have e : j = n := by omega
      subst e
      have hd2 : lg (ndA ws) j = d := HD.out
      rw [hd2]
      clear hd2
      go_wp2
      go_ret
      exact ⟨rfl, HJ'.out⟩

end Go.Proofs.Ytdhmibjokacfpaa
