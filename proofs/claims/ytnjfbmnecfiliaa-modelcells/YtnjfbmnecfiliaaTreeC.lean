/- What walk, Walk and Value of package tree answer: the leaf of a point. -/
import Derived.Test.YtnjfbmnecfiliaaTreeB
namespace Go.Proofs.Ytnjfbmnecfiliaa
open Go.RowKit M

set_option maxRecDepth 100000 in
set_option maxHeartbeats 1600000 in
theorem walk_any {a : Option Addr} {n c : Nat} {ws : List Int} (p : Int → Int) (x y : Int) {w : World} (hw : IsW w a n c ws) (hx : plI (wayW ws p 31 0) = x) (hy : vlI ws (wayW ws p 31 0) = y) :
    Calls Try.prog 39 #[.slice a n c, pointV p] w fun e w' => e = .returned (.tuple #[.int .i64 x, .int .i64 y]) ∧ Jk w w' := by
  have J := rules8
  have HL : Hid (ws.length = n) := hw.len
  have HW := hid hw
  have hmax := hw.max
  have hcap := hw.cap
  unfold maxLen at hmax
  have HX := hid hx
  have HY := hid hy
  have HP : Hid (∀ {z : Nd}, 0 ≤ z.f → z.f < 4 → Ans 52 #[nodeV z, pointV p] (.int .i64 (sideI z p))) := fun h0 h1 => way_ans h0 h1 p
  obtain ⟨p0, e0⟩ : ∃ z, p 0 = z := ⟨_, rfl⟩
  obtain ⟨p1, e1⟩ : ∃ z, p 1 = z := ⟨_, rfl⟩
  obtain ⟨p2, e2⟩ : ∃ z, p 2 = z := ⟨_, rfl⟩
  obtain ⟨p3, e3⟩ : ∃ z, p 3 = z := ⟨_, rfl⟩
  simp only [pointV, e0, e1, e2, e3] at HP ⊢
  clear hx hy hw e0 e1 e2 e3
  have hb0 : w.heap.size < (w.alloc (.cells #[.int .i64 p0, .int .i64 p1, .int .i64 p2, .int .i64 p3] 33)).heap.size := by simp
  have HJ0 : Hid (Jk (w.alloc (.cells #[.int .i64 p0, .int .i64 p1, .int .i64 p2, .int .i64 p3] 33)) (w.alloc (.cells #[.int .i64 p0, .int .i64 p1, .int .i64 p2, .int .i64 p3] 33))) := Jk.refl _
  go_enter Try.func39, Try.ntmps39
  go_wp2
  go_loopg [6, 9] 31 (fun k at' i wr => ∃ j A : Nat, j + k = 31 ∧ i = .int .i64 (j : Int) ∧ at' = .int .i64 (A : Int) ∧ A ≤ 30 ∧ wayW ws p k A = wayW ws p 31 0 ∧ Jk (w.alloc (.cells #[.int .i64 p0, .int .i64 p1, .int .i64 p2, .int .i64 p3] 33)) wr)
  case atStart => exact ⟨0, 0, by omega, rfl, rfl, by omega, rfl, HJ0.out⟩
  case round =>
    obtain ⟨j, A, hj, rfl, rfl, hA, hway, hJ⟩ := hrel
    have HJ' := hid hJ
    have hbs : w.heap.size < wr.heap.size := Nat.lt_of_lt_of_le hb0 hJ.below.size
    have HJw : Hid (Jk w wr) := ((Jk.refl w).alloc _).trans hJ
    clear HJ0 hb0 hJ
    by_cases hfuel : gk = 0
    · subst hfuel
      have hx : -1 = x := by rw [← HX.out, ← hway]; rfl
      have hy : 0 = y := by rw [← HY.out, ← hway]; rfl
      subst hx hy
      have ej : j = 31 := by omega
      subst ej
      clear hway
      go_wp2
      refine bodyPost_ret (v := .tuple #[.int .i64 (-1), .int .i64 0]) (by simp [results, Try.results39, go_sem]) rfl ⟨rfl, HJw.out⟩
    · obtain ⟨k, rfl⟩ : ∃ k, gk = k + 1 := ⟨gk - 1, by omega⟩
      have hj31 : (j : Int) < 31 := by omega
      by_cases hAn : n ≤ A
      · have hn : wayW ws p (k + 1) A = none := wayW_out (by rw [HL.out]; omega)
        have hx : -1 = x := by rw [← HX.out, ← hway, hn]; rfl
        have hy : 0 = y := by rw [← HY.out, ← hway, hn]; rfl
        subst hx hy
        have hAn' : (n : Int) ≤ (A : Int) := by omega
        clear hway hn
        go_wp2
        refine bodyPost_ret (v := .tuple #[.int .i64 (-1), .int .i64 0]) (by simp [results, Try.results39, go_sem]) rfl ⟨rfl, HJw.out⟩
      · obtain ⟨g, o, rfl, hg, hat⟩ := HW.out.lies (by omega)
        have hAl : A < ws.length := by rw [HL.out]; omega
        have hAn' : (A : Int) < (n : Int) := by omega
        have hA0 : (0 : Int) ≤ (A : Int) := by omega
        have c1 : wr.cell? ⟨g, o + A, none⟩ = some (.int .u64 (wd ws A)) := (hat.jk HJw.out hg) A hAl
        obtain ⟨b1, b2⟩ := HW.out.bd A (by omega)
        have HU := hid (unpack_ans (wd ws A) b1 b2)
        have HN : Hid (unI (wd ws A) = ndA ws A) := rfl
        rw [HN.out] at HU
        clear b1 b2 hat
        cases hu : unB (wd ws A)
        · rw [hu] at HU
          have hn : wayW ws p (k + 1) A = none := wayW_bad hu
          have hx : -1 = x := by rw [← HX.out, ← hway, hn]; rfl
          have hy : 0 = y := by rw [← HY.out, ← hway, hn]; rfl
          subst hx hy
          clear hway hn
          go_wp2_with (first | (go_at_call 20; refine (HU.out.on _).mono ?_; rintro e w1 ⟨rfl, X1, rfl⟩))
          refine bodyPost_ret (v := .tuple #[.int .i64 (-1), .int .i64 0]) (by simp [results, Try.results39, go_sem]) rfl ⟨rfl, (HJw.out.junk _).alloc _⟩
        · rw [hu] at HU
          have HR : Hid ((ndA ws A).rightB = true) := (un_of hu).1
          cases hl : (ndA ws A).leaf
          · have hn : wayW ws p (k + 1) A = wayW ws p k (sideI (ndA ws A) p).toNat := wayW_on hAl hu hl
            have HWay : Hid (wayW ws p k (sideI (ndA ws A) p).toNat = wayW ws p 31 0) := hn ▸ hway
            have hRR := Nd.right_iff.1 HR.out
            obtain ⟨z, hz⟩ : ∃ z, ndA ws A = z := ⟨_, rfl⟩
            rw [hz] at HU hl HWay hRR
            obtain ⟨leaf, v, f, a', l, r⟩ := z
            obtain rfl : leaf = false := hl
            simp [Nd.Right] at hRR
            have HS := hid (HP.out (z := ⟨false, v, f, a', l, r⟩) (by simp; omega) (by simp; omega))
            obtain ⟨S, hS⟩ : ∃ S, sideI ⟨false, v, f, a', l, r⟩ p = S := ⟨_, rfl⟩
            have hS2 : 1 ≤ S ∧ S ≤ 30 := by
              rw [← hS]
              rcases side_cases ⟨false, v, f, a', l, r⟩ p with e | e <;> rw [e] <;> simp <;> omega
            rw [hS] at HS HWay
            obtain ⟨S, rfl⟩ := Int.eq_ofNat_of_zero_le (show 0 ≤ S by omega)
            have k0 : wr.cell? ⟨w.heap.size, 0, none⟩ = some (.int .i64 p0) := by
              rw [HJ'.out.below.cell (p := ⟨w.heap.size, 0, none⟩) (by simp)]; exact World.cell?_alloc_at _ _ _ _ rfl
            have k1 : wr.cell? ⟨w.heap.size, 1, none⟩ = some (.int .i64 p1) := by
              rw [HJ'.out.below.cell (p := ⟨w.heap.size, 1, none⟩) (by simp)]; exact World.cell?_alloc_at _ _ _ _ rfl
            have k2 : wr.cell? ⟨w.heap.size, 2, none⟩ = some (.int .i64 p2) := by
              rw [HJ'.out.below.cell (p := ⟨w.heap.size, 2, none⟩) (by simp)]; exact World.cell?_alloc_at _ _ _ _ rfl
            have k3 : wr.cell? ⟨w.heap.size, 3, none⟩ = some (.int .i64 p3) := by
              rw [HJ'.out.below.cell (p := ⟨w.heap.size, 3, none⟩) (by simp)]; exact World.cell?_alloc_at _ _ _ _ rfl
            clear hway hn hz hRR hS
            go_wp2_with (first | (go_at_call 20; refine (HU.out.on _).mono ?_; rintro e w1 ⟨rfl, X1, rfl⟩; have hx1 : w.heap.size < wr.heap.size + Jn X1 := (by omega)) | (go_at_call 52; refine (HS.out.on _).mono ?_; rintro e w1 ⟨rfl, X2, rfl⟩))
            go_roundg k
            case measure => omega
            case rel => exact ⟨j + 1, S, by omega, by go_num, rfl, by omega, by simpa using HWay.out, ((HJ'.out.junk _).alloc _).junk _⟩
          · have hn : wayW ws p (k + 1) A = some A := wayW_leaf hAl hu hl
            have hx : (A : Int) = x := by rw [← HX.out, ← hway, hn]; rfl
            have hy : (ndA ws A).v = y := by rw [← HY.out, ← hway, hn]; rfl
            obtain ⟨z, hz⟩ : ∃ z, ndA ws A = z := ⟨_, rfl⟩
            rw [hz] at HU hl hy
            obtain ⟨leaf, v, f, a', l, r⟩ := z
            obtain rfl : leaf = true := hl
            obtain rfl : v = y := hy
            subst hx
            clear hway hn hz
            go_wp2_with (first | (go_at_call 20; refine (HU.out.on _).mono ?_; rintro e w1 ⟨rfl, X1, rfl⟩))
            go_quiet (fail)
            go_wp2
            refine bodyPost_ret (v := .tuple #[.int .i64 A, .int .i64 v]) (by simp [results, Try.results39, go_sem]) rfl ⟨rfl, ?_⟩
            repeat (with_reducible first | exact HJw.out | apply Jk.junk | apply Jk.alloc | apply Jk.drewN)

theorem value_ans {a : Option Addr} {n c : Nat} {ws : List Int} (p : Int → Int) {w : World} (hw : IsW w a n c ws) : AnsW w 22 #[.slice a n c, pointV p] (.int .i64 (vlI ws (wayW ws p 31 0))) := fun w1 hj => by
  have J := rules8
  obtain ⟨x, hx⟩ : ∃ x, plI (wayW ws p 31 0) = x := ⟨_, rfl⟩
  obtain ⟨y, hy⟩ : ∃ y, vlI ws (wayW ws p 31 0) = y := ⟨_, rfl⟩
  have HT := hid (walk_any p x y ((hw.jk hj).jk ((Jk.refl w1).alloc (.cells #[.int .i64 (p 0), .int .i64 (p 1), .int .i64 (p 2), .int .i64 (p 3)] 33))) hx hy)
  rw [hy]
  clear hw hx hy hj
  go_enter Try.func22, Try.ntmps22
  go_wp2_with (first | (go_at_call 39; refine HT.out.mono ?_; rintro e w2 ⟨rfl, hj⟩; have HJ := hid hj; clear hj))
  go_ret
  exact ⟨rfl, ((Jk.refl w1).alloc _).trans HJ.out⟩

end Go.Proofs.Ytnjfbmnecfiliaa
