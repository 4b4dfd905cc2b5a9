/- What the document's own Walk and Value (copseref6, chapter 7) answer: the same words as the contracts of the code. -/
import Derived.Test.YtmfmiflifebflaaTreeA
import Derived.Test.YtmfmiflifebflaaRefNode3
namespace Go.Proofs.Ytmfmiflifebflaa
open Go.RowKit M

set_option maxRecDepth 100000 in
set_option maxHeartbeats 1600000 in
theorem rwalk_any {a : Option Addr} {n c : Nat} {ws : List Int} (p : Int → Int) (x : Int) {w : World} (hw : IsW w a n c ws) (hx : plI (wayW ws p 31 0) = x) :
    Calls Try.prog 50 #[.slice a n c, pointV p] w fun e w' => e = .returned (.int .i64 x) ∧ Jk w w' := by
  have J := rules8
  have HL : Hid (ws.length = n) := hw.len
  have HW := hid hw
  have hmax := hw.max
  have hcap := hw.cap
  unfold maxLen at hmax
  have HX := hid hx
  have HPt : Hid (∀ F : Nat, F < 4 → (w.alloc (.cells #[.int .i64 (p 0), .int .i64 (p 1), .int .i64 (p 2), .int .i64 (p 3)] 36)).cell? ⟨w.heap.size, F, none⟩ = some (.int .i64 (p F))) := by
    intro F hF
    rw [World.cell?_alloc_at _ _ _ _ rfl]
    have : F = 0 ∨ F = 1 ∨ F = 2 ∨ F = 3 := by omega
    rcases this with rfl | rfl | rfl | rfl <;> rfl
  obtain ⟨p0, e0⟩ : ∃ z, p 0 = z := ⟨_, rfl⟩
  obtain ⟨p1, e1⟩ : ∃ z, p 1 = z := ⟨_, rfl⟩
  obtain ⟨p2, e2⟩ : ∃ z, p 2 = z := ⟨_, rfl⟩
  obtain ⟨p3, e3⟩ : ∃ z, p 3 = z := ⟨_, rfl⟩
  simp only [pointV, e0, e1, e2, e3] at HPt ⊢
  clear hx hw e0 e1 e2 e3
  have hb0 : w.heap.size < (w.alloc (.cells #[.int .i64 p0, .int .i64 p1, .int .i64 p2, .int .i64 p3] 36)).heap.size := by simp
  have HJ0 : Hid (Jk (w.alloc (.cells #[.int .i64 p0, .int .i64 p1, .int .i64 p2, .int .i64 p3] 36)) (w.alloc (.cells #[.int .i64 p0, .int .i64 p1, .int .i64 p2, .int .i64 p3] 36))) := Jk.refl _
  go_enter Try.func50, Try.ntmps50
  go_wp2
  go_loopg [5, 8] 31 (fun k at' i wr => ∃ j A : Nat, j + k = 31 ∧ i = .int .i64 (j : Int) ∧ at' = .int .i64 (A : Int) ∧ A ≤ 30 ∧ wayW ws p k A = wayW ws p 31 0 ∧ Jk (w.alloc (.cells #[.int .i64 p0, .int .i64 p1, .int .i64 p2, .int .i64 p3] 36)) wr)
  case atStart => exact ⟨0, 0, by omega, rfl, rfl, by omega, rfl, HJ0.out⟩
  case round =>
    obtain ⟨j, A, hj, rfl, rfl, hA, hway, hJ⟩ := hrel
    have HJ' := hid hJ
    have hbs : w.heap.size < wr.heap.size := Nat.lt_of_lt_of_le hb0 hJ.below.size
    have HJw : Hid (Jk w wr) := ((Jk.refl w).alloc _).trans hJ
    clear HJ0 hJ
    by_cases hfuel : gk = 0
    · subst hfuel
      have hx : -1 = x := by rw [← HX.out, ← hway]; rfl
      subst hx
      have ej : j = 31 := by omega
      subst ej
      clear hway hb0
      go_wp2
      go_ret
      exact ⟨rfl, HJw.out⟩
    · obtain ⟨k, rfl⟩ : ∃ k, gk = k + 1 := ⟨gk - 1, by omega⟩
      have hj31 : (j : Int) < 31 := by omega
      by_cases hAn : n ≤ A
      · have hn : wayW ws p (k + 1) A = none := wayW_out (by rw [HL.out]; omega)
        have hx : -1 = x := by rw [← HX.out, ← hway, hn]; rfl
        subst hx
        have hAn' : (n : Int) ≤ (A : Int) := by omega
        clear hway hn hb0
        go_wp2
        go_ret
        exact ⟨rfl, HJw.out⟩
      · obtain ⟨g, o, rfl, hg, hat⟩ := HW.out.lies (by omega)
        have hAl : A < ws.length := by rw [HL.out]; omega
        have hAn' : (A : Int) < (n : Int) := by omega
        have hA0 : (0 : Int) ≤ (A : Int) := by omega
        have c1 : wr.cell? ⟨g, o + A, none⟩ = some (.int .u64 (wd ws A)) := (hat.jk HJw.out hg) A hAl
        obtain ⟨b1, b2⟩ := HW.out.bd A (by omega)
        have HU := hid (runpack_ans (wd ws A) b1 b2)
        have HN : Hid (unI (wd ws A) = ndA ws A) := rfl
        rw [HN.out] at HU
        clear b1 b2 hat
        cases hu : unB (wd ws A)
        · rw [hu] at HU
          have hn : wayW ws p (k + 1) A = none := wayW_bad hu
          have hx : -1 = x := by rw [← HX.out, ← hway, hn]; rfl
          subst hx
          clear hway hn hb0
          go_wp2_with (first | (go_at_call 49; refine (HU.out.on _).mono ?_; rintro e w1 ⟨rfl, X1, rfl⟩))
          go_ret
          exact ⟨rfl, (HJw.out.junk _).alloc _⟩
        · rw [hu] at HU
          have HR : Hid ((ndA ws A).rightB = true) := (un_of hu).1
          cases hl : (ndA ws A).leaf
          · have hn : wayW ws p (k + 1) A = wayW ws p k (sideI (ndA ws A) p).toNat := wayW_on hAl hu hl
            have HWay : Hid (wayW ws p k (sideI (ndA ws A) p).toNat = wayW ws p 31 0) := hn ▸ hway
            have hRR := Nd.right_iff.1 HR.out
            obtain ⟨z, hz⟩ : ∃ z, ndA ws A = z := ⟨_, rfl⟩
            rw [hz] at HU hl HWay hRR
            obtain ⟨leaf, v, f, a', l, r⟩ := z
            obtain rfl : leaf = false := hl
            simp [Nd.Right] at hRR
            obtain ⟨F, rfl⟩ := Int.eq_ofNat_of_zero_le (show 0 ≤ f by omega)
            obtain ⟨L, rfl⟩ := Int.eq_ofNat_of_zero_le (show 0 ≤ l by omega)
            obtain ⟨R, rfl⟩ := Int.eq_ofNat_of_zero_le (show 0 ≤ r by omega)
            have hF4 : (F : Int) < 4 := by omega
            have hF0 : (0 : Int) ≤ (F : Int) := by omega
            have kF : wr.cell? ⟨w.heap.size, F, none⟩ = some (.int .i64 (p F)) := (HJ'.out.below.cell (p := ⟨w.heap.size, F, none⟩) hb0).trans (HPt.out F (by omega))
            have HSd : Hid (sideI ⟨false, v, F, a', L, R⟩ p = if p F ≤ a' then (L : Int) else (R : Int)) := rfl
            obtain ⟨y, hy⟩ : ∃ y, p F = y := ⟨_, rfl⟩
            rw [hy] at kF HSd
            have hb : 1 ≤ L ∧ L ≤ 30 ∧ 1 ≤ R ∧ R ≤ 30 := by omega
            clear hway hn hz hRR hy hb0
            by_cases hle : y ≤ a'
            · have HW2 : Hid (wayW ws p k L = wayW ws p 31 0) := by
                have := HWay.out
                rw [HSd.out, if_pos hle] at this
                show wayW ws p k L = wayW ws p 31 0
                simpa using this
              go_wp2_with (first | (go_at_call 49; refine (HU.out.on _).mono ?_; rintro e w1 ⟨rfl, X1, rfl⟩; have hx1 : w.heap.size < wr.heap.size + Jn X1 := (by omega)))
              go_quiet (fail)
              go_wp2
              go_roundg k
              case measure => omega
              case rel => exact ⟨j + 1, L, by omega, by go_num, rfl, by omega, HW2.out, by repeat (with_reducible first | exact HJ'.out | apply Jk.junk | apply Jk.alloc | apply Jk.drewN)⟩
            · have HW2 : Hid (wayW ws p k R = wayW ws p 31 0) := by
                have := HWay.out
                rw [HSd.out, if_neg hle] at this
                show wayW ws p k R = wayW ws p 31 0
                simpa using this
              go_wp2_with (first | (go_at_call 49; refine (HU.out.on _).mono ?_; rintro e w1 ⟨rfl, X1, rfl⟩; have hx1 : w.heap.size < wr.heap.size + Jn X1 := (by omega)))
              go_quiet (fail)
              go_wp2
              go_roundg k
              case measure => omega
              case rel => exact ⟨j + 1, R, by omega, by go_num, rfl, by omega, HW2.out, by repeat (with_reducible first | exact HJ'.out | apply Jk.junk | apply Jk.alloc | apply Jk.drewN)⟩
          · have hn : wayW ws p (k + 1) A = some A := wayW_leaf hAl hu hl
            have hx : (A : Int) = x := by rw [← HX.out, ← hway, hn]; rfl
            obtain ⟨z, hz⟩ : ∃ z, ndA ws A = z := ⟨_, rfl⟩
            rw [hz] at HU hl
            obtain ⟨leaf, v, f, a', l, r⟩ := z
            obtain rfl : leaf = true := hl
            subst hx
            clear hway hn hz hb0
            go_wp2_with (first | (go_at_call 49; refine (HU.out.on _).mono ?_; rintro e w1 ⟨rfl, X1, rfl⟩))
            go_ret
            exact ⟨rfl, (HJw.out.junk _).alloc _⟩

theorem rwalk_ans {a : Option Addr} {n c : Nat} {ws : List Int} (p : Int → Int) {w : World} (hw : IsW w a n c ws) : AnsW w 50 #[.slice a n c, pointV p] (.int .i64 (plI (wayW ws p 31 0))) := fun _ hj => rwalk_any p _ (hw.jk hj) rfl

theorem wayW_some {ws : List Int} {p : Int → Int} : ∀ {k i A : Nat}, wayW ws p k i = some A → A < ws.length ∧ unB (wd ws A) = true := by
  intro k
  induction k with
  | zero => intro i A h; cases h
  | succ k ih =>
    intro i A h
    simp only [wayW] at h
    split at h
    · rename_i hc
      split at h
      · cases h; exact hc
      · exact ih h
    · cases h

set_option maxRecDepth 100000 in
set_option maxHeartbeats 1600000 in
theorem rvalue_ans {a : Option Addr} {n c : Nat} {ws : List Int} (p : Int → Int) {w0 : World} (hw0 : IsW w0 a n c ws) : AnsW w0 45 #[.slice a n c, pointV p] (.int .i64 (vlI ws (wayW ws p 31 0))) := fun w hj => by
  have J := rules8
  have hw := hw0.jk hj
  have HWk := hid (rwalk_ans p (hw.jk ((Jk.refl w).alloc (.cells #[.int .i64 (p 0), .int .i64 (p 1), .int .i64 (p 2), .int .i64 (p 3)] 36))))
  have hmax := hw.max
  have hcap := hw.cap
  unfold maxLen at hmax
  cases hr : wayW ws p 31 0 with
  | none =>
    rw [hr] at HWk
    have HWk : Hid (AnsW (w.alloc (.cells #[.int .i64 (p 0), .int .i64 (p 1), .int .i64 (p 2), .int .i64 (p 3)] 36)) 50 #[.slice a n c, pointV p] (.int .i64 (-1))) := HWk
    show Calls Try.prog 45 #[.slice a n c, pointV p] w fun e w' => e = .returned (.int .i64 0) ∧ Jk w w'
    clear hw hw0 hj hr
    go_enter Try.func45, Try.ntmps45
    go_wp2_with (first | (go_at_call 50; refine (HWk.out.on _ (Jk.refl _)).mono ?_; rintro e w1 ⟨rfl, X1, rfl⟩))
    go_ret
    exact ⟨rfl, ((Jk.refl w).alloc _).junk _⟩
  | some A =>
    rw [hr] at HWk
    obtain ⟨h1, h2⟩ := wayW_some hr
    have hAn : A < n := by rw [← hw.len]; exact h1
    have HWk : Hid (AnsW (w.alloc (.cells #[.int .i64 (p 0), .int .i64 (p 1), .int .i64 (p 2), .int .i64 (p 3)] 36)) 50 #[.slice a n c, pointV p] (.int .i64 (A : Int))) := HWk
    obtain ⟨g, o, rfl, hg, hat⟩ := hw.lies (by omega)
    have c1 : w.cell? ⟨g, o + A, none⟩ = some (.int .u64 (wd ws A)) := hat A h1
    obtain ⟨b1, b2⟩ := hw.bd A hAn
    have HU := hid (runpack_ans (wd ws A) b1 b2)
    have HN : Hid (unI (wd ws A) = ndA ws A) := rfl
    rw [HN.out, h2] at HU
    show Calls Try.prog 45 #[.slice (some ⟨g, o, none⟩) n c, pointV p] w fun e w' => e = .returned (.int .i64 (ndA ws A).v) ∧ Jk w w'
    obtain ⟨z, hz⟩ : ∃ z, ndA ws A = z := ⟨_, rfl⟩
    rw [hz] at HU ⊢
    obtain ⟨leaf, v, f, a', l, r⟩ := z
    have hA0 : (0 : Int) ≤ (A : Int) := by omega
    have hAn' : (A : Int) < (n : Int) := by omega
    have hgs : g < w.heap.size + 1 := by omega
    show Calls Try.prog 45 #[.slice (some ⟨g, o, none⟩) n c, pointV p] w fun e w' => e = .returned (.int .i64 v) ∧ Jk w w'
    clear hw hw0 hj hr b1 b2 hat hz h2
    go_enter Try.func45, Try.ntmps45
    go_wp2_with (first | (go_at_call 50; refine (HWk.out.on _ (Jk.refl _)).mono ?_; rintro e w1 ⟨rfl, X1, rfl⟩) | (go_at_call 49; refine (HU.out.on _).mono ?_; rintro e w1 ⟨rfl, X2, rfl⟩))
    go_ret
    refine ⟨rfl, ?_⟩
    repeat (with_reducible first | exact Jk.refl _ | apply Jk.junk | apply Jk.alloc)

end Go.Proofs.Ytmfmiflifebflaa
