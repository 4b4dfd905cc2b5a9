/- What the functions of package query that tell which queries are right answer: hasClass, asksPairs, rightRegion, rightKind, Right. -/
import Derived.Test.YtndnijdpafcmoaaQueryB
import Derived.Test.YtndnijdpafcmoaaBoxV
import Derived.Test.YtndnijdpafcmoaaSpanIs
namespace Go.Proofs.Ytndnijdpafcmoaa
open Go.RowKit M

theorem hasc_ans (d k b0 b1 b2 : Int) (a : Option Addr) (n c' : Nat) (c : Int) : Ans 17 #[.agg #[.int .i64 d, .int .i64 k, .int .i64 b0, .int .i64 b1, .int .i64 b2, .slice a n c'], .int .i64 c] (.bool (hasC k c)) := fun w => by
  have J := rules8
  by_cases h1 : 0 ≤ c
  · by_cases h2 : c < k
    · have e : hasC k c = true := hasC_iff.2 ⟨h1, h2⟩
      rw [e]; clear e
      go_enter Try.func17, Try.ntmps17
      go_wp2
      go_ret
      exact ⟨rfl, (Jk.refl w).alloc _⟩
    · have e : hasC k c = false := by simp [hasC]; omega
      rw [e]; clear e
      go_enter Try.func17, Try.ntmps17
      go_wp2
      go_ret
      exact ⟨rfl, (Jk.refl w).alloc _⟩
  · have e : hasC k c = false := by simp [hasC]; omega
    rw [e]; clear e
    go_enter Try.func17, Try.ntmps17
    go_wp2
    go_ret
    exact ⟨rfl, (Jk.refl w).alloc _⟩

set_option maxRecDepth 100000 in
set_option maxHeartbeats 1600000 in
theorem pairs_ans {q : Qy} {b : Bool} (hb : b = true ↔ pairP q) : Ans 25 #[queryV q] (.bool b) := fun w => by
  have J := rules8
  obtain ⟨kd, cl, ⟨⟨ra, rb⟩, ⟨rc, rd⟩, ⟨re, rf⟩, ⟨rg, rh⟩, ⟨ri, rj⟩⟩, lo, hi, f, fa, bu⟩ := q
  simp only [pairP] at hb
  by_cases h1 : kd = 3
  · by_cases h2 : 0 ≤ f
    · by_cases h3 : f < 4
      · obtain rfl : true = b := (hb.2 ⟨h1, h2, h3⟩).symm
        clear hb
        subst h1
        go_enter Try.func25, Try.ntmps25
        go_wp2
        go_ret
        exact ⟨rfl, (Jk.refl w).alloc _⟩
      · obtain rfl : false = b := (Bool.eq_false_iff.2 fun e => by have := hb.1 e; omega).symm
        clear hb
        subst h1
        go_enter Try.func25, Try.ntmps25
        go_wp2
        go_ret
        exact ⟨rfl, (Jk.refl w).alloc _⟩
    · obtain rfl : false = b := (Bool.eq_false_iff.2 fun e => by have := hb.1 e; omega).symm
      clear hb
      subst h1
      go_enter Try.func25, Try.ntmps25
      go_wp2
      go_ret
      exact ⟨rfl, (Jk.refl w).alloc _⟩
  · obtain rfl : false = b := (Bool.eq_false_iff.2 fun e => by have := hb.1 e; omega).symm
    clear hb
    go_enter Try.func25, Try.ntmps25
    go_wp2
    go_ret
    exact ⟨rfl, (Jk.refl w).alloc _⟩

theorem ix_at (x : Bx) {j : Nat} (hj : j < 5) (w : World) : (Instr.index 38 (boxV x) (.int .i64 (j : Int))).run Try.prog w = .ok (spV (x.at (j : Int))) w := by
  match j, hj with
  | 0, _ => exact ix0 x w
  | 1, _ => exact ix1 x w
  | 2, _ => exact ix2 x w
  | 3, _ => exact ix3 x w
  | 4, _ => exact ix4 x w
theorem spansR_at {d : Int} {x : Bx} : spansR d x ↔ ∀ j : Nat, j < 5 → placeR d (j : Int) (x.at (j : Int)) := by
  constructor
  · rintro ⟨h0, h1, h2, h3, h4⟩ j hj
    match j, hj with
    | 0, _ => exact h0
    | 1, _ => exact h1
    | 2, _ => exact h2
    | 3, _ => exact h3
    | 4, _ => exact h4
  · intro h
    exact ⟨h 0 (by decide), h 1 (by decide), h 2 (by decide), h 3 (by decide), h 4 (by decide)⟩
theorem eq_nil (x y : Int) (w : World) : (Op.equalIn 10000 36 (.agg #[.int .i64 x, .int .i64 y]) (.agg #[.int .i64 0, .int .i64 0])).run Try.prog w = .ok ((x == 0) && (y == 0)) w := eq_span 9998 ⟨x, y⟩ ⟨0, 0⟩ w

set_option maxRecDepth 100000 in
set_option maxHeartbeats 1600000 in
theorem region_ok {x : Bx} {d : Int} {b : Bool} (hb : b = true ↔ spansR d x) : Ans 18 #[boxV x, .int .i64 d] (.bool b) := fun w => by
  have J := rules8
  have HB : Hid (b = true ↔ ∀ j : Nat, j < 5 → placeR d (j : Int) (x.at (j : Int))) := hb.trans spansR_at
  have HIx : Hid (∀ (j : Nat) (w : World), j < 5 → (Instr.index 38 (boxV x) (.int .i64 (j : Int))).run Try.prog w = .ok (spV (x.at (j : Int))) w) := fun j w hj => ix_at x hj w
  clear hb
  obtain ⟨S, hS⟩ : ∃ S : Nat → Sp, ∀ j : Nat, x.at (j : Int) = S j := ⟨_, fun _ => rfl⟩
  simp only [hS] at HB HIx
  clear hS
  obtain ⟨⟨ra, rb⟩, ⟨rc, rd⟩, ⟨re, rf⟩, ⟨rg, rh⟩, ⟨ri, rj⟩⟩ := x
  simp only [boxV] at HIx ⊢
  go_enter Try.func18, Try.ntmps18
  go_upto_region 2 with fail
  go_loopg [8] 5 (fun r i wr => ∃ j : Nat, j + r = 5 ∧ i = .int .i64 (j : Int) ∧ Hid (∀ q, q < j → placeR d (q : Int) (S q)) ∧ Hid (Jk w wr))
  case atStart => exact ⟨0, by omega, rfl, hid fun q hq => by omega, hid ((Jk.refl w).alloc _)⟩
  case round =>
    obtain ⟨j, hj, rfl, HP, HJ⟩ := hrel
    by_cases hk : gk = 0
    · subst hk
      obtain rfl : j = 5 := by omega
      obtain rfl : true = b := (HB.out.2 HP.out).symm
      go_wp2
      go_ret
      exact ⟨rfl, HJ.out⟩
    · obtain ⟨r, rfl⟩ : ∃ r, gk = r + 1 := ⟨gk - 1, by omega⟩
      have hj5 : j < 5 := by omega
      have hj5' : (j : Int) < 5 := by omega
      have hix := fun w => HIx.out j w hj5
      have HPj : Hid (b = true → placeR d (j : Int) (S j)) := fun e => HB.out.1 e j hj5
      have HNx : Hid (placeR d (j : Int) (S j) → ∀ q, q < j + 1 → placeR d (q : Int) (S q)) := fun h q hq => by
        rcases Nat.lt_succ_iff_lt_or_eq.1 hq with h1 | rfl
        · exact HP.out q h1
        · exact h
      obtain ⟨⟨sa, sb⟩, hSj⟩ : ∃ s, S j = s := ⟨_, rfl⟩
      rw [hSj] at HPj HNx
      simp only [hSj, spV] at hix
      clear hSj HB HIx HP
      have heq := fun w => eq_nil sa sb w
      have HE := hid (fun (bb : Bool) (h : emB sa sb = bb) => empty_is h)
      have HF := hid (fun (n : Int) (bb : Bool) (h : fit32 n = bb) => fits_is h)
      obtain ⟨em, hem⟩ : ∃ z, emB sa sb = z := ⟨_, rfl⟩
      obtain ⟨fl, hfl⟩ : ∃ z, fit32 sa = z := ⟨_, rfl⟩
      obtain ⟨fh, hfh⟩ : ∃ z, fit32 sb = z := ⟨_, rfl⟩
      have HEm := hid (empty_is hem)
      have HFl := hid (fits_is hfl)
      have HFh := hid (fits_is hfh)
      have Hem : Hid (emB sa sb = em ∧ fit32 sa = fl ∧ fit32 sb = fh) := ⟨hem, hfl, hfh⟩
      clear hem hfl hfh HE HF
      have HNo : Hid ((¬ placeR d (j : Int) ⟨sa, sb⟩) → false = b) := fun h => (Bool.eq_false_iff.2 fun e => h (HPj.out e)).symm
      by_cases hd : d ≤ (j : Int)
      · have hd' : (j : Int) ≥ d := hd
        by_cases hs : sa = 0 ∧ sb = 0
        · obtain ⟨rfl, rfl⟩ := hs
          have HPl : Hid (placeR d (j : Int) ⟨0, 0⟩) := ⟨fun h => by omega, fun _ => ⟨rfl, rfl⟩⟩
          obtain ⟨e1, e2, e3⟩ := Hem.out
          obtain rfl : false = em := e1 ▸ by decide
          obtain rfl : true = fl := e2 ▸ by decide
          obtain rfl : true = fh := e3 ▸ by decide
          clear e1 e2 e3
          go_wp2_with (first | (go_at_call 31; refine (HEm.out _).mono ?_; rintro e w1 ⟨rfl, X1, rfl⟩) | (go_at_call 32; refine (Ans.on (by with_reducible first | exact HFl.out | exact HFh.out) _).mono ?_; rintro e w2 ⟨rfl, X2, rfl⟩))
          go_roundg r
          case measure => omega
          case rel => exact ⟨j + 1, by omega, by go_num, hid (HNx.out HPl.out), by have := HJ.out; exact hid (by repeat (with_reducible first | exact this | apply Jk.junk | apply Jk.alloc))⟩
        · obtain rfl : false = b := HNo.out fun h => hs (h.2 hd)
          have hq : ((sa == 0) && (sb == 0)) = false := by
            rw [Bool.eq_false_iff]
            intro e
            simp at e
            exact hs e
          go_wp2_with (first | (go_at_call 31; refine (HEm.out _).mono ?_; rintro e w1 ⟨rfl, X1, rfl⟩) | (go_at_call 32; refine (Ans.on (by with_reducible first | exact HFl.out | exact HFh.out) _).mono ?_; rintro e w2 ⟨rfl, X2, rfl⟩))
          go_ret
          exact ⟨rfl, by have := HJ.out; repeat (with_reducible first | exact this | apply Jk.junk | apply Jk.alloc)⟩
      · cases em
        · cases fl
          · obtain rfl : false = b := HNo.out fun h => by
              have h1 := (h.1 (by omega)).2.1
              have := Hem.out.2.1
              simp only at h1
              rw [h1] at this
              cases this
            go_wp2_with (first | (go_at_call 31; refine (HEm.out _).mono ?_; rintro e w1 ⟨rfl, X1, rfl⟩) | (go_at_call 32; refine (Ans.on (by with_reducible first | exact HFl.out | exact HFh.out) _).mono ?_; rintro e w2 ⟨rfl, X2, rfl⟩))
            go_ret
            exact ⟨rfl, by have := HJ.out; repeat (with_reducible first | exact this | apply Jk.junk | apply Jk.alloc)⟩
          · cases fh
            · obtain rfl : false = b := HNo.out fun h => by
                have h1 := (h.1 (by omega)).2.2
                have := Hem.out.2.2
                simp only at h1
                rw [h1] at this
                cases this
              go_wp2_with (first | (go_at_call 31; refine (HEm.out _).mono ?_; rintro e w1 ⟨rfl, X1, rfl⟩) | (go_at_call 32; refine (Ans.on (by with_reducible first | exact HFl.out | exact HFh.out) _).mono ?_; rintro e w2 ⟨rfl, X2, rfl⟩))
              go_ret
              exact ⟨rfl, by have := HJ.out; repeat (with_reducible first | exact this | apply Jk.junk | apply Jk.alloc)⟩
            · have HPl : Hid (placeR d (j : Int) ⟨sa, sb⟩) := ⟨fun _ => ⟨by have := Hem.out.1; simp [emB] at this; exact this, Hem.out.2.1, Hem.out.2.2⟩, fun h => absurd h hd⟩
              go_wp2_with (first | (go_at_call 31; refine (HEm.out _).mono ?_; rintro e w1 ⟨rfl, X1, rfl⟩) | (go_at_call 32; refine (Ans.on (by with_reducible first | exact HFl.out | exact HFh.out) _).mono ?_; rintro e w2 ⟨rfl, X2, rfl⟩))
              go_roundg r
              case measure => omega
              case rel => exact ⟨j + 1, by omega, by go_num, hid (HNx.out HPl.out), by have := HJ.out; exact hid (by repeat (with_reducible first | exact this | apply Jk.junk | apply Jk.alloc))⟩
        · obtain rfl : false = b := HNo.out fun h => by
            have h1 := (h.1 (by omega)).1
            have := Hem.out.1
            simp [emB] at this
            simp only at h1
            omega
          go_wp2_with (first | (go_at_call 31; refine (HEm.out _).mono ?_; rintro e w1 ⟨rfl, X1, rfl⟩) | (go_at_call 32; refine (Ans.on (by with_reducible first | exact HFl.out | exact HFh.out) _).mono ?_; rintro e w2 ⟨rfl, X2, rfl⟩))
          go_ret
          exact ⟨rfl, by have := HJ.out; repeat (with_reducible first | exact this | apply Jk.junk | apply Jk.alloc)⟩

end Go.Proofs.Ytndnijdpafcmoaa
