/- The law BoxParts of chapter 5 answers true for every box, every point and every three ints: what is in a box is in one part of its cut, at any place; elsewhere both parts are as the box; of no place they are the box. -/
import Derived.Test.YtdmkaaehpcnpfaaLawBoxRuns
import Derived.Test.YtdmkaaehpcnpfaaBoxD
import Derived.Test.YtdmkaaehpcnpfaaMathB3
import Derived.Test.YtdmkaaehpcnpfaaAns
import Derived.Test.YtdmkaaehpcnpfaaWithinB
import Derived.Deep.DeepCutAuto
import Derived.Deep.LoopGhost
namespace Go.Proofs.Ytdmkaaehpcnpfaa
open Go.RowKit M

/-- is the twin in its span, and are the first j features in theirs? -/
def hasTo (x : Bx) (p : Pt) (tw : Int) : Nat → Bool
  | 0 => x.e.has tw
  | 1 => x.e.has tw && x.a.has p.a
  | 2 => x.e.has tw && x.a.has p.a && x.b.has p.b
  | 3 => x.e.has tw && x.a.has p.a && x.b.has p.b && x.c.has p.c
  | _ => x.has p tw

theorem hasTo_four (x : Bx) (p : Pt) (tw : Int) : hasTo x p tw 4 = (hasTo x p tw 3 && x.d.has p.d) := by
  simp only [hasTo, Bx.has]
  cases x.a.has p.a <;> cases x.b.has p.b <;> cases x.c.has p.c <;> cases x.d.has p.d <;> cases x.e.has tw <;> rfl
/-- a point's number at a place, or the twin -/
def num (p : Pt) (tw k : Int) : Int := if k = 0 then p.a else if k = 1 then p.b else if k = 2 then p.c else if k = 3 then p.d else tw
abbrev ptC (p : Pt) : Obj := .cells #[.int .i64 p.a, .int .i64 p.b, .int .i64 p.c, .int .i64 p.d] 34
/-- two boxes that are as x but at place k -/
def But (x y z : Bx) (k : Int) : Prop := (k = 0 → ∃ s t : Sp, y = { x with a := s } ∧ z = { x with a := t }) ∧ (k = 1 → ∃ s t : Sp, y = { x with b := s } ∧ z = { x with b := t }) ∧ (k = 2 → ∃ s t : Sp, y = { x with c := s } ∧ z = { x with c := t }) ∧
  (k = 3 → ∃ s t : Sp, y = { x with d := s } ∧ z = { x with d := t }) ∧ (k = 4 → ∃ s t : Sp, y = { x with e := s } ∧ z = { x with e := t })

theorem but_else {x : Bx} {k : Int} {ya yb yc yd ye za zb zc zd ze : Sp} (h : But x ⟨ya, yb, yc, yd, ye⟩ ⟨za, zb, zc, zd, ze⟩ k) (k0 : 0 ≤ k) (k4 : k ≤ 4) :
    (¬ k = 0 → ya = x.a ∧ za = x.a) ∧ (¬ k = 1 → yb = x.b ∧ zb = x.b) ∧ (¬ k = 2 → yc = x.c ∧ zc = x.c) ∧ (¬ k = 3 → yd = x.d ∧ zd = x.d) ∧ (¬ k = 4 → ye = x.e ∧ ze = x.e) := by
  obtain ⟨h0, h1, h2, h3, h4⟩ := h
  have hk5 : k = 0 ∨ k = 1 ∨ k = 2 ∨ k = 3 ∨ k = 4 := by omega
  rcases hk5 with rfl | rfl | rfl | rfl | rfl
  · obtain ⟨s, t, e1, e2⟩ := h0 rfl; cases e1; cases e2; simp
  · obtain ⟨s, t, e1, e2⟩ := h1 rfl; cases e1; cases e2; simp
  · obtain ⟨s, t, e1, e2⟩ := h2 rfl; cases e1; cases e2; simp
  · obtain ⟨s, t, e1, e2⟩ := h3 rfl; cases e1; cases e2; simp
  · obtain ⟨s, t, e1, e2⟩ := h4 rfl; cases e1; cases e2; simp

set_option maxRecDepth 100000 in
set_option maxHeartbeats 4000000 in
theorem parts_core (x y z : Bx) (p : Pt) (tw pl k t N : Int) (I : Bool) (w : World) (k0 : 0 ≤ k) (k4 : k ≤ 4) (hN : Hid (num p tw k = N)) (hB : Hid (But x y z k)) (hI : Hid (x.has p tw = I))
    (hk : Hid (AnsP 12 #[.int .i64 pl, .int .i64 0, .int .i64 4] (.int .i64 k)))
    (hc : Hid (Ans 10 #[boxV x, .int .i64 k, .int .i64 t] (.tuple #[boxV y, boxV z])))
    (hn : Hid (Ans 10 #[boxV x, .int .i64 (-1 - k), .int .i64 t] (.tuple #[boxV x, boxV x])))
    (hf : Hid (Ans 10 #[boxV x, .int .i64 (5 + k), .int .i64 t] (.tuple #[boxV x, boxV x])))
    (hx : Hid (Ans 13 #[boxV x, ptV p, .int .i64 tw] (.bool I)))
    (hy : Hid (Ans 13 #[boxV y, ptV p, .int .i64 tw] (.bool (I && decide (N ≤ t)))))
    (hz : Hid (Ans 13 #[boxV z, ptV p, .int .i64 tw] (.bool (I && decide (t < N)))))
    (h1 : Hid (Ans 14 #[boxV y, boxV x] (.bool true)))
    (h2 : Hid (Ans 14 #[boxV z, boxV x] (.bool true))) :
    Calls Try.prog 4 #[boxV x, ptV p, .int .i64 tw, .int .i64 pl, .int .i64 t] w fun e w' => e = .returned (.bool true) ∧ Jk w w' := by
  have J := rules20
  go_enter Try.func4, Try.ntmps4
  go_upto_if 34 with (first | (go_at_call 12; refine (hk.out.on _).mono ?_; rintro e w1 ⟨rfl, rfl⟩) | (go_at_call 10; refine (hc.out.on _).mono ?_; rintro e w1 ⟨rfl, X1, rfl⟩))
  go_cut [14] (fun o wc => o = .int .i64 N ∧ wc = ((junk ((w.alloc (boxC x)).alloc (ptC p)) X1).alloc (boxC y)).alloc (boxC z))
  case first =>
    have hk5 : k = 0 ∨ k = 1 ∨ k = 2 ∨ k = 3 ∨ k = 4 := by omega
    rcases hk5 with rfl | rfl | rfl | rfl | rfl
    all_goals
      obtain rfl := hN.out
      go_wp2
      go_meet
      case rel => exact ⟨rfl, rfl⟩
  case rest =>
    obtain ⟨rfl, rfl⟩ := hcut
    go_upto_region 7 with (first | (go_at_call 13; refine (hx.out.on _).mono ?_; rintro e w1 ⟨rfl, X2, rfl⟩))
    go_cut [16] (fun o wc => o = .bool (x.e.has tw) ∧ wc = junk (((junk ((w.alloc (boxC x)).alloc (ptC p)) X1).alloc (boxC y)).alloc (boxC z)) X2)
    case first =>
      by_cases g1 : x.e.lo ≤ tw
      · by_cases g2 : tw ≤ x.e.hi
        · have hr : x.e.has tw = true := by simp [Sp.has, hasB, g1, g2]
          go_wp2
          go_meet
          case rel => exact ⟨by rw [hr], rfl⟩
        · have hr : x.e.has tw = false := by simp [Sp.has, hasB, g2]
          go_wp2
          go_meet
          case rel => exact ⟨by rw [hr], rfl⟩
      · have hr : x.e.has tw = false := by simp [Sp.has, hasB, g1]
        go_wp2
        go_meet
        case rel => exact ⟨by rw [hr], rfl⟩
    case rest =>
      obtain ⟨rfl, rfl⟩ := hcut
      go_wp2_with fail
      go_loopg [16, 54] 4 (fun k v i wr => ∃ j : Nat, j + k = 4 ∧ i = .int .i64 (j : Int) ∧ v = .bool (hasTo x p tw j) ∧ ∃ X, wr = junk (((junk ((w.alloc (boxC x)).alloc (ptC p)) X1).alloc (boxC y)).alloc (boxC z)) X)
      case atStart => exact ⟨0, by omega, rfl, rfl, ((Jk.refl _).junk _)⟩
      case round =>
        obtain ⟨j, hj, rfl, rfl, X3, rfl⟩ := hrel
        have hc5 : j = 0 ∨ j = 1 ∨ j = 2 ∨ j = 3 ∨ j = 4 := by omega
        rcases hc5 with rfl | rfl | rfl | rfl | rfl
        · obtain ⟨V, hV⟩ : ∃ V, hasTo x p tw 0 = V := ⟨_, rfl⟩
          have hS : Hid (hasTo x p tw 1 = (V && x.a.has p.a)) := by rw [← hV]; rfl
          simp only [hV]
          have HV : Hid (hasTo x p tw 0 = V) := hV
          clear hV
          cases V
          · go_wp2_with fail
            refine region_junk (by kernel_rfl) (by kernel_rfl) ?_
            repeat (go_big_quiet_step (first | exact rfl))
            refine wpQuiet_nil ?_
            rintro _ ⟨X4, rfl⟩
            go_wp2_with fail
            go_roundg (gk - 1)
            case measure => omega
            case rel => exact ⟨1, by omega, by go_num, by rw [hS.out]; rfl, ((Jk.refl _).junk _).junk _⟩
          · by_cases g1 : x.a.lo ≤ p.a
            · by_cases g2 : p.a ≤ x.a.hi
              · have hr : x.a.has p.a = true := by simp [Sp.has, hasB, g1, g2]
                have HR : Hid (hasTo x p tw 1 = true) := by rw [hS.out, hr]; rfl
                clear hr
                go_wp2_with fail
                refine region_junk (by kernel_rfl) (by kernel_rfl) ?_
                repeat (go_big_quiet_step (first | exact rfl))
                refine wpQuiet_nil ?_
                rintro _ ⟨X4, rfl⟩
                go_wp2_with fail
                go_roundg (gk - 1)
                case measure => omega
                case rel => exact ⟨1, by omega, by go_num, by rw [HR.out]; try simp [g2], ((Jk.refl _).junk _).junk _⟩
              · have hr : x.a.has p.a = false := by simp [Sp.has, hasB, g2]
                have HR : Hid (hasTo x p tw 1 = false) := by rw [hS.out, hr]; rfl
                have g3 : decide (p.a ≤ x.a.hi) = false := by simpa using g2
                clear hr
                go_wp2_with fail
                refine region_junk (by kernel_rfl) (by kernel_rfl) ?_
                repeat (go_big_quiet_step (first | exact rfl))
                refine wpQuiet_nil ?_
                rintro _ ⟨X4, rfl⟩
                go_wp2_with fail
                go_roundg (gk - 1)
                case measure => omega
                case rel => exact ⟨1, by omega, by go_num, by rw [HR.out]; try simp [g2], ((Jk.refl _).junk _).junk _⟩
            · have hr : x.a.has p.a = false := by simp [Sp.has, hasB, g1]
              have HR : Hid (hasTo x p tw 1 = false) := by rw [hS.out, hr]; rfl
              have g3 : decide (x.a.lo ≤ p.a) = false := by simpa using g1
              clear hr
              go_wp2_with fail
              refine region_junk (by kernel_rfl) (by kernel_rfl) ?_
              repeat (go_big_quiet_step (first | exact rfl))
              refine wpQuiet_nil ?_
              rintro _ ⟨X4, rfl⟩
              go_wp2_with fail
              go_roundg (gk - 1)
              case measure => omega
              case rel => exact ⟨1, by omega, by go_num, by rw [HR.out], ((Jk.refl _).junk _).junk _⟩
        · obtain ⟨V, hV⟩ : ∃ V, hasTo x p tw 1 = V := ⟨_, rfl⟩
          have hS : Hid (hasTo x p tw 2 = (V && x.b.has p.b)) := by rw [← hV]; rfl
          simp only [hV]
          have HV : Hid (hasTo x p tw 1 = V) := hV
          clear hV
          cases V
          · go_wp2_with fail
            refine region_junk (by kernel_rfl) (by kernel_rfl) ?_
            repeat (go_big_quiet_step (first | exact rfl))
            refine wpQuiet_nil ?_
            rintro _ ⟨X4, rfl⟩
            go_wp2_with fail
            go_roundg (gk - 1)
            case measure => omega
            case rel => exact ⟨2, by omega, by go_num, by rw [hS.out]; rfl, ((Jk.refl _).junk _).junk _⟩
          · by_cases g1 : x.b.lo ≤ p.b
            · by_cases g2 : p.b ≤ x.b.hi
              · have hr : x.b.has p.b = true := by simp [Sp.has, hasB, g1, g2]
                have HR : Hid (hasTo x p tw 2 = true) := by rw [hS.out, hr]; rfl
                clear hr
                go_wp2_with fail
                refine region_junk (by kernel_rfl) (by kernel_rfl) ?_
                repeat (go_big_quiet_step (first | exact rfl))
                refine wpQuiet_nil ?_
                rintro _ ⟨X4, rfl⟩
                go_wp2_with fail
                go_roundg (gk - 1)
                case measure => omega
                case rel => exact ⟨2, by omega, by go_num, by rw [HR.out]; try simp [g2], ((Jk.refl _).junk _).junk _⟩
              · have hr : x.b.has p.b = false := by simp [Sp.has, hasB, g2]
                have HR : Hid (hasTo x p tw 2 = false) := by rw [hS.out, hr]; rfl
                have g3 : decide (p.b ≤ x.b.hi) = false := by simpa using g2
                clear hr
                go_wp2_with fail
                refine region_junk (by kernel_rfl) (by kernel_rfl) ?_
                repeat (go_big_quiet_step (first | exact rfl))
                refine wpQuiet_nil ?_
                rintro _ ⟨X4, rfl⟩
                go_wp2_with fail
                go_roundg (gk - 1)
                case measure => omega
                case rel => exact ⟨2, by omega, by go_num, by rw [HR.out]; try simp [g2], ((Jk.refl _).junk _).junk _⟩
            · have hr : x.b.has p.b = false := by simp [Sp.has, hasB, g1]
              have HR : Hid (hasTo x p tw 2 = false) := by rw [hS.out, hr]; rfl
              have g3 : decide (x.b.lo ≤ p.b) = false := by simpa using g1
              clear hr
              go_wp2_with fail
              refine region_junk (by kernel_rfl) (by kernel_rfl) ?_
              repeat (go_big_quiet_step (first | exact rfl))
              refine wpQuiet_nil ?_
              rintro _ ⟨X4, rfl⟩
              go_wp2_with fail
              go_roundg (gk - 1)
              case measure => omega
              case rel => exact ⟨2, by omega, by go_num, by rw [HR.out], ((Jk.refl _).junk _).junk _⟩
        · obtain ⟨V, hV⟩ : ∃ V, hasTo x p tw 2 = V := ⟨_, rfl⟩
          have hS : Hid (hasTo x p tw 3 = (V && x.c.has p.c)) := by rw [← hV]; rfl
          simp only [hV]
          have HV : Hid (hasTo x p tw 2 = V) := hV
          clear hV
          cases V
          · go_wp2_with fail
            refine region_junk (by kernel_rfl) (by kernel_rfl) ?_
            repeat (go_big_quiet_step (first | exact rfl))
            refine wpQuiet_nil ?_
            rintro _ ⟨X4, rfl⟩
            go_wp2_with fail
            go_roundg (gk - 1)
            case measure => omega
            case rel => exact ⟨3, by omega, by go_num, by rw [hS.out]; rfl, ((Jk.refl _).junk _).junk _⟩
          · by_cases g1 : x.c.lo ≤ p.c
            · by_cases g2 : p.c ≤ x.c.hi
              · have hr : x.c.has p.c = true := by simp [Sp.has, hasB, g1, g2]
                have HR : Hid (hasTo x p tw 3 = true) := by rw [hS.out, hr]; rfl
                clear hr
                go_wp2_with fail
                refine region_junk (by kernel_rfl) (by kernel_rfl) ?_
                repeat (go_big_quiet_step (first | exact rfl))
                refine wpQuiet_nil ?_
                rintro _ ⟨X4, rfl⟩
                go_wp2_with fail
                go_roundg (gk - 1)
                case measure => omega
                case rel => exact ⟨3, by omega, by go_num, by rw [HR.out]; try simp [g2], ((Jk.refl _).junk _).junk _⟩
              · have hr : x.c.has p.c = false := by simp [Sp.has, hasB, g2]
                have HR : Hid (hasTo x p tw 3 = false) := by rw [hS.out, hr]; rfl
                have g3 : decide (p.c ≤ x.c.hi) = false := by simpa using g2
                clear hr
                go_wp2_with fail
                refine region_junk (by kernel_rfl) (by kernel_rfl) ?_
                repeat (go_big_quiet_step (first | exact rfl))
                refine wpQuiet_nil ?_
                rintro _ ⟨X4, rfl⟩
                go_wp2_with fail
                go_roundg (gk - 1)
                case measure => omega
                case rel => exact ⟨3, by omega, by go_num, by rw [HR.out]; try simp [g2], ((Jk.refl _).junk _).junk _⟩
            · have hr : x.c.has p.c = false := by simp [Sp.has, hasB, g1]
              have HR : Hid (hasTo x p tw 3 = false) := by rw [hS.out, hr]; rfl
              have g3 : decide (x.c.lo ≤ p.c) = false := by simpa using g1
              clear hr
              go_wp2_with fail
              refine region_junk (by kernel_rfl) (by kernel_rfl) ?_
              repeat (go_big_quiet_step (first | exact rfl))
              refine wpQuiet_nil ?_
              rintro _ ⟨X4, rfl⟩
              go_wp2_with fail
              go_roundg (gk - 1)
              case measure => omega
              case rel => exact ⟨3, by omega, by go_num, by rw [HR.out], ((Jk.refl _).junk _).junk _⟩
        · obtain ⟨V, hV⟩ : ∃ V, hasTo x p tw 3 = V := ⟨_, rfl⟩
          have hS : Hid (hasTo x p tw 4 = (V && x.d.has p.d)) := by rw [← hV]; exact hasTo_four x p tw
          simp only [hV]
          have HV : Hid (hasTo x p tw 3 = V) := hV
          clear hV
          cases V
          · go_wp2_with fail
            refine region_junk (by kernel_rfl) (by kernel_rfl) ?_
            repeat (go_big_quiet_step (first | exact rfl))
            refine wpQuiet_nil ?_
            rintro _ ⟨X4, rfl⟩
            go_wp2_with fail
            go_roundg (gk - 1)
            case measure => omega
            case rel => exact ⟨4, by omega, by go_num, by rw [hS.out]; rfl, ((Jk.refl _).junk _).junk _⟩
          · by_cases g1 : x.d.lo ≤ p.d
            · by_cases g2 : p.d ≤ x.d.hi
              · have hr : x.d.has p.d = true := by simp [Sp.has, hasB, g1, g2]
                have HR : Hid (hasTo x p tw 4 = true) := by rw [hS.out, hr]; rfl
                clear hr
                go_wp2_with fail
                refine region_junk (by kernel_rfl) (by kernel_rfl) ?_
                repeat (go_big_quiet_step (first | exact rfl))
                refine wpQuiet_nil ?_
                rintro _ ⟨X4, rfl⟩
                go_wp2_with fail
                go_roundg (gk - 1)
                case measure => omega
                case rel => exact ⟨4, by omega, by go_num, by rw [HR.out]; try simp [g2], ((Jk.refl _).junk _).junk _⟩
              · have hr : x.d.has p.d = false := by simp [Sp.has, hasB, g2]
                have HR : Hid (hasTo x p tw 4 = false) := by rw [hS.out, hr]; rfl
                have g3 : decide (p.d ≤ x.d.hi) = false := by simpa using g2
                clear hr
                go_wp2_with fail
                refine region_junk (by kernel_rfl) (by kernel_rfl) ?_
                repeat (go_big_quiet_step (first | exact rfl))
                refine wpQuiet_nil ?_
                rintro _ ⟨X4, rfl⟩
                go_wp2_with fail
                go_roundg (gk - 1)
                case measure => omega
                case rel => exact ⟨4, by omega, by go_num, by rw [HR.out]; try simp [g2], ((Jk.refl _).junk _).junk _⟩
            · have hr : x.d.has p.d = false := by simp [Sp.has, hasB, g1]
              have HR : Hid (hasTo x p tw 4 = false) := by rw [hS.out, hr]; rfl
              have g3 : decide (x.d.lo ≤ p.d) = false := by simpa using g1
              clear hr
              go_wp2_with fail
              refine region_junk (by kernel_rfl) (by kernel_rfl) ?_
              repeat (go_big_quiet_step (first | exact rfl))
              refine wpQuiet_nil ?_
              rintro _ ⟨X4, rfl⟩
              go_wp2_with fail
              go_roundg (gk - 1)
              case measure => omega
              case rel => exact ⟨4, by omega, by go_num, by rw [HR.out], ((Jk.refl _).junk _).junk _⟩
        · have e4 : hasTo x p tw 4 = I := hI.out
          simp only [e4]
          clear e4
          go_upto_region 13 with fail
          go_cut [107] (fun o wc => o = .bool false ∧ Jk (((junk ((w.alloc (boxC x)).alloc (ptC p)) X1).alloc (boxC y)).alloc (boxC z)) wc)
          case first =>
            cases I
            · go_wp2_with (first | (go_at_call 13; refine (Ans.on (by with_reducible first | exact hy.out | exact hz.out) _).mono ?_; rintro e w1 ⟨rfl, X5, rfl⟩))
              go_meet
              case rel => exact ⟨rfl, by repeat (with_reducible first | exact Jk.refl _ | apply Jk.junk | apply Jk.alloc)⟩
            · by_cases g : N ≤ t
              · have g2 : ¬ t < N := by omega
                go_wp2_with (first | (go_at_call 13; refine (Ans.on (by with_reducible first | exact hy.out | exact hz.out) _).mono ?_; rintro e w1 ⟨rfl, X5, rfl⟩))
                go_meet
                case rel => exact ⟨rfl, by repeat (with_reducible first | exact Jk.refl _ | apply Jk.junk | apply Jk.alloc)⟩
              · have g2 : t < N := by omega
                go_wp2_with (first | (go_at_call 13; refine (Ans.on (by with_reducible first | exact hy.out | exact hz.out) _).mono ?_; rintro e w1 ⟨rfl, X5, rfl⟩))
                go_meet
                case rel => exact ⟨rfl, by repeat (with_reducible first | exact Jk.refl _ | apply Jk.junk | apply Jk.alloc)⟩
          case rest =>
            obtain ⟨rfl, X6, rfl⟩ := hcut
            clear hy hz hx hc hk hI hN
            go_wp2_with fail
            have E : ∀ w : World, (Op.equalIn 10000 25 (boxV x) (boxV x)).run Try.prog w = .ok true w := fun w => by rw [eq_box, Bx.eqB_self]
            obtain ⟨ya, yb, yc, yd, ye⟩ := y
            obtain ⟨za, zb, zc, zd, ze⟩ := z
            obtain ⟨b0, b1, b2, b3, b4⟩ := but_else hB.out k0 k4
            have B0 : Hid (¬ k = 0 → ya = x.a ∧ za = x.a) := b0
            have B1 : Hid (¬ k = 1 → yb = x.b ∧ zb = x.b) := b1
            have B2 : Hid (¬ k = 2 → yc = x.c ∧ zc = x.c) := b2
            have B3 : Hid (¬ k = 3 → yd = x.d ∧ zd = x.d) := b3
            have B4 : Hid (¬ k = 4 → ye = x.e ∧ ze = x.e) := b4
            clear hB b0 b1 b2 b3 b4
            go_loopg [108] 5 (fun k i wr => ∃ j : Nat, j + k = 5 ∧ i = .int .i64 (j : Int) ∧ ∃ X, wr = junk (((junk ((w.alloc (boxC x)).alloc (ptC p)) X1).alloc (boxC ⟨ya, yb, yc, yd, ye⟩)).alloc (boxC ⟨za, zb, zc, zd, ze⟩)) X)
            case atStart => exact ⟨0, by omega, rfl, ((Jk.refl _).junk _)⟩
            case round =>
              obtain ⟨j, hj2, rfl, X8, rfl⟩ := hrel
              have hc6 : j = 0 ∨ j = 1 ∨ j = 2 ∨ j = 3 ∨ j = 4 ∨ j = 5 := by omega
              rcases hc6 with rfl | rfl | rfl | rfl | rfl | rfl
              · by_cases g : k = 0
                · subst g
                  go_wp2_with fail
                  refine region_junk (by kernel_rfl) (by kernel_rfl) ?_
                  repeat (go_big_quiet_step (first | exact rfl))
                  refine wpQuiet_nil ?_
                  rintro _ ⟨X9, rfl⟩
                  go_wp2_with fail
                  go_roundg (gk - 1)
                  case measure => omega
                  case rel => exact ⟨1, by omega, by go_num, ((Jk.refl _).junk _).junk _⟩
                · obtain ⟨rfl, rfl⟩ := B0.out g
                  have g2 : ((0 : Int) == k) = false := by simp; omega
                  have g3 : ((0 : Int) != k) = true := by simp; omega
                  go_wp2_with fail
                  refine region_junk (by kernel_rfl) (by kernel_rfl) ?_
                  repeat (go_big_quiet_step (first | exact rfl))
                  refine wpQuiet_nil ?_
                  rintro _ ⟨X9, rfl⟩
                  go_wp2_with fail
                  go_roundg (gk - 1)
                  case measure => omega
                  case rel => exact ⟨1, by omega, by go_num, ((Jk.refl _).junk _).junk _⟩
              · by_cases g : k = 1
                · subst g
                  go_wp2_with fail
                  refine region_junk (by kernel_rfl) (by kernel_rfl) ?_
                  repeat (go_big_quiet_step (first | exact rfl))
                  refine wpQuiet_nil ?_
                  rintro _ ⟨X9, rfl⟩
                  go_wp2_with fail
                  go_roundg (gk - 1)
                  case measure => omega
                  case rel => exact ⟨2, by omega, by go_num, ((Jk.refl _).junk _).junk _⟩
                · obtain ⟨rfl, rfl⟩ := B1.out g
                  have g2 : ((1 : Int) == k) = false := by simp; omega
                  have g3 : ((1 : Int) != k) = true := by simp; omega
                  go_wp2_with fail
                  refine region_junk (by kernel_rfl) (by kernel_rfl) ?_
                  repeat (go_big_quiet_step (first | exact rfl))
                  refine wpQuiet_nil ?_
                  rintro _ ⟨X9, rfl⟩
                  go_wp2_with fail
                  go_roundg (gk - 1)
                  case measure => omega
                  case rel => exact ⟨2, by omega, by go_num, ((Jk.refl _).junk _).junk _⟩
              · by_cases g : k = 2
                · subst g
                  go_wp2_with fail
                  refine region_junk (by kernel_rfl) (by kernel_rfl) ?_
                  repeat (go_big_quiet_step (first | exact rfl))
                  refine wpQuiet_nil ?_
                  rintro _ ⟨X9, rfl⟩
                  go_wp2_with fail
                  go_roundg (gk - 1)
                  case measure => omega
                  case rel => exact ⟨3, by omega, by go_num, ((Jk.refl _).junk _).junk _⟩
                · obtain ⟨rfl, rfl⟩ := B2.out g
                  have g2 : ((2 : Int) == k) = false := by simp; omega
                  have g3 : ((2 : Int) != k) = true := by simp; omega
                  go_wp2_with fail
                  refine region_junk (by kernel_rfl) (by kernel_rfl) ?_
                  repeat (go_big_quiet_step (first | exact rfl))
                  refine wpQuiet_nil ?_
                  rintro _ ⟨X9, rfl⟩
                  go_wp2_with fail
                  go_roundg (gk - 1)
                  case measure => omega
                  case rel => exact ⟨3, by omega, by go_num, ((Jk.refl _).junk _).junk _⟩
              · by_cases g : k = 3
                · subst g
                  go_wp2_with fail
                  refine region_junk (by kernel_rfl) (by kernel_rfl) ?_
                  repeat (go_big_quiet_step (first | exact rfl))
                  refine wpQuiet_nil ?_
                  rintro _ ⟨X9, rfl⟩
                  go_wp2_with fail
                  go_roundg (gk - 1)
                  case measure => omega
                  case rel => exact ⟨4, by omega, by go_num, ((Jk.refl _).junk _).junk _⟩
                · obtain ⟨rfl, rfl⟩ := B3.out g
                  have g2 : ((3 : Int) == k) = false := by simp; omega
                  have g3 : ((3 : Int) != k) = true := by simp; omega
                  go_wp2_with fail
                  refine region_junk (by kernel_rfl) (by kernel_rfl) ?_
                  repeat (go_big_quiet_step (first | exact rfl))
                  refine wpQuiet_nil ?_
                  rintro _ ⟨X9, rfl⟩
                  go_wp2_with fail
                  go_roundg (gk - 1)
                  case measure => omega
                  case rel => exact ⟨4, by omega, by go_num, ((Jk.refl _).junk _).junk _⟩
              · by_cases g : k = 4
                · subst g
                  go_wp2_with fail
                  refine region_junk (by kernel_rfl) (by kernel_rfl) ?_
                  repeat (go_big_quiet_step (first | exact rfl))
                  refine wpQuiet_nil ?_
                  rintro _ ⟨X9, rfl⟩
                  go_wp2_with fail
                  go_roundg (gk - 1)
                  case measure => omega
                  case rel => exact ⟨5, by omega, by go_num, ((Jk.refl _).junk _).junk _⟩
                · obtain ⟨rfl, rfl⟩ := B4.out g
                  have g2 : ((4 : Int) == k) = false := by simp; omega
                  have g3 : ((4 : Int) != k) = true := by simp; omega
                  go_wp2_with fail
                  refine region_junk (by kernel_rfl) (by kernel_rfl) ?_
                  repeat (go_big_quiet_step (first | exact rfl))
                  refine wpQuiet_nil ?_
                  rintro _ ⟨X9, rfl⟩
                  go_wp2_with fail
                  go_roundg (gk - 1)
                  case measure => omega
                  case rel => exact ⟨5, by omega, by go_num, ((Jk.refl _).junk _).junk _⟩
              · clear B0 B1 B2 B3 B4
                go_wp2_with (first | (go_at_call 10; refine (Ans.on (by with_reducible first | exact hn.out | exact hf.out) _).mono ?_; rintro e w1 ⟨rfl, X5, rfl⟩) | (go_at_call 14; refine (Ans.on (by with_reducible first | exact h1.out | exact h2.out) _).mono ?_; rintro e w1 ⟨rfl, X5, rfl⟩) | (go_at_call 3; refine (boxRuns_any _).mono ?_; rintro e w1 ⟨rfl, X5, rfl⟩))
                go_ret
                exact ⟨rfl, by repeat (with_reducible first | exact Jk.refl _ | apply Jk.junk | apply Jk.alloc)⟩

/-- what the parts of a cut are at a place -/
theorem but_cut (x : Bx) (k t : Int) (k0 : 0 ≤ k) (k4 : k ≤ 4) : But x (x.low k t) (x.upp k t) k := by
  refine ⟨?_, ?_, ?_, ?_, ?_⟩ <;> (rintro rfl; exact ⟨_, _, rfl, rfl⟩)
theorem parts_has (x : Bx) (p : Pt) (tw k t : Int) (k0 : 0 ≤ k) (k4 : k ≤ 4) : (x.low k t).has p tw = (x.has p tw && decide (num p tw k ≤ t)) ∧ (x.upp k t).has p tw = (x.has p tw && decide (t < num p tw k)) := by
  have hk5 : k = 0 ∨ k = 1 ∨ k = 2 ∨ k = 3 ∨ k = 4 := by omega
  rcases hk5 with rfl | rfl | rfl | rfl | rfl
  · exact part_has_0 x p tw t
  · exact part_has_1 x p tw t
  · exact part_has_2 x p tw t
  · exact part_has_3 x p tw t
  · exact part_has_4 x p tw t
theorem parts_in (x : Bx) (k t : Int) (k0 : 0 ≤ k) (k4 : k ≤ 4) : (x.low k t).inn x = true ∧ (x.upp k t).inn x = true := by
  have hk5 : k = 0 ∨ k = 1 ∨ k = 2 ∨ k = 3 ∨ k = 4 := by omega
  rcases hk5 with rfl | rfl | rfl | rfl | rfl
  · exact part_in_0 x t
  · exact part_in_1 x t
  · exact part_in_2 x t
  · exact part_in_3 x t
  · exact part_in_4 x t
theorem ans_has {x : Bx} {p : Pt} {tw : Int} {b : Bool} (h : x.has p tw = b) : Ans 13 #[boxV x, ptV p, .int .i64 tw] (.bool b) := fun w => h ▸ bhas_any x p tw w
theorem ans_inn {x y : Bx} {b : Bool} (h : x.inn y = b) : Ans 14 #[boxV x, boxV y] (.bool b) := fun w => h ▸ bwithin_any x y w

theorem boxParts_walk (x : Bx) (p : Pt) (tw pl t : Int) (hx : x.ok) (_hp : p.ok) (_w2 : (Lit.int .i64 tw).wf = true) (w3 : (Lit.int .i64 pl).wf = true) (w4 : (Lit.int .i64 t).wf = true) (w : World) :
    Calls Try.prog 4 #[boxV x, ptV p, .int .i64 tw, .int .i64 pl, .int .i64 t] w fun e w' => e = .returned (.bool true) ∧ Jk w w' := by
  obtain ⟨p1, p2⟩ := bdi w3
  obtain ⟨t1, t2⟩ := bdi w4
  obtain ⟨k0, k4⟩ := within_bd pl 0 4 (by decide)
  have hh := parts_has x p tw (withinI pl 0 4) t k0 k4
  have hi := parts_in x (withinI pl 0 4) t k0 k4
  exact parts_core x (x.low (withinI pl 0 4) t) (x.upp (withinI pl 0 4) t) p tw pl (withinI pl 0 4) t (num p tw (withinI pl 0 4)) (x.has p tw) w k0 k4 rfl (but_cut x _ t k0 k4) rfl
    (fun w => within_any pl 0 4 w p1 p2 (by decide) (by decide) (by decide))
    (fun w => bcut_any x _ t w hx t1 t2)
    (fun w => cut_no x _ t w (by omega))
    (fun w => cut_no x _ t w (by omega))
    (ans_has rfl) (ans_has hh.1) (ans_has hh.2) (ans_inn hi.1) (ans_inn hi.2)

end Go.Proofs.Ytdmkaaehpcnpfaa
