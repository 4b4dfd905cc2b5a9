/- The law BoxMeets of chapter 5 answers true for every three boxes, every point and every int: what is in both is in where they meet; empty ones are within all; a box's lowest point is in it, if one is. -/
import Derived.Test.YtdmkaaehpcnpfaaLawBoxRuns
import Derived.Test.YtdmkaaehpcnpfaaBoxB
import Derived.Test.YtdmkaaehpcnpfaaBoxAns
import Derived.Test.YtdmkaaehpcnpfaaMathB3
import Derived.Deep.DeepCutAuto
namespace Go.Proofs.Ytdmkaaehpcnpfaa
open Go.RowKit M

theorem a_meet {x y m : Bx} (h : x.meet y = m) : Ans 15 #[boxV x, boxV y] (boxV m) := fun w => h ▸ bmeet_any x y w
theorem a_refmeet {x y m : Bx} (h : x.meet y = m) : Ans 16 #[boxV x, boxV y] (boxV m) := fun w => h ▸ refmeetbox_any x y w
theorem a_refem {x : Bx} {b : Bool} (h : x.em = b) : Ans 18 #[boxV x] (.bool b) := fun w => h ▸ refempty_any x w

set_option maxRecDepth 100000 in
set_option maxHeartbeats 4000000 in
theorem meets_core (x y z m u v : Bx) (p q : Pt) (tw : Int) (A B E F G : Bool) (w : World)
    (hM : Hid (Ans 15 #[boxV x, boxV y] (boxV m)))
    (hR : Hid (Ans 16 #[boxV x, boxV y] (boxV m)))
    (hHM : Hid (Ans 13 #[boxV m, ptV p, .int .i64 tw] (.bool (A && B))))
    (hHA : Hid (Ans 13 #[boxV x, ptV p, .int .i64 tw] (.bool A)))
    (hHB : Hid (Ans 13 #[boxV y, ptV p, .int .i64 tw] (.bool B)))
    (hEM : Hid (Ans 17 #[boxV m] (.bool F)))
    (hRE : Hid (Ans 18 #[boxV m] (.bool F)))
    (hMC : Hid (Ans 15 #[boxV m, boxV z] (boxV v)))
    (hBC : Hid (Ans 15 #[boxV y, boxV z] (boxV u)))
    (hABC : Hid (Ans 15 #[boxV x, boxV u] (boxV v)))
    (hW1 : Hid (Ans 14 #[boxV m, boxV x] (.bool true)))
    (hW2 : Hid (Ans 14 #[boxV m, boxV y] (.bool true)))
    (hE : Hid (Ans 17 #[boxV x] (.bool E)))
    (hE3 : Hid (E = true → Ans 14 #[boxV x, boxV z] (.bool true)))
    (hL : Hid (Ans 19 #[boxV x] (ptV q)))
    (hHL : Hid (Ans 13 #[boxV x, ptV q, .int .i64 x.e.lo] (.bool (!E))))
    (hEI : Hid (E = false → Ans 14 #[boxV x, boxV y] (.bool G)))
    (hG : Hid (m.eqB x = G)) :
    Calls Try.prog 5 #[boxV x, boxV y, boxV z, ptV p, .int .i64 tw] w fun e w' => e = .returned (.bool true) ∧ Jk w w' := by
  have J := rules8
  have e1 : ∀ w : World, (Op.equalIn 10000 25 (boxV m) (boxV m)).run Try.prog w = .ok true w := fun w => by rw [eq_box, Bx.eqB_self]
  have e2 : ∀ w : World, (Op.equalIn 10000 25 (boxV v) (boxV v)).run Try.prog w = .ok true w := fun w => by rw [eq_box, Bx.eqB_self]
  go_enter Try.func5, Try.ntmps5
  go_upto_region 2 with (first | (go_at_call 15; refine (hM.out.on _).mono ?_; rintro e w1 ⟨rfl, X1, rfl⟩))
  go_cut [43] (fun o wc => o = .bool false ∧ Jk ((junk ((((w.alloc (boxC x)).alloc (boxC y)).alloc (boxC z)).alloc (ptO p)) X1).alloc (boxC m)) wc)
  case first =>
    cases F
    all_goals
      cases A
      · refine region_junk (by kernel_rfl) (by kernel_rfl) ?_
        repeat (go_big_quiet_step (first | (go_at_call 16; exact Ans.junk (by with_reducible first | exact hR.out) _) | (go_at_call 13; exact Ans.junk (by with_reducible first | exact hHM.out | exact hHA.out | exact hHB.out) _) | (go_at_call 17; exact Ans.junk (by with_reducible first | exact hEM.out) _) | (go_at_call 18; exact Ans.junk (by with_reducible first | exact hRE.out) _) | exact rfl))
        refine wpQuiet_nil ?_
        rintro _ ⟨X, rfl⟩
        go_wp2_with fail
        go_meet
        case rel => exact ⟨rfl, by repeat (with_reducible first | exact Jk.refl _ | apply Jk.junk)⟩
      · cases B
        · refine region_junk (by kernel_rfl) (by kernel_rfl) ?_
          repeat (go_big_quiet_step (first | (go_at_call 16; exact Ans.junk (by with_reducible first | exact hR.out) _) | (go_at_call 13; exact Ans.junk (by with_reducible first | exact hHM.out | exact hHA.out | exact hHB.out) _) | (go_at_call 17; exact Ans.junk (by with_reducible first | exact hEM.out) _) | (go_at_call 18; exact Ans.junk (by with_reducible first | exact hRE.out) _) | exact rfl))
          refine wpQuiet_nil ?_
          rintro _ ⟨X, rfl⟩
          go_wp2_with fail
          go_meet
          case rel => exact ⟨rfl, by repeat (with_reducible first | exact Jk.refl _ | apply Jk.junk)⟩
        · refine region_junk (by kernel_rfl) (by kernel_rfl) ?_
          repeat (go_big_quiet_step (first | (go_at_call 16; exact Ans.junk (by with_reducible first | exact hR.out) _) | (go_at_call 13; exact Ans.junk (by with_reducible first | exact hHM.out | exact hHA.out | exact hHB.out) _) | (go_at_call 17; exact Ans.junk (by with_reducible first | exact hEM.out) _) | (go_at_call 18; exact Ans.junk (by with_reducible first | exact hRE.out) _) | exact rfl))
          refine wpQuiet_nil ?_
          rintro _ ⟨X, rfl⟩
          go_wp2_with fail
          go_meet
          case rel => exact ⟨rfl, by repeat (with_reducible first | exact Jk.refl _ | apply Jk.junk)⟩
  case rest =>
    obtain ⟨rfl, X2, rfl⟩ := hcut
    clear hR hHM hHA hHB hEM hRE
    go_upto_region 4 with fail
    go_cut [74] (fun o wc => o = .bool false ∧ Jk ((junk ((((w.alloc (boxC x)).alloc (boxC y)).alloc (boxC z)).alloc (ptO p)) X1).alloc (boxC m)) wc)
    case first =>
      cases E
      · refine region_junk (by kernel_rfl) (by kernel_rfl) ?_
        repeat (go_big_quiet_step (first | (go_at_call 15; exact Ans.junk (by with_reducible first | exact hBC.out | exact hMC.out | exact hABC.out | exact hM.out) _) | (go_at_call 14; exact Ans.junk (by with_reducible first | exact hW1.out | exact hW2.out) _) | (go_at_call 17; exact Ans.junk (by with_reducible first | exact hE.out) _) | exact rfl))
        refine wpQuiet_nil ?_
        rintro _ ⟨X, rfl⟩
        go_wp2_with fail
        go_meet
        case rel => exact ⟨rfl, by repeat (with_reducible first | exact Jk.refl _ | apply Jk.junk)⟩
      · have hW3 : Hid (Ans 14 #[boxV x, boxV z] (.bool true)) := hE3.out rfl
        refine region_junk (by kernel_rfl) (by kernel_rfl) ?_
        repeat (go_big_quiet_step (first | (go_at_call 15; exact Ans.junk (by with_reducible first | exact hBC.out | exact hMC.out | exact hABC.out | exact hM.out) _) | (go_at_call 14; exact Ans.junk (by with_reducible first | exact hW1.out | exact hW2.out | exact hW3.out) _) | (go_at_call 17; exact Ans.junk (by with_reducible first | exact hE.out) _) | exact rfl))
        refine wpQuiet_nil ?_
        rintro _ ⟨X, rfl⟩
        go_wp2_with fail
        go_meet
        case rel => exact ⟨rfl, by repeat (with_reducible first | exact Jk.refl _ | apply Jk.junk)⟩
    case rest =>
      obtain ⟨rfl, X3, rfl⟩ := hcut
      clear hMC hBC hABC hW1 hW2 hE3
      go_upto_region 6 with fail
      go_cut [98] (fun o wc => o = .bool false ∧ Jk ((junk ((((w.alloc (boxC x)).alloc (boxC y)).alloc (boxC z)).alloc (ptO p)) X1).alloc (boxC m)) wc)
      case first =>
        have e3 : ∀ w : World, (Op.equalIn 10000 25 (boxV m) (boxV x)).run Try.prog w = .ok G w := fun w => by rw [eq_box, hG.out]
        cases E
        · have hWI : Hid (Ans 14 #[boxV x, boxV y] (.bool G)) := hEI.out rfl
          cases G
          · refine region_junk (by kernel_rfl) (by kernel_rfl) ?_
            repeat (go_big_quiet_step (first | (go_at_call 17; exact Ans.junk (by with_reducible first | exact hE.out) _) | (go_at_call 19; exact Ans.junk (by with_reducible first | exact hL.out) _) | (go_at_call 13; exact Ans.junk (by with_reducible first | exact hHL.out) _) | (go_at_call 14; exact Ans.junk (by with_reducible first | exact hWI.out) _) | (go_at_call 15; exact Ans.junk (by with_reducible first | exact hM.out) _) | exact rfl))
            refine wpQuiet_nil ?_
            rintro _ ⟨X, rfl⟩
            go_wp2_with fail
            go_meet
            case rel => exact ⟨rfl, by repeat (with_reducible first | exact Jk.refl _ | apply Jk.junk)⟩
          · refine region_junk (by kernel_rfl) (by kernel_rfl) ?_
            repeat (go_big_quiet_step (first | (go_at_call 17; exact Ans.junk (by with_reducible first | exact hE.out) _) | (go_at_call 19; exact Ans.junk (by with_reducible first | exact hL.out) _) | (go_at_call 13; exact Ans.junk (by with_reducible first | exact hHL.out) _) | (go_at_call 14; exact Ans.junk (by with_reducible first | exact hWI.out) _) | (go_at_call 15; exact Ans.junk (by with_reducible first | exact hM.out) _) | exact rfl))
            refine wpQuiet_nil ?_
            rintro _ ⟨X, rfl⟩
            go_wp2_with fail
            go_meet
            case rel => exact ⟨rfl, by repeat (with_reducible first | exact Jk.refl _ | apply Jk.junk)⟩
        · refine region_junk (by kernel_rfl) (by kernel_rfl) ?_
          repeat (go_big_quiet_step (first | (go_at_call 17; exact Ans.junk (by with_reducible first | exact hE.out) _) | exact rfl))
          refine wpQuiet_nil ?_
          rintro _ ⟨X, rfl⟩
          go_wp2_with fail
          go_meet
          case rel => exact ⟨rfl, by repeat (with_reducible first | exact Jk.refl _ | apply Jk.junk)⟩
      case rest =>
        obtain ⟨rfl, X4, rfl⟩ := hcut
        clear hM hEI hG
        go_upto_region 8 with fail
        cases E
        all_goals
          refine region_junk (by kernel_rfl) (by kernel_rfl) ?_
          repeat (go_big_quiet_step (first | (go_at_call 17; exact Ans.junk (by with_reducible first | exact hE.out) _) | (go_at_call 19; exact Ans.junk (by with_reducible first | exact hL.out) _) | (go_at_call 13; exact Ans.junk (by with_reducible first | exact hHL.out) _) | (go_at_call 3; exact on_junk boxRuns_any _) | exact rfl))
          refine wpQuiet_nil ?_
          rintro _ ⟨X, rfl⟩
          go_wp2_with fail
          go_ret
          exact ⟨rfl, by repeat (with_reducible first | exact Jk.refl _ | apply Jk.junk | apply Jk.alloc)⟩

theorem boxMeets_walk (x y z : Bx) (p : Pt) (tw : Int) (_h1 : x.ok) (_h2 : y.ok) (_h3 : z.ok) (_h4 : p.ok) (_w5 : (Lit.int .i64 tw).wf = true) (w : World) :
    Calls Try.prog 5 #[boxV x, boxV y, boxV z, ptV p, .int .i64 tw] w fun e w' => e = .returned (.bool true) ∧ Jk w w' := by
  refine meets_core x y z (x.meet y) (y.meet z) ((x.meet y).meet z) p x.lowest tw (x.has p tw) (y.has p tw) x.em (x.meet y).em ((x.meet y).eqB x) w ?_ ?_ ?_ ?_ ?_ ?_ ?_ ?_ ?_ ?_ ?_ ?_ ?_ ?_ ?_ ?_ ?_ ?_
  · exact a_meet rfl
  · exact a_refmeet rfl
  · exact a_has (Bx.meet_has x y p tw)
  · exact a_has rfl
  · exact a_has rfl
  · exact a_em rfl
  · exact a_refem rfl
  · exact a_meet rfl
  · exact a_meet rfl
  · exact a_meet (Bx.meet_thrice x y z).symm
  · exact a_inn (Bx.meet_inn x y).1
  · exact a_inn (Bx.meet_inn x y).2
  · exact a_em rfl
  · exact fun h => a_inn (Bx.em_inn h z)
  · exact a_low rfl
  · exact a_has (Bx.lowest_has x)
  · exact fun h => a_inn (Bx.inn_same x y h)
  · exact rfl

end Go.Proofs.Ytdmkaaehpcnpfaa
