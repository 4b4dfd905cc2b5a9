/- The law ModelRuns of chapter 8 answers true: its walk through the Go text, by the contracts of package model. -/
import Derived.Test.YtnjfbmnecfiliaaModelF
import Derived.Test.YtnjfbmnecfiliaaThree
import Derived.Test.YtnjfbmnecfiliaaBookW
import Derived.Test.YtnjfbmnecfiliaaNewTree
namespace Go.Proofs.Ytnjfbmnecfiliaa
open Go.RowKit M

theorem runs_val5 : valW (threeW 5 10 20) (fun i => if i = 0 then 5 else 0) = 10 := by decide +kernel
theorem runs_val6 : valW (threeW 5 10 20) (fun i => if i = 0 then 6 else 0) = 20 := by decide +kernel
theorem runs_val0 : valW (threeW 5 10 20) (fun _ => 0) = 10 := by decide +kernel
theorem runs_ats : atsW (threeW 5 10 20) 0 3 = [5] := by decide +kernel
theorem thr_one (x : Int) : thr [x] = [x] := by
  have h1 : (sortI [x]) = [x] := by simp [sortI]
  rw [thr, h1]
  simp [Lib.compact, Lib.compactUpTo, Lib.keeps, List.range_succ]
def runsM (a : Option Addr) (t : Option Addr) : Md := ⟨1, 1, 3, 0, 0, a, 1, 1, [⟨0, t, 3, 3, threeW 5 10 20⟩]⟩
theorem zfit0 (n : Int) (h : (decide (-4294967296 ≤ n) && decide (n ≤ 4294967296)) = true) : FitI n := by
  simp at h
  exact fit_small h.1 h.2
theorem runs_right (a t : Option Addr) : RightM (runsM a t) := by
  refine ⟨Int.le_refl 1, by show (1 : Int) ≤ 4; omega, Int.le_refl 1, by show (1 : Int) ≤ 3; omega, ?_, by show 1 ≤ 8; omega, fun i hi => ?_⟩
  · exact ⟨⟨rfl, rfl, rfl⟩, fun h => absurd h (by show ¬ (1 : Int) ≤ 0; omega), fun _ => rfl, fun _ => rfl⟩
  · have : i = 0 := by simp [runsM] at hi; omega
    subst this
    exact ⟨Int.le_refl 0, by show (0 : Int) < 1; omega, three_tree (by decide) (by decide) (by decide) (by decide) (by decide) (by decide) (Int.le_refl 1) (by show (1 : Int) ≤ 4; omega)⟩
theorem wrap64_in {n : Int} (h1 : -9223372036854775808 ≤ n) (h2 : n ≤ 9223372036854775807) : wrap64 n = n := by
  unfold wrap64
  omega
theorem runs_size (a t : Option Addr) : sizeI (runsM a t).ts (runsM a t).n = 3 := wrap64_in (n := 0 + ((3 : Nat) : Int)) (by omega) (by omega)
theorem runs_sum (a t : Option Addr) (p : Int → Int) : (runsM a t).sum p 0 = 3 + valW (threeW 5 10 20) p := by
  simp [Md.sum, Md.b, runsM, sumTo, tA]

theorem same_five {w : World} {a : Option Addr} {c b : Nat} (h : AtO .i64 w a [5]) (hb : b = w.heap.size) : Calls Try.prog 12 #[.slice a 1 c, .slice (some ⟨b, 0, none⟩) 1 1] (w.alloc (.cells #[.int .i64 5] 3)) fun e w' => e = .returned (.bool true) ∧ Jk (w.alloc (.cells #[.int .i64 5] 3)) w' :=
  (same_ints (zs := [5]) rfl (by decide) (h.jk ((Jk.refl w).alloc _)) (lit_atO .i64 w [5] _ b hb)).on _ (Jk.refl _)

set_option maxRecDepth 100000 in
set_option maxHeartbeats 3200000 in
theorem modelRuns_walk (w : World) : Calls Try.prog 3 #[] w fun e w' => e = .returned (.bool true) ∧ Jk w w' := by
  have J := rules8
  have H3 := hid (three_any 5 10 20 w)
  go_enter Try.func3, Try.ntmps3
  go_upto_region 1 with fail
  go_cut [1] (fun p wc => ∃ h a t, p = .pointer (some ⟨h, 0, none⟩) ∧ MdB wc h (runsM a t) ∧ (runsM a t).ok wc ∧ Jk w wc)
  case first =>
    go_wp2_with (first | (go_at_call 9; refine H3.out.mono ?_; rintro e w1 ⟨g, rfl, hIs, hg1, hg2, hj⟩; have HIs := hid hIs; have HJ1 := hid hj; clear hIs hj))
    go_meet
    case rel =>
      have hM := MdB.laid (w1.alloc (.cells #[.int .i64 0, .slice (some ⟨g, 0, none⟩) 3 3] 26)) (runsM (some ⟨w1.heap.size, 0, none⟩) (some ⟨g, 0, none⟩))
      rw [World.size_alloc] at hM
      have hat := (new_tree w1 0 (some ⟨g, 0, none⟩) 3 3 (threeW 5 10 20) rfl).jk ((Jk.refl _).alloc (.cells #[.int .i64 1, .int .i64 1, .int .i64 3, .int .i64 0, .int .i64 0, .slice (some ⟨w1.heap.size, 0, none⟩) 1 1] 29)) (by simp)
      refine ⟨_, some ⟨w1.heap.size, 0, none⟩, some ⟨g, 0, none⟩, rfl, hM, ⟨zfit0 1 rfl, zfit0 1 rfl, zfit0 3 rfl, zfit0 0 rfl, zfit0 0 rfl, ⟨rfl, Nat.le_refl 1, by unfold maxLen; show 1 ≤ _; omega, fun i hi => ?_, fun _ => ⟨_, 0, rfl, by simp only [World.size_alloc]; omega, hat⟩⟩⟩, (HJ1.out.alloc _).alloc _⟩
      have : i = 0 := by simp [runsM] at hi; omega
      subst this
      exact ⟨zfit0 0 rfl, HIs.out.jk (((Jk.refl w1).alloc _).alloc _)⟩
  case rest =>
    obtain ⟨h, a, t, rfl, hM, hok, hJ⟩ := hcut
    obtain ⟨m0, m1, m2, m3, m4, m5, m6⟩ := hM.in
    simp only [runsM] at m1 m2 m3 m4 m5 m6
    have hr := runs_right a t
    have HR : Hid (AnsW wc 10 #[.agg #[.int .i64 1, .int .i64 1, .int .i64 3, .int .i64 0, .int .i64 0, .slice a 1 1]] (.bool true)) := by
      have h := rightM_ans (m := runsM a t) (b := true) hok (by simp [hr])
      exact h
    have HE5 : Hid (AnsW wc 11 #[.agg #[.int .i64 1, .int .i64 1, .int .i64 3, .int .i64 0, .int .i64 0, .slice a 1 1], .int .i64 0, .agg #[.int .i64 5, .int .i64 0, .int .i64 0, .int .i64 0]] (.int .i64 13)) := by
      have h := eval_ans (m := runsM a t) (c := 0) (E := 13) (fun i => if i = 0 then 5 else 0) hok ⟨fun _ _ _ => by rw [runs_sum, runs_val5]; rfl, fun hn => absurd ⟨hr, by omega, by show (0 : Int) < 1; omega⟩ hn⟩
      exact h
    have HE6 : Hid (AnsW wc 11 #[.agg #[.int .i64 1, .int .i64 1, .int .i64 3, .int .i64 0, .int .i64 0, .slice a 1 1], .int .i64 0, .agg #[.int .i64 6, .int .i64 0, .int .i64 0, .int .i64 0]] (.int .i64 23)) := by
      have h := eval_ans (m := runsM a t) (c := 0) (E := 23) (fun i => if i = 0 then 6 else 0) hok ⟨fun _ _ _ => by rw [runs_sum, runs_val6]; rfl, fun hn => absurd ⟨hr, by omega, by show (0 : Int) < 1; omega⟩ hn⟩
      exact h
    have HT : Hid (∀ w', Jk wc w' → Calls Try.prog 13 #[.agg #[.int .i64 1, .int .i64 1, .int .i64 3, .int .i64 0, .int .i64 0, .slice a 1 1], .int .i64 0] w' fun e w'' => GotZ w' [5] e w'') := fun w' hj => by
      have := thr_yes (f := 0) w' (hok.jk hj) hr
      have e : thr (atsT (runsM a t).ts 0 (runsM a t).n) = [5] := by
        have e2 : atsT (runsM a t).ts 0 (runsM a t).n = [5] := runs_ats
        rw [e2, thr_one]
      rwa [e] at this
    have HS : Hid (AnsW wc 14 #[.agg #[.int .i64 1, .int .i64 1, .int .i64 3, .int .i64 0, .int .i64 0, .slice a 1 1]] (.int .i64 3)) := by
      have h := size_ans (m := runsM a t) (S := 3) hok (runs_size a t)
      exact h
    have HB : Hid (AnsW wc 15 #[.agg #[.int .i64 1, .int .i64 1, .int .i64 3, .int .i64 0, .int .i64 0, .slice a 1 1], .agg #[.int .i64 0, .int .i64 0, .int .i64 0, .int .i64 0]] (.int .i64 0)) := by
      have h := best_yes (m := runsM a t) (b := 0) (fun _ => 0) hok hr rfl
      exact h
    have HJ := hid hJ
    have L8 := lt_more8 m0
    clear hM hok hJ hr H3
    go_wp2_with (first
      | (go_at_call 10; refine (HR.out.on _ (by repeat (with_reducible first | exact Jk.refl _ | apply Jk.junk | apply Jk.alloc))).mono ?_; rintro e w1 ⟨rfl, X1, rfl⟩)
      | (go_at_call 11; refine (AnsW.on (by with_reducible first | exact HE5.out | exact HE6.out) _ (by repeat (with_reducible first | exact Jk.refl _ | apply Jk.junk | apply Jk.alloc))).mono ?_; rintro e w1 ⟨rfl, X2, rfl⟩)
      | (go_at_call 13; refine (HT.out _ (by repeat (with_reducible first | exact Jk.refl _ | apply Jk.junk | apply Jk.alloc))).mono ?_; rintro e w2 ⟨za, zn, zc, rfl, hz, X3, rfl⟩; obtain rfl : 1 = zn := hz.len; have HZ := hid hz; clear hz)
      | (go_at_call 12; refine (same_five (fun _ => HZ.out.lies (by omega)) (by simp only [junk_size])).mono ?_; rintro e w3 ⟨rfl, X4, rfl⟩)
      | (go_at_call 14; refine (HS.out.on _ (by repeat (with_reducible first | exact Jk.refl _ | apply Jk.junk | apply Jk.alloc))).mono ?_; rintro e w1 ⟨rfl, X5, rfl⟩)
      | (go_at_call 15; refine (HB.out.on _ (by repeat (with_reducible first | exact Jk.refl _ | apply Jk.junk | apply Jk.alloc))).mono ?_; rintro e w1 ⟨rfl, X6, rfl⟩))
    go_ret
    exact ⟨rfl, by repeat (with_reducible first | exact HJ.out | apply Jk.junk | apply Jk.alloc)⟩

end Go.Proofs.Ytnjfbmnecfiliaa
