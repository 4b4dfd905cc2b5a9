/- The law SpanSize of chapter 4 answers true for every three ints: both parts of a cut have as many numbers as the whole; one more at the end is one more; what is beyond all ints is told. -/
import Derived.Test.YtlllgpadifpbkaaLawSpanRuns
import Derived.Test.YtlllgpadifpbkaaSpanIs
import Derived.Test.YtlllgpadifpbkaaAns
import Derived.Test.YtlllgpadifpbkaaMathS3
import Derived.Test.YtlllgpadifpbkaaWithinB
import Derived.Deep.DeepCutAuto
import Derived.Deep.RegionHeld3
namespace Go.Proofs.Ytlllgpadifpbkaa
open Go.RowKit M

theorem jk_cell {w w' : World} (h : Jk w w') {b o : Nat} (hb : b < w.heap.size) : w'.cell? ⟨b, o, none⟩ = w.cell? ⟨b, o, none⟩ := h.below.cell (p := ⟨b, o, none⟩) hb

set_option maxRecDepth 100000 in
set_option maxHeartbeats 1600000 in
theorem spanSize_walk (lo size at_ : Int) (w1 : (Lit.int .i64 lo).wf = true) (w2 : (Lit.int .i64 size).wf = true) (w3 : (Lit.int .i64 at_).wf = true) (w : World) :
    Calls Try.prog 6 #[.int .i64 lo, .int .i64 size, .int .i64 at_] w fun e w' => e = .returned (.bool true) ∧ Jk w w' := by
  obtain ⟨x1, x2⟩ := bdi w1
  obtain ⟨y1, y2⟩ := bdi w2
  obtain ⟨a1, a2⟩ := bdi w3
  clear w1 w2 w3
  have H1 : Hid (AnsP 15 #[.int .i64 lo, .int .i64 (-1152921504606846976), .int .i64 1152921504606846976] (.int .i64 (withinI lo (-1152921504606846976) 1152921504606846976))) := fun w => within_any lo _ _ w x1 x2 (by decide) (by decide) (by decide)
  have H2 : Hid (AnsP 15 #[.int .i64 size, .int .i64 0, .int .i64 1152921504606846976] (.int .i64 (withinI size 0 1152921504606846976))) := fun w => within_any size _ _ w y1 y2 (by decide) (by decide) (by decide)
  have H3 : Hid (AnsP 15 #[.int .i64 at_, .int .i64 (-3), .int .i64 99] (.int .i64 (withinI at_ (-3) 99))) := fun w => within_any at_ _ _ w a1 a2 (by decide) (by decide) (by decide)
  have b1 := within_bd lo (-1152921504606846976) 1152921504606846976 (by decide)
  have b2 := within_bd size 0 1152921504606846976 (by decide)
  have b3 := within_bd at_ (-3) 99 (by decide)
  clear x1 x2 y1 y2 a1 a2
  generalize withinI lo (-1152921504606846976) 1152921504606846976 = l at *
  generalize withinI size 0 1152921504606846976 = k at *
  generalize withinI at_ (-3) 99 = t at *
  obtain ⟨l1, l2⟩ := b1
  obtain ⟨k1, k2⟩ := b2
  obtain ⟨t1, t2⟩ := b3
  have J := rules20
  have hw1 : IntKind.i64.wrap (l + t) = l + t := wrap_i64_in (by omega) (by omega)
  have S1 : szI l (l + k - 1) = k := by
    have := sz_told l (l + k - 1); omega
  have S2 : szI l (l + k) = k + 1 := by
    have := sz_told l (l + k); omega
  have S3 := sz_cut l (l + k - 1) (l + t)
  have S4 := sz_pos (lLo l (l + k - 1) (l + t)) (lHi l (l + k - 1) (l + t))
  have S5 := sz_pos (uLo l (l + k - 1) (l + t)) (uHi l (l + k - 1) (l + t))
  obtain ⟨⟨c1, c2, c3, c4⟩, ⟨c5, c6, c7, c8⟩⟩ := cut_bd (a := l) (b := l + k - 1) (t := l + t) (by omega) (by omega) (by omega) (by omega) (by omega) (by omega)
  have HC : Hid (Ans 8 #[spanV l (l + k - 1), .int .i64 (l + t)] (.tuple #[spanV (lLo l (l + k - 1) (l + t)) (lHi l (l + k - 1) (l + t)), spanV (uLo l (l + k - 1) (l + t)) (uHi l (l + k - 1) (l + t))])) := fun w => cut_any _ _ _ w (by omega) (by omega) (by omega) (by omega)
  generalize lLo l (l + k - 1) (l + t) = p at *
  generalize lHi l (l + k - 1) (l + t) = q at *
  generalize uLo l (l + k - 1) (l + t) = r at *
  generalize uHi l (l + k - 1) (l + t) = s at *
  rw [S1] at S3
  obtain ⟨m, hm⟩ : ∃ m, szI p q = m := ⟨_, rfl⟩
  obtain ⟨n, hn⟩ : ∃ n, szI r s = n := ⟨_, rfl⟩
  rw [hm] at S3 S4
  rw [hn] at S3 S5
  have V1 : valI k = k := val_yes (by omega) (by omega)
  have V2 : okB k = true := ok_yes (by omega) (by omega)
  have V3 : valI m = m := val_yes (by omega) (by omega)
  have V4 : okB m = true := ok_yes (by omega) (by omega)
  have V5 : valI n = n := val_yes (by omega) (by omega)
  have V6 : okB n = true := ok_yes (by omega) (by omega)
  have V7 : valI (k + 1) = k + 1 := val_yes (by omega) (by omega)
  have V8 : okB (k + 1) = true := ok_yes (by omega) (by omega)
  obtain ⟨Q1, Q2, Q3, Q4⟩ := sz_far
  have G : m + n = k := S3
  have HG : Hid (m + n = k) := S3
  clear G S3
  go_enter Try.func6, Try.ntmps6
  go_upto_region 4 with (first | (go_at_call 15; refine (AnsP.on (by with_reducible first | exact H1.out | exact H2.out) _).mono ?_; rintro e w' ⟨rfl, hw⟩; obtain rfl := hw.symm) | (go_at_call 9; refine (size_any _ _ _ (by omega) (by omega) (by omega) (by omega)).mono ?_; rintro e w1 ⟨rfl, X1, rfl⟩; simp only [S1, V1, V2]))
  go_cut [12, 13] (fun o o' wc => ∃ b b' : Nat, o = .pointer (some ⟨b, 0, none⟩) ∧ o' = .pointer (some ⟨b', 0, none⟩) ∧ b < wc.heap.size ∧ b' < wc.heap.size ∧ wc.cell? ⟨b, 0, none⟩ = some (.int .i64 p) ∧ wc.cell? ⟨b, 1, none⟩ = some (.int .i64 q) ∧ wc.cell? ⟨b', 0, none⟩ = some (.int .i64 r) ∧ wc.cell? ⟨b', 1, none⟩ = some (.int .i64 s) ∧ Jk w wc)
  case first =>
    clear S4 S5 V1 V2 V3 V4 V5 V6 V7 V8 Q1 Q2 Q3 Q4 H1 H2 S1 S2 hm hn
    go_region_held3 (fun w' => w'.cell? ⟨w.heap.size, 0, none⟩ = some (.int .i64 l) ∧ w'.cell? ⟨w.heap.size, 1, none⟩ = some (.int .i64 (l + k - 1))) (exact ⟨(jk_cell (w := w.alloc (.cells #[.int .i64 l, .int .i64 (l + k - 1)] 23)) (by repeat (with_reducible first | exact Jk.refl _ | apply Jk.junk | apply Jk.alloc | apply Jk.drew)) (by simp)).trans (by simp), (jk_cell (w := w.alloc (.cells #[.int .i64 l, .int .i64 (l + k - 1)] 23)) (by repeat (with_reducible first | exact Jk.refl _ | apply Jk.junk | apply Jk.alloc | apply Jk.drew)) (by simp)).trans (by simp)⟩) (first | (go_at_call 15; refine (AnsP.on (by with_reducible exact H3.out) _).mono ?_; rintro e w' ⟨rfl, hw⟩; obtain rfl := hw.symm) | (go_at_call 8; refine (Ans.on (by with_reducible exact HC.out) _).mono ?_; rintro e w' ⟨rfl, X2, rfl⟩))
    all_goals
      go_wp2_with fail
      go_meet
      case rel =>
        refine ⟨_, _, rfl, rfl, ?_, ?_, ?_, ?_, ?_, ?_, by repeat (with_reducible first | exact Jk.refl _ | apply Jk.junk | apply Jk.alloc | apply Jk.drew)⟩
        · simp only [junk_size, World.size_alloc]; omega
        · simp only [junk_size, World.size_alloc]; omega
        all_goals
          simp only [J, World.cell?_alloc_past, World.cell?_alloc_at, World.size_alloc, Nat.lt_add_one]
          rfl
  case rest =>
    obtain ⟨b, b', rfl, rfl, hb, hb', h1, h2, h3, h4, hj⟩ := hcut
    clear HC H1 H2 H3
    have hmn := HG.out
    have m2 : m ≤ 1152921504606846976 := by omega
    have n2 : n ≤ 1152921504606846976 := by omega
    have HJ : Hid (Jk w wc) := hj
    clear hj HG
    go_wp2_with (first | (go_at_call 9; refine (size_any _ _ _ (by omega) (by omega) (by omega) (by omega)).mono ?_; rintro e w1 ⟨rfl, Y, rfl⟩; simp only [S2, V3, V4, V5, V6, V7, V8, hm, hn, Q1, Q2, Q3, Q4]) | (go_at_call 3; refine (spanRuns_any _).mono ?_; rintro e w1 ⟨rfl, Y, rfl⟩))
    go_ret
    exact ⟨rfl, by repeat (with_reducible first | exact HJ.out | apply Jk.junk | apply Jk.alloc)⟩

end Go.Proofs.Ytlllgpadifpbkaa
