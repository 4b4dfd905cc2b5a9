/- The law GridRuns of chapter 12 answers true: its walk through the Go text, by the contracts of package grid. -/
import Derived.Test.YtkkbeobocbgmeaaGreatGridC
import Derived.Test.YtkkbeobocbgmeaaGreatRunsG
import Derived.Test.YtkkbeobocbgmeaaGreatKThree
import Derived.Test.YtkkbeobocbgmeaaGreatBookW
namespace Go.Proofs.YtkkbeobocbgmeaaGreat
open Go.RowKit M

theorem same_fives {w : World} {a : Option Addr} {c b : Nat} (h : AtO .i64 w a [5]) (hb : b = w.heap.size) : Calls Tryz.prog 13 #[.slice a 1 c, .slice (some ⟨b, 0, none⟩) 1 1] (w.alloc (.cells #[.int .i64 5] 3)) fun e w' => e = .returned (.bool true) ∧ Jk (w.alloc (.cells #[.int .i64 5] 3)) w' :=
  (same_ints (zs := [5]) rfl (by decide) (h.jk ((Jk.refl w).alloc _)) (lit_atO .i64 w [5] _ b hb)).on _ (Jk.refl _)

set_option maxRecDepth 100000 in
set_option maxHeartbeats 6400000 in
theorem gridRuns_walk (w : World) : Calls Tryz.prog 17 #[] w fun e w' => e = .returned (.bool true) ∧ Jk w w' := by
  have J := rules8
  have H3 := hid (kthree_any w)
  go_enter Tryz.func17, Tryz.ntmps17
  go_upto_region 1 with fail
  go_cut [1] (fun p wc => ∃ h a t, p = .pointer (some ⟨h, 0, none⟩) ∧ MdB wc h (runsM a t) ∧ (runsM a t).ok wc ∧ Jk w wc)
  case first =>
    go_wp2_with (first | (go_at_call 32; refine H3.out.mono ?_; rintro e w1 ⟨a, t, rfl, hok, hj1⟩; have HOk := hid hok; have HJ1 := hid hj1; clear hok hj1; have HT : Hid (runsM a t = ⟨1, 1, 3, 0, 0, a, 1, 1, [⟨0, t, 3, 3, threeW 5 10 20⟩]⟩) := rfl; rw [HT.out]))
    go_meet
    case rel => exact ⟨_, a, t, rfl, MdB.laid w1 (runsM a t), HOk.out.jk ((Jk.refl w1).alloc _), HJ1.out.alloc _⟩
  case rest =>
  obtain ⟨h, a, t, rfl, hM, hok, hj1⟩ := hcut
  obtain ⟨w1, rfl⟩ : ∃ z, z = wc := ⟨_, rfl⟩
  have HM := hid hM
  have HJ1 := hid hj1
  have hr := runs_right a t
  have HSt : Hid (Ans 6 #[queryV upQ] (boxW runB)) := hid (start_upB ▸ start_ans upQ)
  have hBo : runB.ok := by simp only [Bx.ok, Sp.ok, I64, runB]; decide
  have HC10 : Hid (AnsW w1 10 #[modelV (runsM a t), queryV upQ, boxV runB, .int .i64 10] (.tuple #[.int .i64 4, .bool true])) := hid (count_yes upQ runB 10 hok hr (runs_cnt a t rfl rfl) rfl rfl)
  have HC3 : Hid (AnsW w1 10 #[modelV (runsM a t), queryV downQ, boxV runB, .int .i64 3] (.tuple #[.int .i64 0, .bool false])) := hid (count_yes downQ runB 3 hok hr (runs_cnt a t rfl rfl) rfl rfl)
  have HCu : Hid (AnsZ w1 14 #[modelV (runsM a t), queryV downQ, boxV runB, .int .i64 0] [5]) := hid (cuts_ans downQ runB 0 hok hr (runs_cuts0 a t downQ))
  have HHu : Hid (AnsW w1 11 #[modelV (runsM a t), queryV upQ, .int .i64 10] (.tuple #[.bool true, .bool true])) := hid (holds_ans upQ 10 hok hr (by rw [start_upB]; exact hBo) (H := true) (N := 4) (by simp [up_holds]) (by rw [start_upB]; exact runs_cnt a t rfl rfl) rfl rfl)
  have HHd : Hid (AnsW w1 11 #[modelV (runsM a t), queryV downQ, .int .i64 10] (.tuple #[.bool false, .bool true])) := hid (holds_ans downQ 10 hok hr (by rw [start_down]; exact hBo) (H := false) (N := 4) (by simp [down_not]) (by rw [start_down]; exact runs_cnt a t rfl rfl) rfl rfl)
  clear hM hj1 hok hr hBo H3
  simp only [boxV] at HC10 HC3 HCu
  go_upto_region 2 with fail
  go_cut [2] (fun p wc => ∃ g, p = .pointer (some ⟨g, 0, none⟩) ∧ w1.heap.size ≤ g ∧ QyB wc g upQ ∧ Jk w1 wc)
  case first =>
    go_wp2
    go_meet
    case rel => exact ⟨_, rfl, Nat.le_refl _, QyB.laid w1 upQ, (Jk.refl w1).alloc _⟩
  case rest =>
  obtain ⟨g, rfl, hg, hQ, hj2⟩ := hcut
  obtain ⟨w2, rfl⟩ : ∃ z, z = wc := ⟨_, rfl⟩
  have HQ := hid hQ
  have HJ2 := hid hj2
  clear hQ hj2
  go_upto_region 3 with fail
  go_cut [3] (fun p wc => ∃ k, p = .pointer (some ⟨k, 0, none⟩) ∧ w2.heap.size ≤ k ∧ BxB wc k runB ∧ Jk w2 wc)
  case first =>
    refine wp_region_lit ?_
    refine list_loadQ rfl _ rfl HQ.out rfl ?_
    go_wp2_with (first | (go_at_call 6; refine (HSt.out.on _).mono ?_; rintro e w3 ⟨rfl, X1, rfl⟩))
    go_meet
    case rel => exact ⟨_, rfl, Nat.le_add_right _ _, by have := BxB.laid (junk w2 X1) runB; rwa [junk_size] at this, ((Jk.refl w2).junk X1).alloc _⟩
  case rest =>
  obtain ⟨k, rfl, hk, hB, hj3⟩ := hcut
  obtain ⟨w3, rfl⟩ : ∃ z, z = wc := ⟨_, rfl⟩
  have HB := hid hB
  have HJ3 := hid hj3
  have HM3 := hid (HM.out.jk (HJ2.out.trans HJ3.out))
  have HQ3 := hid (HQ.out.jk HJ3.out)
  have hgk : g ≠ k := by have := HQ.out.lt; omega
  have hhg : h ≠ g := by have := HM.out.lt; omega
  have HJa := hid (HJ2.out.trans HJ3.out)
  clear hB hj3 HSt HM HQ HJ2 HJ3
  go_upto_region 4 with fail
  refine wp_region_lit ?_
  refine list_loadM rfl _ rfl HM3.out rfl ?_
  refine list_loadQ rfl _ rfl HQ3.out rfl ?_
  refine list_loadX rfl _ rfl HB.out rfl ?_
  go_upto_region 5 with (first | (go_at_call 10; refine (HC10.out.on _ HJa.out).mono ?_; rintro e w4 ⟨rfl, hj4⟩; have HJ4 := hid hj4; clear hj4))
  have HM4 := hid (HM3.out.jk HJ4.out)
  have HQ4 := hid (HQ3.out.jk HJ4.out)
  have HB4 := hid (HB.out.jk HJ4.out)
  have HJb := hid (HJa.out.trans HJ4.out)
  clear HM3 HQ3 HB HJa HJ4
  refine wp_region_lit ?_
  refine list_loadM rfl _ rfl HM4.out rfl ?_
  refine list_loadQ rfl _ rfl HQ4.out rfl ?_
  go_upto_region 6 with (first | (go_at_call 11; refine (HHu.out.on _ HJb.out).mono ?_; rintro e w5 ⟨rfl, hj5⟩; have HJ5 := hid hj5; clear hj5))
  have HM5 := hid (HM4.out.jk HJ5.out)
  have HQ5 := hid (HQ4.out.jk HJ5.out)
  have HB5 := hid (HB4.out.jk HJ5.out)
  have HJc := hid (HJb.out.trans HJ5.out)
  clear HM4 HQ4 HB4 HJb HJ5
  have q15 : w5.cell? ⟨g, 15, none⟩ = some (.bool false) := by rw [cell_of_row _ _ _ _ _ _ HQ5.out]; rfl
  have qf := HQ5.out.frozen 15
  have ql := HQ5.out.lt
  have HQ6 : Hid (QyB (w5.setCell ⟨g, 15, none⟩ (.bool true)) g downQ) := hid (heap_setCell_same _ _ _ _ _ _ HQ5.out)
  have HG6 : Hid (w5.grownBy (w5.setCell ⟨g, 15, none⟩ (.bool true)) (some g)) := hid (grown_set w5 g 15 _)
  have HM6 := hid ((HG6.out.block h HM5.out.lt (by simpa using hhg)).trans HM5.out)
  have HB6 := hid (HB5.out.by HG6.out (Ne.symm hgk))
  have HJd := hid (HJc.out.grown HG6.out (fun k hk => by cases hk; exact hg))
  go_upto_region 7 with fail
  generalize w5.setCell ⟨g, 15, none⟩ (.bool true) = w6 at HQ6 HG6 HM6 HB6 HJd ⊢
  clear HG6 q15 qf ql HQ5 HB5 HM5 HJc
  have HM6' : Hid (MdB w6 h (runsM a t)) := HM6
  refine wp_region_lit ?_
  refine list_loadM rfl _ rfl HM6'.out rfl ?_
  refine list_loadQ rfl _ rfl HQ6.out rfl ?_
  go_upto_region 8 with (first | (go_at_call 11; refine (HHd.out.on _ HJd.out).mono ?_; rintro e w7 ⟨rfl, hj7⟩; have HJ7 := hid hj7; clear hj7))
  have HM7 := hid (HM6'.out.jk HJ7.out)
  have HQ7 := hid (HQ6.out.jk HJ7.out)
  have HB7 := hid (HB6.out.jk HJ7.out)
  have HJe := hid (HJd.out.trans HJ7.out)
  clear HM6 HM6' HQ6 HB6 HJd HJ7
  refine wp_region_lit ?_
  refine list_loadM rfl _ rfl HM7.out rfl ?_
  refine list_loadQ rfl _ rfl HQ7.out rfl ?_
  refine list_loadX rfl _ rfl HB7.out rfl ?_
  go_upto_region 9 with (first | (go_at_call 10; refine (HC3.out.on _ HJe.out).mono ?_; rintro e w8 ⟨rfl, hj8⟩; have HJ8 := hid hj8; clear hj8))
  have HM8 := hid (HM7.out.jk HJ8.out)
  have HQ8 := hid (HQ7.out.jk HJ8.out)
  have HB8 := hid (HB7.out.jk HJ8.out)
  have HJf := hid (HJe.out.trans HJ8.out)
  clear HM7 HQ7 HB7 HJe HJ8
  refine wp_region_lit ?_
  refine list_loadM rfl _ rfl HM8.out rfl ?_
  refine list_loadQ rfl _ rfl HQ8.out rfl ?_
  refine list_loadX rfl _ rfl HB8.out rfl ?_
  go_wp2_with (first
    | (go_at_call 14; refine (HCu.out.on _ HJf.out).mono ?_; rintro e w9 ⟨za, zn, zc, rfl, hz, hzf, hj9⟩; obtain rfl : 1 = zn := hz.len; have HZ := hid hz; have HJ9 := hid hj9; clear hz hzf hj9)
    | (go_at_call 13; refine (same_fives (fun _ => HZ.out.lies (by omega)) rfl).mono ?_; rintro e w10 ⟨rfl, hj10⟩; have HJ10 := hid hj10; clear hj10))
  go_ret
  exact ⟨rfl, HJ1.out.trans ((HJf.out.trans HJ9.out).trans (((Jk.refl w9).alloc _).trans HJ10.out))⟩

end Go.Proofs.YtkkbeobocbgmeaaGreat
