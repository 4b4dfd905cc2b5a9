/- The law BitsSpread of chapter 1 answers true for every argument: numbers put into fields beside each other are all got again, in whatever order they are put. -/
import Derived.Test.YtlpmnkkfphjhbaaRows3
import Derived.Test.YtlpmnkkfphjhbaaMath3
import Derived.Deep.RegionHeld3
import Derived.Deep.DeepCutAuto
import Derived.Deep.CutBlock
import Derived.Deep.LoopGhost
import Derived.OpenShut
import Derived.WalkSmall
import Derived.KernelRfl
namespace Go.Proofs.Ytlpmnkkfphjhbaa
open Go.RowKit M

def IsInts (k : IntKind) (w : World) (a : Option Addr) (len cap : Nat) (zs : List Int) : Prop :=
  (a = none ∧ len = 0 ∧ cap = 0 ∧ zs = []) ∨
  ∃ x, a = some x ∧ len ≤ cap ∧ cap ≤ maxLen ∧ zs.length = cap ∧ (∀ i, i < zs.length → w.cell? (x.add i) = some (.int k (zs.getD i 0))) ∧ ∀ n ∈ zs, (Lit.int k n).wf = true

/-- a slice that has an element -/
theorem IsInts.open {w : World} {a : Option Addr} {len cap : Nat} {zs : List Int} (h : IsInts .i64 w a len cap zs) (hl : 0 < len) :
    ∃ b off, a = some ⟨b, off, none⟩ ∧ b < w.heap.size ∧ len ≤ 9223372036854775807 ∧ (∀ i, i < len → w.cell? ⟨b, off + i, none⟩ = some (.int .i64 (nth zs i)) ∧ -9223372036854775808 ≤ nth zs i ∧ nth zs i ≤ 9223372036854775807) := by
  rcases h with ⟨_, h0, _⟩ | ⟨x, rfl, h1, h2, h3, h4, h5⟩
  · omega
  · obtain ⟨b, off, rfl, hc⟩ := ints_at h4 (by omega)
    have h0 := hc 0 (by omega)
    have hlt := World.block_lt_of_cell? w _ h0
    refine ⟨b, off, rfl, hlt, by unfold maxLen at h2; omega, fun i hi => ⟨hc i (by omega), ?_⟩⟩
    have hm : nth zs i ∈ zs := by
      have : i < zs.length := by omega
      simp [nth, List.getElem?_eq_getElem this]
    exact bdi (h5 _ hm)

theorem Own.form {B : Nat} {w : World} {u : Value} {xs : List Int} (h : Own B w u xs) :
    ∃ a c, u = .slice a xs.length c ∧ (0 < xs.length → ∃ g, a = some ⟨g, 0, none⟩ ∧ ∀ j, j < xs.length → w.cell? ⟨g, j, none⟩ = some (.int .i64 (nth xs j))) := by
  rcases Nat.eq_zero_or_pos xs.length with h0 | hp
  · rcases h.2 with ⟨hu, _⟩ | ⟨g, cap, cur, hu, _⟩
    · exact ⟨none, 0, by rw [h0]; exact hu, fun hp => by omega⟩
    · exact ⟨_, _, hu, fun hp => by omega⟩
  · obtain ⟨g, cap, hu, _⟩ := World.ownsRow.form h hp
    refine ⟨_, _, hu, fun _ => ⟨g, rfl, fun j hj => ?_⟩⟩
    unfold Own at h
    rw [hu] at h
    rw [World.ownsRow.cellAt h j (by omega)]
    simp [nth, hj]

theorem two_old (w : World) (o o' : Obj) : ((w.alloc o).alloc o').drew.heap[w.heap.size]? = some o := by
  show ((w.alloc o).alloc o').heap[w.heap.size]? = some o
  rw [Below.heap_alloc _ _ _ (by simp)]
  exact heap_alloc_new w o
theorem two_new (w : World) (o o' : Obj) : ((w.alloc o).alloc o').drew.heap[w.heap.size + 1]? = some o' := by
  have h := heap_alloc_new (w.alloc o) o'
  have e : (w.alloc o).heap.size = w.heap.size + 1 := by simp
  rw [e] at h
  exact h
theorem two_lt (w : World) (o o' : Obj) : w.heap.size < ((w.alloc o).alloc o').drew.heap.size ∧ w.heap.size + 1 < ((w.alloc o).alloc o').drew.heap.size := by
  simp; omega

def Rel1 (B : Nat) (w : World) (v7 v8 v9 s : Value) (ats wds vals : List Int) (sum : Int) (wc : World) : Prop :=
  Spread ats wds vals sum ∧ s = .int .i64 sum ∧ Rows3 B wc v7 v8 v9 ats wds vals ∧ Below B w wc ∧ ats.length ≤ 10

set_option maxRecDepth 100000 in
set_option maxHeartbeats 3200000 in
theorem bitsSpread_walk (a0 : Option Addr) (len0 cap0 : Nat) (z0 : List Int) (a1 : Option Addr) (len1 cap1 : Nat) (z1 : List Int) (a2 : Bool) (w : World) (w0 : IsInts .i64 w a0 len0 cap0 z0) (w1 : IsInts .i64 w a1 len1 cap1 z1) :
    Calls Try.prog 8 #[.slice a0 len0 cap0, .slice a1 len1 cap1, .bool a2] w fun e w' => e = .returned (.bool true) ∧ Below w.heap.size w w' := by
  go_enter Try.func8, Try.ntmps8
  go_upto_block 0 with fail
  go_cut [7, 8, 9, 10] (fun v7 v8 v9 s wc => ∃ ats wds vals sum, Rel1 w.heap.size w v7 v8 v9 s ats wds vals sum wc)
  case first =>
    by_cases hz : 0 < len0 ∧ 0 < len1
    · obtain ⟨b0, o0, rfl, lt0, m0, c0⟩ := w0.open hz.1
      obtain ⟨b1, o1, rfl, lt1, m1, c1⟩ := w1.open hz.2
      clear hz w0 w1
      go_wp2_with fail
      go_loopg [7, 8, 9, 10, 11] 10 (fun k v7 v8 v9 s i wr => ∃ ats wds vals sum, Rel1 w.heap.size w v7 v8 v9 s ats wds vals sum wr ∧ i = .int .i64 (ats.length : Int) ∧ ats.length + k = 10)
      case atStart => exact ⟨[], [], [], 0, ⟨Spread.nil, rfl, Rows3.nil _ _ (Nat.le_refl _), Below.refl _ _, by simp⟩, rfl, by simp⟩
      case round =>
        obtain ⟨ats, wds, vals, sum, ⟨hS, rfl, hR, hB, hl⟩, hi, hk⟩ := hrel
        obtain ⟨n, hn⟩ : ∃ n, ats.length = n := ⟨_, rfl⟩
        rw [hn] at hi hk hl
        subst hi
        have s0 := hS.s0
        have s1 := hS.s1
        have HA : Aside (Spread ats wds vals sum ∧ Below w.heap.size w wr ∧ ats.length = n) := ⟨hS, hB, hn⟩
        clear hS hn
        by_cases h1 : n < len1
        · by_cases h2 : n < len0
          · by_cases h3 : n < 10
            · obtain ⟨e1, r1, r2⟩ := c1 n h1
              obtain ⟨e0, r3, r4⟩ := c0 n h2
              have e1' : wr.cell? ⟨b1, o1 + n, none⟩ = some (.int .i64 (nth z1 n)) := (hB.cell lt1).trans e1
              have e0' : wr.cell? ⟨b0, o0 + n, none⟩ = some (.int .i64 (nth z0 n)) := (hB.cell lt0).trans e0
              clear e0 e1 c0 c1
              obtain ⟨d, hd⟩ : ∃ d, withinI (nth z1 n) 1 12 = d := ⟨_, rfl⟩
              obtain ⟨d1, d2⟩ : 1 ≤ d ∧ d ≤ 12 := hd ▸ within_bd (nth z1 n) 1 12 (by omega)
              by_cases hsum : 64 < sum + d
              · go_wp2_with (go_at_call 21; refine (within_any _ _ _ _ ?_ ?_ ?_ ?_ ?_).mono ?_; assumption; assumption; omega; omega; omega; rintro e w' ⟨rfl, rfl⟩)
                go_meet
                case rel =>
                  obtain ⟨hS, hB, hn⟩ := HA.out
                  exact ⟨ats, wds, vals, sum, hS, rfl, hR, hB, by omega⟩
              · go_upto_region 8 with (go_at_call 21; refine (within_any _ _ _ _ ?_ ?_ ?_ ?_ ?_).mono ?_; assumption; assumption; omega; omega; omega; rintro e w' ⟨rfl, hw⟩; obtain rfl := hw.symm)
                go_cut [7, 8, 9] (fun v7' v8' v9' wc => Rows3 w.heap.size wc v7' v8' v9' (ats ++ [sum]) (wds ++ [d]) (vals ++ [wrapI (nth z0 n) d]) ∧ Below w.heap.size w wc)
                case first =>
                  have hlen : ats.length ≤ 1000 ∧ wds.length ≤ 1000 ∧ vals.length ≤ 1000 := by
                    obtain ⟨hS, hB, hn⟩ := HA.out
                    have := hS.lw
                    have := hS.lv
                    omega
                  obtain ⟨l1, l2, l3⟩ := hlen
                  have i0 : (0 : Int) ≤ (n : Int) := by omega
                  have i1 : (n : Int) < (len0 : Int) := by omega
                  have hbs := hR.base
                  have hne0 : some wr.heap.size ≠ u7.ownBlock := fun e => by have := (hR.lt _ e.symm).2; omega
                  have hne1 : some (wr.heap.size + 1) ≠ u7.ownBlock := fun e => by have := (hR.lt _ e.symm).2; omega
                  have e0w : w.cell? ⟨b0, o0 + n, none⟩ = some (.int .i64 (nth z0 n)) := by rw [← hB.cell lt0]; exact e0'
                  have HW : Hid (w.cell? ⟨b0, o0 + n, none⟩ = some (.int .i64 (nth z0 n))) := e0w
                  clear e0w e1'
                  go_region_held3 (fun w' => w'.cell? ⟨b0, o0 + n, none⟩ = some (.int .i64 (nth z0 n)))
                    (first | exact (hT1.cell lt0).trans HW.out | exact (hT2.cell lt0).trans HW.out | exact (hT3.cell lt0).trans HW.out | go_keep)
                    (first
                      | (go_at_call 10; refine (wrap_any _ _ _).mono ?_; rintro e w' ⟨rfl, hw⟩; obtain rfl := hw.symm)
                      | (refine step_app (by rfl) _ _ (by rfl) (hR.alloc _).drew (by rfl) _ _ sum (by rfl) (heap_alloc_new wr _) l1 ?_; intro p1 x1 hR1 hB1 hk1 hz1; have hT1 := (hB.alloc hbs _).drew.trans hB1)
                      | (refine step_app (by rfl) _ _ (by rfl) ((hR.alloc _).alloc _).drew (by rfl) _ _ sum (by rfl) (two_old wr _ _) l1 ?_; intro p1 x1 hR1 hB1 hk1 hz1; have hT1 := ((hB.alloc hbs _).alloc (hR.alloc _).base _).drew.trans hB1)
                      | (refine step_app (by rfl) _ _ (by rfl) ((hR.alloc _).alloc _).drew (by rfl) _ _ sum (by rfl) (two_new wr _ _) l1 ?_; intro p1 x1 hR1 hB1 hk1 hz1; have hT1 := ((hB.alloc hbs _).alloc (hR.alloc _).base _).drew.trans hB1)
                      | (refine step_app (by rfl) _ _ (by rfl) (hR1.rot.alloc _) (by rfl) _ _ d (by rfl) (heap_alloc_new x1 _) l2 ?_; intro p2 x2 hR2 hB2 hk2 hz2; have hT2 := (hT1.alloc hR1.base _).trans hB2)
                      | (refine step_app (by rfl) _ _ (by rfl) hR1.rot (by rfl) _ _ d (by rfl) ((hk1 (wr.heap.size + 1) (two_lt wr _ _).2 hne1).trans (two_new wr _ _)) l2 ?_; intro p2 x2 hR2 hB2 hk2 hz2; have hT2 := hT1.trans hB2)
                      | (refine step_app (by rfl) _ _ (by rfl) hR1.rot (by rfl) _ _ d (by rfl) ((hk1 wr.heap.size (two_lt wr _ _).1 hne0).trans (two_old wr _ _)) l2 ?_; intro p2 x2 hR2 hB2 hk2 hz2; have hT2 := hT1.trans hB2)
                      | (refine step_app (by rfl) _ _ (by rfl) (hR2.rot.alloc _) (by rfl) _ _ (wrapI (nth z0 n) d) (by rfl) (heap_alloc_new x2 _) l3 ?_; intro p3 x3 hR3 hB3 hk3 hz3; have hT3 := (hT2.alloc hR2.base _).trans hB3))
                  all_goals
                    go_wp2_with fail
                    go_meet
                    case rel => exact ⟨hR3.rot, hT3⟩
                case rest =>
                  obtain ⟨hR', hB'⟩ := hcut
                  go_wp2
                  go_roundg (gk - 1)
                  case measure => omega
                  case rel =>
                    obtain ⟨hS, hB, hn⟩ := HA.out
                    exact ⟨_, _, _, _, ⟨hS.snoc (nth z0 n) d1 d2 (by omega), rfl, hR', hB', by simp; omega⟩, by simp [hn], by simp; omega⟩
            · go_wp2
              go_meet
              case rel =>
                obtain ⟨hS, hB, hn⟩ := HA.out
                exact ⟨ats, wds, vals, sum, hS, rfl, hR, hB, by omega⟩
          · go_wp2
            go_meet
            case rel =>
              obtain ⟨hS, hB, hn⟩ := HA.out
              exact ⟨ats, wds, vals, sum, hS, rfl, hR, hB, by omega⟩
        · go_wp2
          go_meet
          case rel =>
            obtain ⟨hS, hB, hn⟩ := HA.out
            exact ⟨ats, wds, vals, sum, hS, rfl, hR, hB, by omega⟩
    · go_wp2_with fail
      go_loopg [7, 8, 9, 10, 11] 0 (fun _ v7 v8 v9 s i wr => v7 = .slice none 0 0 ∧ v8 = .slice none 0 0 ∧ v9 = .slice none 0 0 ∧ s = .int .i64 0 ∧ i = .int .i64 0 ∧ wr = w)
      case atStart => exact ⟨rfl, rfl, rfl, rfl, rfl, rfl⟩
      case round =>
        obtain ⟨rfl, rfl, rfl, rfl, rfl, rfl⟩ := hrel
        have hz' : len1 = 0 ∨ len0 = 0 ∧ 0 < len1 := by omega
        rcases hz' with h | ⟨h, h'⟩
        all_goals
          subst h
          go_wp2
          go_meet
          case rel => exact ⟨[], [], [], 0, Spread.nil, rfl, Rows3.nil _ _ (Nat.le_refl _), Below.refl _ _, by simp⟩
  case rest =>
    obtain ⟨ats, wds, vals, sum, hS, rfl, hR, hB, hl⟩ := hcut
    obtain ⟨a7, c7, rfl, f7⟩ := hR.ou.form
    obtain ⟨a8, c8, rfl, f8⟩ := hR.ov.form
    obtain ⟨a9, c9, rfl, f9⟩ := hR.oz.form
    have s0 := hS.s0
    have s1 := hS.s1
    have lw := hS.lw
    have lv := hS.lv
    rw [lw] at f8
    rw [lv] at f9
    rw [lw, lv]
    obtain ⟨n, hn⟩ : ∃ n, ats.length = n := ⟨_, rfl⟩
    rw [hn] at f7 f8 f9 hl
    rw [hn]
    have HA : Aside (Spread ats wds vals sum ∧ ats.length = n ∧ Putted ats wds vals sum 0 (fun _ => False)) := ⟨hS, hn, Putted.start _ _ _ _ s0 s1⟩
    clear hS hR lw lv hn w0 w1
    go_wp2
    go_loopg [13, 64] n (fun k wd i wr => ∃ (j : Nat) (word : Int), j + k = n ∧ wd = .int .u64 word ∧ i = .int .i64 (j : Int) ∧ Putted ats wds vals sum word (fun m => if a2 = true then n ≤ m + j else m < j) ∧ ∃ q, wr = wc.drewN q)
    case atStart =>
      obtain ⟨hS, hn, hP⟩ := HA.out
      exact ⟨0, 0, by omega, rfl, rfl, hP.mono (fun m hm h => by split at h <;> omega), 0, rfl⟩
    case round =>
      obtain ⟨j, word, hj, rfl, rfl, hP, q, hw⟩ := hrel
      have b0 := hP.b0
      have b1 := hP.b1
      have HW : Hid (wr = wc.drewN q) := hw
      clear hw
      by_cases hlt : j < n
      · obtain ⟨g7, rfl, t7⟩ := f7 (by omega)
        obtain ⟨g8, rfl, t8⟩ := f8 (by omega)
        obtain ⟨g9, rfl, t9⟩ := f9 (by omega)
        obtain ⟨m, hm, hmn⟩ : ∃ m : Nat, (if a2 = true then (m : Int) = (n : Int) - 1 - (j : Int) else m = j) ∧ m < n := by
          cases a2
          · exact ⟨j, rfl, hlt⟩
          · exact ⟨n - 1 - j, by simp; omega, by omega⟩
        have q7 : wr.cell? ⟨g7, m, none⟩ = some (.int .i64 (nth ats m)) := by rw [HW.out]; exact t7 m hmn
        have q8 : wr.cell? ⟨g8, m, none⟩ = some (.int .i64 (nth wds m)) := by rw [HW.out]; exact t8 m hmn
        have q9 : wr.cell? ⟨g9, m, none⟩ = some (.int .i64 (nth vals m)) := by rw [HW.out]; exact t9 m hmn
        have HP : Aside (Putted ats wds vals sum word (fun m => if a2 = true then n ≤ m + j else m < j)) := hP
        clear hP t7 t8 t9 f7 f8 f9
        have k0 : (0 : Int) ≤ (m : Int) := by omega
        have k1 : (m : Int) < (n : Int) := by omega
        obtain ⟨v0, v1⟩ := u64_bd (nth vals m)
        have HN : Aside (Putted ats wds vals sum (putI word (nth ats m) (nth wds m) (IntKind.u64.wrap (nth vals m))) (fun m => if a2 = true then n ≤ m + (j + 1) else m < j + 1)) := by
          obtain ⟨hS, hn, _⟩ := HA.out
          refine (HP.out.step hS m (by omega)).mono ?_
          intro i hi h
          cases a2
          · simp at h hm ⊢; omega
          · simp at h hm ⊢; omega
        cases a2
        · obtain rfl : m = j := by simpa using hm
          go_wp2
          go_quiet ((go_at_call 9; exact Calls.quiet_of (put_any _ _ _ _ _ b0 b1 v0 v1)))
          go_wp2
          go_roundg (gk - 1)
          case measure => omega
          case rel => exact ⟨m + 1, _, by omega, rfl, by go_num, HN.out, _, by rw [HW.out, World.drewN_drewN]⟩
        · have hm' : (n : Int) - 1 - (j : Int) = (m : Int) := by simp at hm; omega
          clear hm
          go_wp2
          go_quiet ((go_at_call 9; exact Calls.quiet_of (put_any _ _ _ _ _ b0 b1 v0 v1)))
          go_wp2
          go_roundg (gk - 1)
          case measure => omega
          case rel => exact ⟨j + 1, _, by omega, rfl, by go_num, HN.out, _, by rw [HW.out, World.drewN_drewN]⟩
      · have HG : Aside (∀ m, m < n → signedI word (nth ats m) (nth wds m) = nth vals m) := by
          obtain ⟨hS, hn, _⟩ := HA.out
          intro m hm
          refine hP.got m (by omega) ?_
          split <;> omega
        have hr := hP.rest
        clear hP
        go_wp2
        go_loopg [92] n (fun k i w3 => ∃ j : Nat, j + k = n ∧ i = .int .i64 (j : Int) ∧ ∃ q, w3 = wc.drewN q)
        case atStart => exact ⟨0, by omega, rfl, q, HW.out⟩
        case round =>
          clear HW
          obtain ⟨i, hi, rfl, q3, hw⟩ := hrel
          have hB3 : Below w.heap.size w wr := by rw [hw]; exact below_drewN hB _
          have HW : Hid (wr = wc.drewN q3) := hw
          clear hw
          by_cases hlt : i < n
          · obtain ⟨g7, rfl, t7⟩ := f7 (by omega)
            obtain ⟨g8, rfl, t8⟩ := f8 (by omega)
            obtain ⟨g9, rfl, t9⟩ := f9 (by omega)
            have q7 : wr.cell? ⟨g7, i, none⟩ = some (.int .i64 (nth ats i)) := by rw [HW.out]; exact t7 i hlt
            have q8 : wr.cell? ⟨g8, i, none⟩ = some (.int .i64 (nth wds i)) := by rw [HW.out]; exact t8 i hlt
            have q9 : wr.cell? ⟨g9, i, none⟩ = some (.int .i64 (nth vals i)) := by rw [HW.out]; exact t9 i hlt
            have hg := HG.out i hlt
            clear t7 t8 t9 f7 f8 f9
            have k0 : (0 : Int) ≤ (i : Int) := by omega
            have k1 : (i : Int) < (n : Int) := by omega
            go_wp2
            go_quiet ((go_at_call 11; exact Calls.quiet_of (signed_any _ _ _ _ b0 b1)))
            go_wp2
            go_roundg (gk - 1)
            case measure => omega
            case rel => exact ⟨i + 1, by omega, by go_num, _, by rw [HW.out, World.drewN_drewN]⟩
          · by_cases h64 : sum = 64
            · go_wp2_with (go_at_call 3; refine (runs_any _).mono ?_; rintro e w' ⟨rfl, n, rfl⟩)
              go_ret
              exact ⟨rfl, below_drewN hB3 _⟩
            · have hr' : getI word sum (64 - sum) = 0 := by
                rcases hr with h | h
                · exact (h64 h).elim
                · exact h
              clear hr
              go_wp2_with (first
                | (go_at_call 16; refine (get_any _ _ _ _ ?_ ?_).mono ?_; assumption; assumption; rintro e w' ⟨rfl, n, rfl⟩)
                | (go_at_call 3; refine (runs_any _).mono ?_; rintro e w' ⟨rfl, n, rfl⟩))
              go_ret
              exact ⟨rfl, below_drewN hB3 _⟩

end Go.Proofs.Ytlpmnkkfphjhbaa
