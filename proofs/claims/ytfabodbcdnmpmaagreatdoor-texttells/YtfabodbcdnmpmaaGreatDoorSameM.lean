/- What the statements' own questions answer: are two rows of words the same (copsebook.Same), are two models the same (copsekeep.Models)? -/
import Derived.Test.YtfabodbcdnmpmaaGreatDoorTextU
import Derived.ChangeKeysEq
namespace Go.Proofs.YtfabodbcdnmpmaaGreatDoor
open Go.RowKit M

theorem wd_eq {xs ys : List Int} (hl : xs.length = ys.length) (h : ∀ i, i < xs.length → wd xs i = wd ys i) : xs = ys := by
  refine List.ext_getElem hl fun i h1 h2 => ?_
  have := h i h1
  simpa [wd, h1, h2] using this

set_option maxRecDepth 100000 in
set_option maxHeartbeats 1600000 in
theorem same_w {a1 a2 : Option Addr} {n1 n2 c1 c2 : Nat} {xs ys : List Int} {b : Bool} {ww : World} (h1 : IsW ww a1 n1 c1 xs) (h2 : IsW ww a2 n2 c2 ys) (hb : b = true ↔ xs = ys) :
    AnsW ww 28 #[.slice a1 n1 c1, .slice a2 n2 c2] (.bool b) := fun w hjw => by
  have hcap := h1.cap
  have hmax := h1.max
  unfold maxLen at hmax
  have hx := h1.len
  have hy := h2.len
  by_cases hn : n1 = n2
  · subst hn
    have H1 := hid (h1.jk hjw)
    have H2 := hid (h2.jk hjw)
    have HB := hid hb
    clear h1 h2 hjw hb
    go_enter Tryz.func28, Tryz.ntmps28
    go_wp2
    go_loopg [5] n1 (fun k i wr => ∃ j : Nat, j + k = n1 ∧ i = .int .i64 (j : Int) ∧ Hid (∀ q, q < j → wd xs q = wd ys q) ∧ Hid (Jk w wr))
    case atStart => exact ⟨0, by omega, rfl, hid (fun q hq => by omega), hid (Jk.refl _)⟩
    case round =>
      obtain ⟨j, hj, rfl, HE, HW⟩ := hrel
      by_cases hlt : j < n1
      · obtain ⟨g1, o1, rfl, hg1, q1⟩ := H1.out.lies (by omega)
        obtain ⟨g2, o2, rfl, hg2, q2⟩ := H2.out.lies (by omega)
        have e1 : wr.cell? ⟨g1, o1 + j, none⟩ = some (.int .u64 (wd xs j)) := (q1.jk HW.out hg1) j (by omega)
        have e2 : wr.cell? ⟨g2, o2 + j, none⟩ = some (.int .u64 (wd ys j)) := (q2.jk HW.out hg2) j (by omega)
        have i0 : (0 : Int) ≤ (j : Int) := by omega
        have i1 : (j : Int) < (n1 : Int) := by omega
        have HS : Hid (wd xs j = wd ys j → ∀ q, q < j + 1 → wd xs q = wd ys q) := fun h q hq => by
          by_cases e : q = j
          · exact e ▸ h
          · exact HE.out q (by omega)
        have HNo : Hid (wd xs j ≠ wd ys j → b = false) := fun h => by
          cases b
          · rfl
          · exact absurd (by rw [HB.out.1 rfl]) h
        obtain ⟨x, hx'⟩ : ∃ x, wd xs j = x := ⟨_, rfl⟩
        obtain ⟨y, hy'⟩ : ∃ y, wd ys j = y := ⟨_, rfl⟩
        rw [hx'] at e1 HS HNo
        rw [hy'] at e2 HS HNo
        clear q1 q2 hx' hy' hx hy
        by_cases hxy : x = y
        · subst hxy
          go_wp2
          go_quiet (fail)
          go_wp2
          go_roundg (gk - 1)
          case measure => omega
          case rel => exact ⟨j + 1, by omega, by go_num, hid (HS.out trivial), hid (HW.out.drewN _)⟩
        · obtain rfl : false = b := (HNo.out hxy).symm
          go_wp2
          go_quiet (fail)
          go_wp2
          go_ret
          exact ⟨rfl, HW.out.drewN _⟩
      · obtain rfl : true = b := (HB.out.2 (wd_eq (by omega) fun i hi => HE.out i (by omega))).symm
        clear hx hy
        go_wp2
        go_ret
        exact ⟨rfl, HW.out⟩
  · obtain rfl : false = b := (Bool.eq_false_iff.2 fun e => hn (by rw [← hx, ← hy, hb.1 e])).symm
    have hn' : ¬ (n1 : Int) = (n2 : Int) := by omega
    clear h1 h2 hjw hb hx hy
    go_enter Tryz.func28, Tryz.ntmps28
    go_wp2
    go_ret
    exact ⟨rfl, Jk.refl _⟩

/-! '==' of biases -/
theorem intInfo : ∃ i, Tryz.prog.info? 3 = some i := by
  have h : (Tryz.prog.info? 3).isSome = true := by kernel_rfl
  exact Option.isSome_iff_exists.1 h
theorem intCells : Tryz.prog.cellsOf 3 = 1 := by kernel_rfl
theorem eq_bias (a b c a' b' c' : Int) (w : World) : (Op.equalIn 10000 22 (.agg #[.int .i64 a, .int .i64 b, .int .i64 c]) (.agg #[.int .i64 a', .int .i64 b', .int .i64 c'])).run Tryz.prog w = .ok (a == a' && b == b' && c == c') w := by
  obtain ⟨i, hi⟩ := intInfo
  have p0 : ∀ (x y z : Int) (w : World), (part 3 #[.int .i64 x, .int .i64 y, .int .i64 z] 0).run Tryz.prog w = .ok (.int .i64 x) w := fun x y z w => by kernel_rfl
  have p1 : ∀ (x y z : Int) (w : World), (part 3 #[.int .i64 x, .int .i64 y, .int .i64 z] 1).run Tryz.prog w = .ok (.int .i64 y) w := fun x y z w => by kernel_rfl
  have p2 : ∀ (x y z : Int) (w : World), (part 3 #[.int .i64 x, .int .i64 y, .int .i64 z] 2).run Tryz.prog w = .ok (.int .i64 z) w := fun x y z w => by kernel_rfl
  have hr : List.range 3 = [0, 1, 2] := rfl
  have e1 := fun (a b : Int) (w : World) => run_equalIn_int (P := Tryz.prog) w 9998 3 .i64 .i64 a b Tryz.underlying3
  rw [run_equalIn_array w 9999 _ _ Tryz.underlying22 hi, intCells, hr]
  simp only [Op.eqItems, Sem.run_bind, Nat.zero_mul, Nat.one_mul, show 2 * 1 = 2 from rfl, p0, p1, p2, Result.andThen_ok, e1, Sem.run_ite]
  by_cases h0 : a = a'
  · by_cases h1 : b = b'
    · by_cases h2 : c = c' <;> simp [h0, h1, h2]
    · simp [h0, h1]
  · simp [h0]

theorem pm_eq {m1 m2 : Md} : m1.pm = m2.pm ↔ m1.d = m2.d ∧ m1.k = m2.k ∧ (m1.b0 = m2.b0 ∧ m1.b1 = m2.b1 ∧ m1.b2 = m2.b2) ∧ m1.ts.length = m2.ts.length ∧ ∀ i, i < m1.ts.length → (tA m1.ts i).cl = (tA m2.ts i).cl ∧ (tA m1.ts i).ws = (tA m2.ts i).ws := by
  obtain ⟨d, k, b0, b1, b2, a, n, c, ts⟩ := m1
  obtain ⟨d', k', b0', b1', b2', a', n', c', ts'⟩ := m2
  simp only [Md.pm, Pm.mk.injEq]
  constructor
  · rintro ⟨h1, h2, h3, h4, h5, h6⟩
    have hl : ts.length = ts'.length := by have := congrArg List.length h6; simpa using this
    refine ⟨h1, h2, ⟨h3, h4, h5⟩, hl, fun i hi => ?_⟩
    have := congrArg (fun l => l[i]?) h6
    simp [hi, hl ▸ hi, Tr.pt] at this
    simp [tA, hi, hl ▸ hi, this]
  · rintro ⟨h1, h2, ⟨h3, h4, h5⟩, hl, h6⟩
    refine ⟨h1, h2, h3, h4, h5, List.ext_getElem (by simpa using hl) fun i q1 q2 => ?_⟩
    simp at q1 q2
    have := h6 i q1
    simp [tA, q1, q2] at this
    simp [Tr.pt, this]

set_option maxRecDepth 100000 in
set_option maxHeartbeats 3200000 in
theorem models_ans {m1 m2 : Md} {b : Bool} {ww : World} (h1 : m1.ok ww) (h2 : m2.ok ww) (hb : b = true ↔ m1.pm = m2.pm) : AnsW ww 9 #[modelV m1, modelV m2] (.bool b) := fun w hjw => by
  have J := rules8
  rw [pm_eq] at hb
  have hT1 := (h1.jk hjw).is
  have hT2 := (h2.jk hjw).is
  obtain ⟨d, k, b0, b1, b2, a, n, c, ts⟩ := m1
  obtain ⟨d', k', b0', b1', b2', a', n', c', ts'⟩ := m2
  simp only at hb hT1 hT2
  rw [hT1.len, hT2.len] at hb
  have HB := hid hb
  have hcap := hT1.cap
  have hmax := hT1.max
  unfold maxLen at hmax
  obtain ⟨w0, hw0⟩ : ∃ w0, (w.alloc (.cells #[.int .i64 d, .int .i64 k, .int .i64 b0, .int .i64 b1, .int .i64 b2, .slice a n c] 25)).alloc (.cells #[.int .i64 d', .int .i64 k', .int .i64 b0', .int .i64 b1', .int .i64 b2', .slice a' n' c'] 25) = w0 := ⟨_, rfl⟩
  have HJ0 : Hid (Jk w w0) := hw0 ▸ ((Jk.refl w).alloc _).alloc _
  have HI1 : Hid (MdIn w0 w.heap.size ⟨d, k, b0, b1, b2, a, n, c, ts⟩) := hw0 ▸ (MdIn.laid w ⟨d, k, b0, b1, b2, a, n, c, ts⟩ _).jk ((Jk.refl _).alloc _)
  have HI2 : Hid (MdIn w0 (w.heap.size + 1) ⟨d', k', b0', b1', b2', a', n', c', ts'⟩) := by
    rw [← hw0]
    have := MdIn.laid (w.alloc (.cells #[.int .i64 d, .int .i64 k, .int .i64 b0, .int .i64 b1, .int .i64 b2, .slice a n c] 25)) ⟨d', k', b0', b1', b2', a', n', c', ts'⟩ 25
    rwa [World.size_alloc] at this
  have HT1 := hid (hT1.jk HJ0.out)
  have HT2 := hid (hT2.jk HJ0.out)
  obtain ⟨s1, p0, p1, p2, p3, p4, p5⟩ := HI1.out
  obtain ⟨s2, q0, q1, q2, q3, q4, q5⟩ := HI2.out
  simp only at p0 p1 p2 p3 p4 p5 q0 q1 q2 q3 q4 q5
  have HQ := fun w => eq_bias b0 b1 b2 b0' b1' b2' w
  clear h1 h2 hjw hb hT1 hT2
  by_cases hd : d = d'
  case neg =>
    obtain rfl : false = b := (Bool.eq_false_iff.2 fun e => hd (HB.out.1 e).1).symm
    go_enter Tryz.func9, Tryz.ntmps9
    go_wp2
    go_ret
    exact ⟨rfl, HJ0.out⟩
  subst hd
  by_cases hk : k = k'
  case neg =>
    obtain rfl : false = b := (Bool.eq_false_iff.2 fun e => hk (HB.out.1 e).2.1).symm
    go_enter Tryz.func9, Tryz.ntmps9
    go_wp2
    go_ret
    exact ⟨rfl, HJ0.out⟩
  subst hk
  by_cases hbb : b0 = b0' ∧ b1 = b1' ∧ b2 = b2'
  case neg =>
    have e : (b0 == b0' && b1 == b1' && b2 == b2') = false := by
      simp only [Bool.and_eq_false_iff, beq_eq_false_iff_ne]
      by_cases h0 : b0 = b0'
      · by_cases h1 : b1 = b1'
        · exact .inr fun h => hbb ⟨h0, h1, h⟩
        · exact .inl (.inr h1)
      · exact .inl (.inl h0)
    simp only [e] at HQ
    obtain rfl : false = b := (Bool.eq_false_iff.2 fun e => hbb (HB.out.1 e).2.2.1).symm
    clear e
    go_enter Tryz.func9, Tryz.ntmps9
    go_wp2
    go_ret
    exact ⟨rfl, HJ0.out⟩
  obtain ⟨rfl, rfl, rfl⟩ := hbb
  simp only [beq_self_eq_true, Bool.and_self] at HQ
  by_cases hn : n = n'
  case neg =>
    obtain rfl : false = b := (Bool.eq_false_iff.2 fun e => hn (HB.out.1 e).2.2.2.1).symm
    have hn' : ¬ (n : Int) = (n' : Int) := by omega
    go_enter Tryz.func9, Tryz.ntmps9
    go_wp2
    go_ret
    exact ⟨rfl, HJ0.out⟩
  subst hn
  have HL : Hid (ts.length = n ∧ ts'.length = n) := ⟨HT1.out.len, HT2.out.len⟩
  have HB2 : Hid (b = true ↔ ∀ i, i < n → (tA ts i).cl = (tA ts' i).cl ∧ (tA ts i).ws = (tA ts' i).ws) := ⟨fun h => (HB.out.1 h).2.2.2.2, fun h => HB.out.2 ⟨rfl, rfl, ⟨rfl, rfl, rfl⟩, rfl, h⟩⟩
  clear HB
  go_enter Tryz.func9, Tryz.ntmps9
  go_wp2
  clear hw0
  go_loopg [37] n (fun r i wr => ∃ j : Nat, j + r = n ∧ i = .int .i64 (j : Int) ∧ Hid (∀ q, q < j → (tA ts q).cl = (tA ts' q).cl ∧ (tA ts q).ws = (tA ts' q).ws) ∧ Hid (Jk w0 wr))
  case atStart => exact ⟨0, by omega, rfl, hid (fun q hq => by omega), hid (Jk.refl _)⟩
  case round =>
    obtain ⟨j, hj, rfl, HE, HJ⟩ := hrel
    clear s1 p0 p1 p2 p3 p4 p5 s2 q0 q1 q2 q3 q4 q5 HQ
    by_cases hfuel : gk = 0
    · subst hfuel
      obtain rfl : j = n := by omega
      obtain rfl : true = b := (HB2.out.2 HE.out).symm
      go_wp2
      go_ret
      exact ⟨rfl, HJ0.out.trans HJ.out⟩
    · obtain ⟨r, rfl⟩ : ∃ r, gk = r + 1 := ⟨gk - 1, by omega⟩
      have hjn : (j : Int) < (n : Int) := by omega
      have hj0 : (0 : Int) ≤ (j : Int) := by omega
      obtain ⟨g1, o1, rfl, hg1, at1⟩ := HT1.out.lies (by omega)
      obtain ⟨g2, o2, rfl, hg2, at2⟩ := HT2.out.lies (by omega)
      obtain ⟨s1, p0, p1, p2, p3, p4, p5⟩ := HI1.out.jk HJ.out
      obtain ⟨s2, q0, q1, q2, q3, q4, q5⟩ := HI2.out.jk HJ.out
      simp only at p5 q5
      have hr1 : g1 < wr.heap.size := Nat.lt_of_lt_of_le hg1 HJ.out.below.size
      have hr2 : g2 < wr.heap.size := Nat.lt_of_lt_of_le hg2 HJ.out.below.size
      obtain ⟨x0, x1⟩ := (at1.jk HJ.out hg1) j (by have := HL.out.1; omega)
      obtain ⟨y0, y1⟩ := (at2.jk HJ.out hg2) j (by have := HL.out.2; omega)
      have ok1 := (HT1.out.all j (by omega)).jk HJ.out
      have ok2 := (HT2.out.all j (by omega)).jk HJ.out
      have HNo : Hid (¬ ((tA ts j).cl = (tA ts' j).cl ∧ (tA ts j).ws = (tA ts' j).ws) → b = false) := fun h => by
        cases b
        · rfl
        · exact absurd (HB2.out.1 rfl j (by omega)) h
      have HSt : Hid ((tA ts j).cl = (tA ts' j).cl ∧ (tA ts j).ws = (tA ts' j).ws → ∀ q, q < j + 1 → (tA ts q).cl = (tA ts' q).cl ∧ (tA ts q).ws = (tA ts' q).ws) := fun h q hq => by
        by_cases e : q = j
        · exact e ▸ h
        · exact HE.out q (by omega)
      obtain ⟨t1, ht1⟩ : ∃ t, tA ts j = t := ⟨_, rfl⟩
      obtain ⟨t2, ht2⟩ : ∃ t, tA ts' j = t := ⟨_, rfl⟩
      rw [ht1] at x0 x1 ok1 HNo HSt
      rw [ht2] at y0 y1 ok2 HNo HSt
      obtain ⟨cl1, ta1, tn1, tc1, tw1⟩ := t1
      obtain ⟨cl2, ta2, tn2, tc2, tw2⟩ := t2
      simp only at x0 x1 y0 y1
      obtain ⟨sb, hsb⟩ : ∃ sb : Bool, sb = true ↔ tw1 = tw2 := ⟨decide (tw1 = tw2), by simp⟩
      have HS := hid (same_w ok1.is ok2.is hsb)
      have HSb := hid hsb
      simp only at HS
      clear ht1 ht2 ok1 ok2 at1 at2 hsb p0 p1 p2 p3 p4 q0 q1 q2 q3 q4
      by_cases hc : cl1 = cl2
      case neg =>
        obtain rfl : false = b := (HNo.out (fun h => hc h.1)).symm
        have hc1 : (cl1 == cl2) = false := by simpa using hc
        have hc2 : (cl1 != cl2) = true := by simpa using hc
        go_wp2_with fail
        refine region_junk (by kernel_rfl) (by kernel_rfl) ?_
        repeat (go_big_quiet_step (first | exact rfl))
        refine wpQuiet_nil ?_
        rintro _ ⟨X, rfl⟩
        go_wp2
        go_ret
        exact ⟨rfl, (HJ0.out.trans HJ.out).junk X⟩
      subst hc
      cases sb
      · obtain rfl : false = b := (HNo.out (fun h => by have := HSb.out.2 h.2; cases this)).symm
        go_wp2_with fail
        refine region_junk (by kernel_rfl) (by kernel_rfl) ?_
        repeat (go_big_quiet_step (first | (go_at_call 28; exact AnsW.junk (by with_reducible exact HS.out) _) | exact rfl))
        refine wpQuiet_nil ?_
        rintro _ ⟨X, rfl⟩
        go_wp2
        go_ret
        exact ⟨rfl, (HJ0.out.trans HJ.out).junk X⟩
      · go_wp2_with fail
        refine region_junk (by kernel_rfl) (by kernel_rfl) ?_
        repeat (go_big_quiet_step (first | (go_at_call 28; exact AnsW.junk (by with_reducible exact HS.out) _) | exact rfl))
        refine wpQuiet_nil ?_
        rintro _ ⟨X, rfl⟩
        go_wp2
        go_roundg r
        case measure => omega
        case rel => exact ⟨j + 1, by omega, by go_num, hid (HSt.out ⟨trivial, HSb.out.1 trivial⟩), hid (HJ.out.junk X)⟩

end Go.Proofs.YtfabodbcdnmpmaaGreatDoor
