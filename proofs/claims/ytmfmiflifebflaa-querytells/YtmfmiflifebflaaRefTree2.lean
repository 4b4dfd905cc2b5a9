/- What the document's own RightTree (copseref6, chapter 7) answers: the same words as the contract of the code. It counts names in a map of its own. -/
import Derived.Test.YtmfmiflifebflaaTreeA
import Derived.Test.YtmfmiflifebflaaRefNode3
import Derived.Maps.OwnOps
import Derived.Maps.Views
import Derived.Maps.OwnSet
import Derived.WalkSpells
import Derived.Carry
namespace Go.Proofs.Ytmfmiflifebflaa
open Go.RowKit Go.Maps M

theorem lawI : Keyed Try.prog 3 := int_keyed Try.underlying3
theorem zeroI (w : World) : (zeroValue 3).run Try.prog w = .ok (.int .i64 0) w := by kernel_rfl
theorem wfI {a : Int} (h1 : -9223372036854775808 ≤ a) (h2 : a ≤ 9223372036854775807) : (Lit.int .i64 a).wf = true := by
  simp [Lit.wf, IntKind.min, IntKind.max, IntKind.signed, IntKind.bits]
  omega
/-- block b is a map of ints to ints, of at most n entries, that says f -/
def MapF (w : World) (b n : Nat) (f : Nat → Int) : Prop := ∃ D : DataW Unit, w.ownsMap Try.prog 3 (plainElem Try.prog 3) b n D ∧ ∀ q : Nat, q ≤ 1000 → D.atKey (.int .i64 (q : Int)) (.lit (.int .i64 0)) = .lit (.int .i64 (f q))
theorem MapF.made (w : World) : MapF (w.alloc (.map #[] 0)) w.heap.size 0 (fun _ => 0) := ⟨.map [], World.ownsMap_made _ _ _ _, fun _ _ => rfl⟩
theorem MapF.congr {w : World} {b n : Nat} {f g : Nat → Int} (h : MapF w b n f) (e : ∀ q, q ≤ 1000 → f q = g q) : MapF w b n g := by
  obtain ⟨D, h1, h2⟩ := h
  exact ⟨D, h1, fun q hq => by rw [h2 q hq, e q hq]⟩
theorem MapF.lt {w : World} {b n : Nat} {f : Nat → Int} (h : MapF w b n f) : b < w.heap.size := by
  obtain ⟨D, h1, _⟩ := h
  exact h1.lt
theorem MapF.jk {w w' : World} {b n : Nat} {f : Nat → Int} (h : MapF w b n f) (hj : Jk w w') : MapF w' b n f := by
  obtain ⟨D, h1, h2⟩ := h
  exact ⟨D, h1.kept (row := none) ⟨hj.below.os, hj.below.tape, hj.below.output, hj.below.size, fun k hk _ => hj.below.block k hk⟩ (by simp), h2⟩
theorem list_look {ops : Array Oper} {rest : List Oper} {o : Oper} {act : Act} {Q : Exit → Act → World → Prop} {w : World} {b n : Nat} {f : Nat → Int}
    (hg : o.guard = none) (m x : Operand) (hop : o.op = Op.lookup 81 m x false) (hM : MapF w b n f) (hm : act.eval m = .map (some b)) (q : Nat) (hq : q ≤ 1000) (hx : act.eval x = .int .i64 (q : Int))
    (h : wpList Try.prog ops Q rest (act.put o.dst (.int .i64 (f q))) w) : wpList Try.prog ops Q (o :: rest) act w := by
  obtain ⟨D, h1, h2⟩ := hM
  refine wpList_lookup_own_int w hg m x 81 hop 3 3 .i64 lawI Try.underlying81 Try.underlying3 (zeroI w) b n D hm h1 _ (.int .i64 (q : Int)) hx (keyOf_int_mk Try.underlying3 (wfI (by omega) (by omega))) ?_
  intro c hc _
  rw [h2 q hq] at hc
  simp at hc
  rw [← hc]
  exact h
theorem list_upd {ops : Array Oper} {rest : List Oper} {o : Oper} {act : Act} {Q : Exit → Act → World → Prop} {w : World} {b n : Nat} {f : Nat → Int}
    (hg : o.guard = none) (m x v : Operand) (hop : o.op = Op.mapUpdate 81 m x v) (hM : MapF w b n f) (hn : n ≤ 1000) (hm : act.eval m = .map (some b)) (q : Nat) (hq : q ≤ 1000) (hx : act.eval x = .int .i64 (q : Int)) (y : Int) (hy1 : -1000 ≤ y) (hy2 : y ≤ 1000) (hv : act.eval v = .int .i64 y)
    (h : ∀ w', MapF w' b (n + 1) (updN f q y) → w.grownBy w' (some b) → wpList Try.prog ops Q rest (act.put o.dst undef) w') : wpList Try.prog ops Q (o :: rest) act w := by
  obtain ⟨D, h1, h2⟩ := hM
  refine wpList_mapUpdate_own w hg m x v 81 hop 3 3 lawI Try.underlying81 _ b n D hm h1 (by unfold maxLen; omega) _ _ (.int .i64 (q : Int)) hx hv (keyOf_int_mk Try.underlying3 (wfI (by omega) (by omega))) _ [] (plainElem_int Try.underlying3 (wfI (by omega) (by omega))) ?_
  intro w' h3 h4
  refine h w' ⟨_, h3, fun r hr => ?_⟩ h4
  unfold updN
  by_cases e : r = q
  · subst e
    rw [if_pos rfl]
    exact atKey_put_same (h1.tidy lawI).isMap (lawI.key (keyOf_int_mk Try.underlying3 (wfI (by omega) (by omega)))) _ _
  · rw [if_neg e, atKey_put_other (by intro h; injection h with _ h2; exact e (by omega))]
    exact h2 r hr

set_option maxRecDepth 100000 in
set_option maxHeartbeats 1600000 in
theorem rright_tree {a : Option Addr} {n c : Nat} {ws : List Int} {dim : Int} {b : Bool} {w0 : World} (hw0 : IsW w0 a n c ws) (hb : b = true ↔ TreeP ws dim) : AnsW w0 44 #[.slice a n c, .int .i64 dim] (.bool b) := fun w hj0 => by
  have J := rules8
  have hw := hw0.jk hj0
  have HL : Hid (ws.length = n) := hw.len
  have HB := hid hb
  have hm := hw.max
  unfold maxLen at hm
  have hcap := hw.cap
  clear hw0 hj0 hb
  by_cases h1 : n < 1
  · have : b = false := by
      cases b
      · rfl
      · have := (HB.out.1 rfl).full; have := HL.out; omega
    subst this
    have : n = 0 := by omega
    subst this
    clear hw HB
    go_enter Try.func44, Try.ntmps44
    go_wp2
    go_ret
    exact ⟨rfl, Jk.refl _⟩
  · by_cases h2 : 31 < n
    · have : b = false := by
        cases b
        · rfl
        · have := (HB.out.1 rfl).few; have := HL.out; omega
      subst this
      clear hw HB
      go_enter Try.func44, Try.ntmps44
      go_wp2
      go_ret
      exact ⟨rfl, Jk.refl _⟩
    · obtain ⟨g, o, rfl, hg, hat⟩ := hw.lies (by omega)
      have HA := hid hat
      have HBD := hid hw.bd
      have n0 : ¬ (n : Int) < 1 := by omega
      have n1 : ¬ (31 : Int) < (n : Int) := by omega
      have HM := hid (MapF.made w)
      have HJ : Hid (Jk w (w.alloc (.map #[] 0))) := (Jk.refl w).alloc _
      clear hat hw
      have hmm := @run_makeMap Try.prog
      go_enter Try.func44, Try.ntmps44
      go_wp2
      obtain ⟨h, hh⟩ : ∃ h, w.heap.size = h := ⟨_, rfl⟩
      have HH := hid hh
      rw [hh] at HM ⊢
      clear hh hmm
      go_loopg [22] n (fun k i wr => ∃ j : Nat, j + k = n ∧ i = .int .i64 (j : Int) ∧ MapF wr h (2 * j) (fun q => cnt (ndA ws) j q) ∧ Jk w wr ∧ ∀ q, q < j → unB (wd ws q) = true ∧ Fine dim n q (ndA ws q))
      case atStart => exact ⟨0, by omega, rfl, HM.out, HJ.out, fun q hq => by omega⟩
      case round =>
        obtain ⟨j, hj, rfl, hI, hJ, hF⟩ := hrel
        have HI' := hid hI
        have HJ' := hid hJ
        have HF' := hid hF
        have hhs := hI.lt
        clear hI hJ hF HM HJ
        by_cases hlt : j < n
        · have i0 : (0 : Int) ≤ (j : Int) := by omega
          have i1 : (j : Int) < (n : Int) := by omega
          have e1 : wr.cell? ⟨g, o + j, none⟩ = some (.int .u64 (wd ws j)) := (HA.out.jk HJ'.out hg) j (by rw [HL.out]; exact hlt)
          obtain ⟨b1, b2⟩ := HBD.out j hlt
          have HU := hid (runpack_ans (wd ws j) b1 b2)
          have HN : Hid (unI (wd ws j) = ndA ws j) := rfl
          rw [HN.out] at HU
          clear b1 b2
          cases hu : unB (wd ws j)
          · rw [hu] at HU
            have hbf : b = false := by
              cases b
              · rfl
              · have := (HB.out.1 rfl).can j (by rw [HL.out]; exact hlt)
                rw [hu] at this
                cases this
            subst hbf
            go_wp2_with (first | (go_at_call 49; refine (HU.out.on _).mono ?_; rintro e w1 ⟨rfl, X1, rfl⟩))
            go_ret
            exact ⟨rfl, (HJ'.out.junk _).alloc _⟩
          · rw [hu] at HU
            have HR : Hid ((ndA ws j).rightB = true) := (un_of hu).1
            obtain ⟨x, hx⟩ : ∃ x, ndA ws j = x := ⟨_, rfl⟩
            have HX := hid hx
            rw [hx] at HU HR
            obtain ⟨leaf, v, f, a', l, r⟩ := x
            clear hx
            cases leaf
            case true =>
              go_wp2_with (first | (go_at_call 49; refine (HU.out.on _).mono ?_; rintro e w1 ⟨rfl, X1, rfl⟩))
              go_roundg (gk - 1)
              case measure => omega
              case rel =>
                refine ⟨j + 1, by omega, by go_num, ?_, (HJ'.out.junk _).alloc _, fun q hq => ?_⟩
                · obtain ⟨D, d1, d2⟩ := HI'.out.jk (((Jk.refl _).junk X1).alloc _)
                  refine ⟨D, d1.mono (by omega), fun q hq => ?_⟩
                  rw [d2 q hq]
                  simp only [cnt]
                  rw [HX.out, hit_leaf rfl, Int.add_zero]
                · by_cases e : q = j
                  · subst e; exact ⟨hu, by rw [HX.out]; exact .inl rfl⟩
                  · exact HF'.out q (by omega)
            case false =>
              have hR := Nd.right_iff.1 HR.out
              simp [Nd.Right] at hR
              obtain ⟨L, rfl⟩ := Int.eq_ofNat_of_zero_le (show 0 ≤ l by omega)
              obtain ⟨R, rfl⟩ := Int.eq_ofNat_of_zero_le (show 0 ≤ r by omega)
              have HNo : Hid (¬ Fine dim n j ⟨false, v, f, a', L, R⟩ → b = false) := by
                intro hn
                cases b
                · rfl
                · have := (HB.out.1 rfl).shape.fine j (by rw [HL.out]; exact hlt)
                  rw [HX.out, HL.out] at this
                  exact absurd this hn
              by_cases hfi : f < dim ∧ (j : Int) < L ∧ (j : Int) < R ∧ (L : Int) < n ∧ (R : Int) < n ∧ (L : Int) ≠ R
              · obtain ⟨g1, g2, g3, g4, g5, g6⟩ := hfi
                have HFi : Hid (Fine dim n j ⟨false, v, f, a', L, R⟩) := .inr ⟨g1, g2, g3, g4, g5, g6⟩
                have g6' : ((L : Int) == (R : Int)) = false := by simpa using g6
                have hne : ¬ L = R := by omega
                obtain ⟨C1, hC1⟩ : ∃ C, cnt (ndA ws) j L = C := ⟨_, rfl⟩
                obtain ⟨C2, hC2⟩ : ∃ C, cnt (ndA ws) j R = C := ⟨_, rfl⟩
                have b1 := cnt_bd (ndA ws) j L
                have b2 := cnt_bd (ndA ws) j R
                rw [hC1] at b1
                rw [hC2] at b2
                have HC1 := hid hC1
                have HC2 := hid hC2
                have HR2 : Hid (updN (fun q => cnt (ndA ws) j q) L (C1 + 1) R = C2) := by
                  show (if R = L then C1 + 1 else cnt (ndA ws) j R) = C2
                  rw [if_neg (fun e => hne e.symm), hC2]
                have b3 : C1 ≤ 62 := by omega
                have b4 : C2 ≤ 62 := by omega
                clear hC1 hC2 hR HNo
                go_upto_region 14 with (first | (go_at_call 49; refine (HU.out.on _).mono ?_; rintro e w1 ⟨rfl, X1, rfl⟩; have hx1 : h < wr.heap.size + Jn X1 := (by omega)) | (at_lookup; refine list_look rfl _ _ rfl (HI'.out.jk (((Jk.refl _).junk X1).alloc _)) rfl L (by omega) rfl ?_; simp only [HC1.out]) | (at_mapUpdate; refine list_upd rfl _ _ _ rfl (HI'.out.jk (((Jk.refl _).junk X1).alloc _)) (by omega) rfl L (by omega) rfl (C1 + 1) (by omega) (by omega) rfl ?_; intro w2 hM2 hG2; have HM2 := hid hM2; have HG2 := hid hG2; clear hM2 hG2))
                have k5 : w2.cell? ⟨wr.heap.size + Jn X1, 5, none⟩ = some (.int .i64 (R : Int)) := by
                  refine HG2.out.cell (new_cells (junk wr X1) _ _ _ (by rw [junk_size]) 5 _ rfl) ?_
                  intro e
                  simp at e
                  omega
                go_wp2_with (first | (at_lookup; refine list_look rfl _ _ rfl HM2.out rfl R (by omega) rfl ?_; simp only [HR2.out]) | (at_mapUpdate; refine list_upd rfl _ _ _ rfl HM2.out (by omega) rfl R (by omega) rfl (C2 + 1) (by omega) (by omega) rfl ?_; intro w3 hM3 hG3; have HM3 := hid hM3; have HG3 := hid hG3; clear hM3 hG3))
                go_roundg (gk - 1)
                case measure => omega
                case rel =>
                  refine ⟨j + 1, by omega, by go_num, ?_, (((HJ'.out.junk X1).alloc _).grown HG2.out (fun k hk => ?_)).grown HG3.out (fun k hk => ?_), fun q hq => ?_⟩
                  · obtain ⟨D, d1, d2⟩ := HM3.out
                    refine ⟨D, d1.mono (by omega), fun q hq => ?_⟩
                    rw [d2 q hq]
                    congr 2
                    show (if q = R then C2 + 1 else if q = L then C1 + 1 else cnt (ndA ws) j q) = cnt (ndA ws) j q + hit (ndA ws j) q
                    rw [HX.out, hit_other rfl]
                    by_cases e1 : q = R
                    · subst e1
                      rw [if_pos rfl, HC2.out, if_neg (by simp; omega), if_pos rfl]; omega
                    · rw [if_neg e1]
                      by_cases e2 : q = L
                      · subst e2
                        rw [if_pos rfl, HC1.out, if_pos rfl, if_neg (by simp; omega)]; omega
                      · rw [if_neg e2, if_neg (by simp; omega), if_neg (by simp; omega)]; simp
                  · cases hk; rw [HH.out]; exact Nat.le_refl _
                  · cases hk; rw [HH.out]; exact Nat.le_refl _
                  · by_cases e : q = j
                    · subst e; exact ⟨hu, by rw [HX.out]; exact HFi.out⟩
                    · exact HF'.out q (by omega)
              · have hbf : b = false := HNo.out (by
                  rintro (h | h)
                  · cases h
                  · exact hfi h)
                subst hbf
                have hcase : dim ≤ f ∨ (f < dim ∧ (L : Int) ≤ j) ∨ (f < dim ∧ (j : Int) < L ∧ (R : Int) ≤ j) ∨ (f < dim ∧ (j : Int) < L ∧ (j : Int) < R ∧ (n : Int) ≤ L) ∨ (f < dim ∧ (j : Int) < L ∧ (j : Int) < R ∧ (L : Int) < n ∧ (n : Int) ≤ R) ∨ (f < dim ∧ (j : Int) < L ∧ (j : Int) < R ∧ (L : Int) < n ∧ (R : Int) < n ∧ L = R) := by omega
                clear hfi hR HNo HB
                rcases hcase with q1 | ⟨q1, q2⟩ | ⟨q1, q2, q3⟩ | ⟨q1, q2, q3, q4⟩ | ⟨q1, q2, q3, q4, q5⟩ | ⟨q1, q2, q3, q4, q5, rfl⟩
                all_goals
                  go_wp2_with (first | (go_at_call 49; refine (HU.out.on _).mono ?_; rintro e w1 ⟨rfl, X1, rfl⟩))
                  go_ret
                  exact ⟨rfl, (HJ'.out.junk _).alloc _⟩
        · have e : j = n := by omega
          subst e
          obtain ⟨m, rfl⟩ : ∃ m, j = m + 1 := ⟨j - 1, by omega⟩
          go_wp2
          go_loopg [10] m (fun k i wx => wx = wr ∧ ∃ q : Nat, q + k = m ∧ i = .int .i64 ((q + 1 : Nat) : Int) ∧ ∀ y : Nat, 1 ≤ y → y < q + 1 → cnt (ndA ws) (m + 1) y = 1)
          case atStart => exact ⟨rfl, 0, by omega, rfl, fun y _ _ => by omega⟩
          case round =>
            obtain ⟨rfl, q, hq, rfl, hone⟩ := hrel
            have HO1 := hid hone
            clear hone
            by_cases hlt2 : q < m
            · have i0 : (0 : Int) ≤ (q : Int) := by omega
              have i1 : (q : Int) < (m : Int) := by omega
              obtain ⟨C, hC⟩ : ∃ C, cnt (ndA ws) (m + 1) ((q + 1 : Nat) : Int) = C := ⟨_, rfl⟩
              have HC := hid hC
              clear hC
              by_cases hc1 : C = 1
              · subst hc1
                go_wp2_with (at_lookup; refine list_look rfl _ _ rfl HI'.out rfl (q + 1) (by omega) rfl ?_; simp only [HC.out])
                go_roundg (gk - 1)
                case measure => omega
                case rel =>
                  refine ⟨rfl, q + 1, by omega, by go_num, fun y y1 y2 => ?_⟩
                  by_cases e : y = q + 1
                  · subst e; exact HC.out
                  · exact HO1.out y y1 (by omega)
              · have hbf : b = false := by
                  cases b
                  · rfl
                  · have := (HB.out.1 rfl).shape.one (q + 1) (by omega) (by rw [HL.out]; omega)
                    rw [HL.out, HC.out] at this
                    exact absurd this hc1
                subst hbf
                go_wp2_with (at_lookup; refine list_look rfl _ _ rfl HI'.out rfl (q + 1) (by omega) rfl ?_; simp only [HC.out])
                go_ret
                exact ⟨rfl, HJ'.out⟩
            · have hqm : q = m := by omega
              subst hqm
              have hbt : b = true := HB.out.2 ⟨by rw [HL.out]; omega, by rw [HL.out]; omega, fun i hi => (HF'.out i (by rw [HL.out] at hi; exact hi)).1, by rw [HL.out]; exact ⟨fun i hi => (HF'.out i hi).2, fun y y1 y2 => HO1.out y y1 y2⟩⟩
              subst hbt
              go_wp2
              go_ret
              exact ⟨rfl, HJ'.out⟩

end Go.Proofs.Ytmfmiflifebflaa
