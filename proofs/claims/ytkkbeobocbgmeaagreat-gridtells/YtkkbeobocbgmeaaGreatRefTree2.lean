/- What the document's own Walk and Value (copseref6, chapter 7) answer: the same words as the contracts of the code.
   What the document's own RightTree (copseref6, chapter 7) answers: the same words as the contract of the code. It counts names in a map of its own. -/
import Derived.Test.YtkkbeobocbgmeaaGreatTreeA
import Derived.Test.YtkkbeobocbgmeaaGreatRefNode
import Derived.Maps.OwnOps
import Derived.Maps.Views
import Derived.Maps.OwnSet
import Derived.WalkSpells
import Derived.Carry
namespace Go.Proofs.YtkkbeobocbgmeaaGreat
open Go.RowKit M

set_option maxRecDepth 100000 in
set_option maxHeartbeats 1600000 in
theorem rwalk_any {a : Option Addr} {n c : Nat} {ws : List Int} (p : Int → Int) (x : Int) {w : World} (hw : IsW w a n c ws) (hx : plI (wayW ws p 31 0) = x) :
    Calls Tryz.prog 71 #[.slice a n c, pointV p] w fun e w' => e = .returned (.int .i64 x) ∧ Jk w w' := by
  have J := rules8
  have HL : Hid (ws.length = n) := hw.len
  have HW := hid hw
  have hmax := hw.max
  have hcap := hw.cap
  unfold maxLen at hmax
  have HX := hid hx
  have HPt : Hid (∀ F : Nat, F < 4 → (w.alloc (.cells #[.int .i64 (p 0), .int .i64 (p 1), .int .i64 (p 2), .int .i64 (p 3)] 70)).cell? ⟨w.heap.size, F, none⟩ = some (.int .i64 (p F))) := by
    intro F hF
    rw [World.cell?_alloc_at _ _ _ _ rfl]
    have : F = 0 ∨ F = 1 ∨ F = 2 ∨ F = 3 := by omega
    rcases this with rfl | rfl | rfl | rfl <;> rfl
  obtain ⟨p0, e0⟩ : ∃ z, p 0 = z := ⟨_, rfl⟩
  obtain ⟨p1, e1⟩ : ∃ z, p 1 = z := ⟨_, rfl⟩
  obtain ⟨p2, e2⟩ : ∃ z, p 2 = z := ⟨_, rfl⟩
  obtain ⟨p3, e3⟩ : ∃ z, p 3 = z := ⟨_, rfl⟩
  simp only [pointV, e0, e1, e2, e3] at HPt ⊢
  clear hx hw e0 e1 e2 e3
  have hb0 : w.heap.size < (w.alloc (.cells #[.int .i64 p0, .int .i64 p1, .int .i64 p2, .int .i64 p3] 70)).heap.size := by simp
  have HJ0 : Hid (Jk (w.alloc (.cells #[.int .i64 p0, .int .i64 p1, .int .i64 p2, .int .i64 p3] 70)) (w.alloc (.cells #[.int .i64 p0, .int .i64 p1, .int .i64 p2, .int .i64 p3] 70))) := Jk.refl _
  go_enter Tryz.func71, Tryz.ntmps71
  go_wp2
  go_loopg [5, 8] 31 (fun k at' i wr => ∃ j A : Nat, j + k = 31 ∧ i = .int .i64 (j : Int) ∧ at' = .int .i64 (A : Int) ∧ A ≤ 30 ∧ wayW ws p k A = wayW ws p 31 0 ∧ Jk (w.alloc (.cells #[.int .i64 p0, .int .i64 p1, .int .i64 p2, .int .i64 p3] 70)) wr)
  case atStart => exact ⟨0, 0, by omega, rfl, rfl, by omega, rfl, HJ0.out⟩
  case round =>
    obtain ⟨j, A, hj, rfl, rfl, hA, hway, hJ⟩ := hrel
    have HJ' := hid hJ
    have hbs : w.heap.size < wr.heap.size := Nat.lt_of_lt_of_le hb0 hJ.below.size
    have HJw : Hid (Jk w wr) := ((Jk.refl w).alloc _).trans hJ
    clear HJ0 hJ
    by_cases hfuel : gk = 0
    · subst hfuel
      have hx : -1 = x := by rw [← HX.out, ← hway]; rfl
      subst hx
      have ej : j = 31 := by omega
      subst ej
      clear hway hb0
      go_wp2
      go_ret
      exact ⟨rfl, HJw.out⟩
    · obtain ⟨k, rfl⟩ : ∃ k, gk = k + 1 := ⟨gk - 1, by omega⟩
      have hj31 : (j : Int) < 31 := by omega
      by_cases hAn : n ≤ A
      · have hn : wayW ws p (k + 1) A = none := wayW_out (by rw [HL.out]; omega)
        have hx : -1 = x := by rw [← HX.out, ← hway, hn]; rfl
        subst hx
        have hAn' : (n : Int) ≤ (A : Int) := by omega
        clear hway hn hb0
        go_wp2
        go_ret
        exact ⟨rfl, HJw.out⟩
      · obtain ⟨g, o, rfl, hg, hat⟩ := HW.out.lies (by omega)
        have hAl : A < ws.length := by rw [HL.out]; omega
        have hAn' : (A : Int) < (n : Int) := by omega
        have hA0 : (0 : Int) ≤ (A : Int) := by omega
        have c1 : wr.cell? ⟨g, o + A, none⟩ = some (.int .u64 (wd ws A)) := (hat.jk HJw.out hg) A hAl
        obtain ⟨b1, b2⟩ := HW.out.bd A (by omega)
        have HU := hid (runpack_ans (wd ws A) b1 b2)
        have HN : Hid (unI (wd ws A) = ndA ws A) := rfl
        rw [HN.out] at HU
        clear b1 b2 hat
        cases hu : unB (wd ws A)
        · rw [hu] at HU
          have hn : wayW ws p (k + 1) A = none := wayW_bad hu
          have hx : -1 = x := by rw [← HX.out, ← hway, hn]; rfl
          subst hx
          clear hway hn hb0
          go_wp2_with (first | (go_at_call 31; refine (HU.out.on _).mono ?_; rintro e w1 ⟨rfl, X1, rfl⟩))
          go_ret
          exact ⟨rfl, (HJw.out.junk _).alloc _⟩
        · rw [hu] at HU
          have HR : Hid ((ndA ws A).rightB = true) := (un_of hu).1
          cases hl : (ndA ws A).leaf
          · have hn : wayW ws p (k + 1) A = wayW ws p k (sideI (ndA ws A) p).toNat := wayW_on hAl hu hl
            have HWay : Hid (wayW ws p k (sideI (ndA ws A) p).toNat = wayW ws p 31 0) := hn ▸ hway
            have hRR := Nd.right_iff.1 HR.out
            obtain ⟨z, hz⟩ : ∃ z, ndA ws A = z := ⟨_, rfl⟩
            rw [hz] at HU hl HWay hRR
            obtain ⟨leaf, v, f, a', l, r⟩ := z
            obtain rfl : leaf = false := hl
            simp [Nd.Right] at hRR
            obtain ⟨F, rfl⟩ := Int.eq_ofNat_of_zero_le (show 0 ≤ f by omega)
            obtain ⟨L, rfl⟩ := Int.eq_ofNat_of_zero_le (show 0 ≤ l by omega)
            obtain ⟨R, rfl⟩ := Int.eq_ofNat_of_zero_le (show 0 ≤ r by omega)
            have hF4 : (F : Int) < 4 := by omega
            have hF0 : (0 : Int) ≤ (F : Int) := by omega
            have kF : wr.cell? ⟨w.heap.size, F, none⟩ = some (.int .i64 (p F)) := (HJ'.out.below.cell (p := ⟨w.heap.size, F, none⟩) hb0).trans (HPt.out F (by omega))
            have HSd : Hid (sideI ⟨false, v, F, a', L, R⟩ p = if p F ≤ a' then (L : Int) else (R : Int)) := rfl
            obtain ⟨y, hy⟩ : ∃ y, p F = y := ⟨_, rfl⟩
            rw [hy] at kF HSd
            have hb : 1 ≤ L ∧ L ≤ 30 ∧ 1 ≤ R ∧ R ≤ 30 := by omega
            clear hway hn hz hRR hy hb0
            by_cases hle : y ≤ a'
            · have HW2 : Hid (wayW ws p k L = wayW ws p 31 0) := by
                have := HWay.out
                rw [HSd.out, if_pos hle] at this
                show wayW ws p k L = wayW ws p 31 0
                simpa using this
              go_wp2_with (first | (go_at_call 31; refine (HU.out.on _).mono ?_; rintro e w1 ⟨rfl, X1, rfl⟩; have hx1 : w.heap.size < wr.heap.size + Jn X1 := (by omega)))
              go_quiet (fail)
              go_wp2
              go_roundg k
              case measure => omega
              case rel => exact ⟨j + 1, L, by omega, by go_num, rfl, by omega, HW2.out, by repeat (with_reducible first | exact HJ'.out | apply Jk.junk | apply Jk.alloc | apply Jk.drewN)⟩
            · have HW2 : Hid (wayW ws p k R = wayW ws p 31 0) := by
                have := HWay.out
                rw [HSd.out, if_neg hle] at this
                show wayW ws p k R = wayW ws p 31 0
                simpa using this
              go_wp2_with (first | (go_at_call 31; refine (HU.out.on _).mono ?_; rintro e w1 ⟨rfl, X1, rfl⟩; have hx1 : w.heap.size < wr.heap.size + Jn X1 := (by omega)))
              go_quiet (fail)
              go_wp2
              go_roundg k
              case measure => omega
              case rel => exact ⟨j + 1, R, by omega, by go_num, rfl, by omega, HW2.out, by repeat (with_reducible first | exact HJ'.out | apply Jk.junk | apply Jk.alloc | apply Jk.drewN)⟩
          · have hn : wayW ws p (k + 1) A = some A := wayW_leaf hAl hu hl
            have hx : (A : Int) = x := by rw [← HX.out, ← hway, hn]; rfl
            obtain ⟨z, hz⟩ : ∃ z, ndA ws A = z := ⟨_, rfl⟩
            rw [hz] at HU hl
            obtain ⟨leaf, v, f, a', l, r⟩ := z
            obtain rfl : leaf = true := hl
            subst hx
            clear hway hn hz hb0
            go_wp2_with (first | (go_at_call 31; refine (HU.out.on _).mono ?_; rintro e w1 ⟨rfl, X1, rfl⟩))
            go_ret
            exact ⟨rfl, (HJw.out.junk _).alloc _⟩

theorem rwalk_ans {a : Option Addr} {n c : Nat} {ws : List Int} (p : Int → Int) {w : World} (hw : IsW w a n c ws) : AnsW w 71 #[.slice a n c, pointV p] (.int .i64 (plI (wayW ws p 31 0))) := fun _ hj => rwalk_any p _ (hw.jk hj) rfl

theorem wayW_some {ws : List Int} {p : Int → Int} : ∀ {k i A : Nat}, wayW ws p k i = some A → A < ws.length ∧ unB (wd ws A) = true := by
  intro k
  induction k with
  | zero => intro i A h; cases h
  | succ k ih =>
    intro i A h
    simp only [wayW] at h
    split at h
    · rename_i hc
      split at h
      · cases h; exact hc
      · exact ih h
    · cases h

set_option maxRecDepth 100000 in
set_option maxHeartbeats 1600000 in
theorem rvalue_ans {a : Option Addr} {n c : Nat} {ws : List Int} (p : Int → Int) {w0 : World} (hw0 : IsW w0 a n c ws) : AnsW w0 58 #[.slice a n c, pointV p] (.int .i64 (vlI ws (wayW ws p 31 0))) := fun w hj => by
  have J := rules8
  have hw := hw0.jk hj
  have HWk := hid (rwalk_ans p (hw.jk ((Jk.refl w).alloc (.cells #[.int .i64 (p 0), .int .i64 (p 1), .int .i64 (p 2), .int .i64 (p 3)] 70))))
  have hmax := hw.max
  have hcap := hw.cap
  unfold maxLen at hmax
  cases hr : wayW ws p 31 0 with
  | none =>
    rw [hr] at HWk
    have HWk : Hid (AnsW (w.alloc (.cells #[.int .i64 (p 0), .int .i64 (p 1), .int .i64 (p 2), .int .i64 (p 3)] 70)) 71 #[.slice a n c, pointV p] (.int .i64 (-1))) := HWk
    show Calls Tryz.prog 58 #[.slice a n c, pointV p] w fun e w' => e = .returned (.int .i64 0) ∧ Jk w w'
    clear hw hw0 hj hr
    go_enter Tryz.func58, Tryz.ntmps58
    go_wp2_with (first | (go_at_call 71; refine (HWk.out.on _ (Jk.refl _)).mono ?_; rintro e w1 ⟨rfl, X1, rfl⟩))
    go_ret
    exact ⟨rfl, ((Jk.refl w).alloc _).junk _⟩
  | some A =>
    rw [hr] at HWk
    obtain ⟨h1, h2⟩ := wayW_some hr
    have hAn : A < n := by rw [← hw.len]; exact h1
    have HWk : Hid (AnsW (w.alloc (.cells #[.int .i64 (p 0), .int .i64 (p 1), .int .i64 (p 2), .int .i64 (p 3)] 70)) 71 #[.slice a n c, pointV p] (.int .i64 (A : Int))) := HWk
    obtain ⟨g, o, rfl, hg, hat⟩ := hw.lies (by omega)
    have c1 : w.cell? ⟨g, o + A, none⟩ = some (.int .u64 (wd ws A)) := hat A h1
    obtain ⟨b1, b2⟩ := hw.bd A hAn
    have HU := hid (runpack_ans (wd ws A) b1 b2)
    have HN : Hid (unI (wd ws A) = ndA ws A) := rfl
    rw [HN.out, h2] at HU
    show Calls Tryz.prog 58 #[.slice (some ⟨g, o, none⟩) n c, pointV p] w fun e w' => e = .returned (.int .i64 (ndA ws A).v) ∧ Jk w w'
    obtain ⟨z, hz⟩ : ∃ z, ndA ws A = z := ⟨_, rfl⟩
    rw [hz] at HU ⊢
    obtain ⟨leaf, v, f, a', l, r⟩ := z
    have hA0 : (0 : Int) ≤ (A : Int) := by omega
    have hAn' : (A : Int) < (n : Int) := by omega
    have hgs : g < w.heap.size + 1 := by omega
    show Calls Tryz.prog 58 #[.slice (some ⟨g, o, none⟩) n c, pointV p] w fun e w' => e = .returned (.int .i64 v) ∧ Jk w w'
    clear hw hw0 hj hr b1 b2 hat hz h2
    go_enter Tryz.func58, Tryz.ntmps58
    go_wp2_with (first | (go_at_call 71; refine (HWk.out.on _ (Jk.refl _)).mono ?_; rintro e w1 ⟨rfl, X1, rfl⟩) | (go_at_call 31; refine (HU.out.on _).mono ?_; rintro e w1 ⟨rfl, X2, rfl⟩))
    go_ret
    refine ⟨rfl, ?_⟩
    repeat (with_reducible first | exact Jk.refl _ | apply Jk.junk | apply Jk.alloc)

end Go.Proofs.YtkkbeobocbgmeaaGreat

namespace Go.Proofs.YtkkbeobocbgmeaaGreat
open Go.RowKit Go.Maps M

theorem lawI : Keyed Tryz.prog 3 := int_keyed Tryz.underlying3
theorem zeroI (w : World) : (zeroValue 3).run Tryz.prog w = .ok (.int .i64 0) w := by kernel_rfl
theorem wfI {a : Int} (h1 : -9223372036854775808 ≤ a) (h2 : a ≤ 9223372036854775807) : (Lit.int .i64 a).wf = true := by
  simp [Lit.wf, IntKind.min, IntKind.max, IntKind.signed, IntKind.bits]
  omega
/-- block b is a map of ints to ints, of at most n entries, that says f -/
def MapF (w : World) (b n : Nat) (f : Nat → Int) : Prop := ∃ D : DataW Unit, w.ownsMap Tryz.prog 3 (plainElem Tryz.prog 3) b n D ∧ ∀ q : Nat, q ≤ 1000 → D.atKey (.int .i64 (q : Int)) (.lit (.int .i64 0)) = .lit (.int .i64 (f q))
theorem MapF.made (w : World) : MapF (w.alloc (.map #[] 0)) w.heap.size 0 (fun _ => 0) := ⟨.map [], World.ownsMap_made _ _ _ _, fun _ _ => rfl⟩
theorem MapF.congr {w : World} {b n : Nat} {f g : Nat → Int} (h : MapF w b n f) (e : ∀ q, q ≤ 1000 → f q = g q) : MapF w b n g := by
  obtain ⟨D, h1, h2⟩ := h
  exact ⟨D, h1, fun q hq => by rw [h2 q hq, e q hq]⟩
theorem MapF.lt {w : World} {b n : Nat} {f : Nat → Int} (h : MapF w b n f) : b < w.heap.size := by
  obtain ⟨D, h1, _⟩ := h
  exact h1.lt
theorem MapF.jk {w w' : World} {b n : Nat} {f : Nat → Int} (h : MapF w b n f) (hj : Jk w w') : MapF w' b n f := by
  obtain ⟨D, h1, h2⟩ := h
  exact ⟨D, h1.kept (row := none) ⟨hj.below.os, hj.below.tape, hj.below.output, hj.below.size, fun k hk _ => hj.below.block k hk⟩ (by simp), h2⟩
theorem list_look {ops : Array Oper} {rest : List Oper} {o : Oper} {act : Act} {Q : Exit → Act → World → Prop} {w : World} {b n : Nat} {f : Nat → Int}
    (hg : o.guard = none) (m x : Operand) (hop : o.op = Op.lookup 124 m x false) (hM : MapF w b n f) (hm : act.eval m = .map (some b)) (q : Nat) (hq : q ≤ 1000) (hx : act.eval x = .int .i64 (q : Int))
    (h : wpList Tryz.prog ops Q rest (act.put o.dst (.int .i64 (f q))) w) : wpList Tryz.prog ops Q (o :: rest) act w := by
  obtain ⟨D, h1, h2⟩ := hM
  refine wpList_lookup_own_int w hg m x 124 hop 3 3 .i64 lawI Tryz.underlying124 Tryz.underlying3 (zeroI w) b n D hm h1 _ (.int .i64 (q : Int)) hx (keyOf_int_mk Tryz.underlying3 (wfI (by omega) (by omega))) ?_
  intro c hc _
  rw [h2 q hq] at hc
  simp at hc
  rw [← hc]
  exact h
theorem list_upd {ops : Array Oper} {rest : List Oper} {o : Oper} {act : Act} {Q : Exit → Act → World → Prop} {w : World} {b n : Nat} {f : Nat → Int}
    (hg : o.guard = none) (m x v : Operand) (hop : o.op = Op.mapUpdate 124 m x v) (hM : MapF w b n f) (hn : n ≤ 1000) (hm : act.eval m = .map (some b)) (q : Nat) (hq : q ≤ 1000) (hx : act.eval x = .int .i64 (q : Int)) (y : Int) (hy1 : -1000 ≤ y) (hy2 : y ≤ 1000) (hv : act.eval v = .int .i64 y)
    (h : ∀ w', MapF w' b (n + 1) (updN f q y) → w.grownBy w' (some b) → wpList Tryz.prog ops Q rest (act.put o.dst undef) w') : wpList Tryz.prog ops Q (o :: rest) act w := by
  obtain ⟨D, h1, h2⟩ := hM
  refine wpList_mapUpdate_own w hg m x v 124 hop 3 3 lawI Tryz.underlying124 _ b n D hm h1 (by unfold maxLen; omega) _ _ (.int .i64 (q : Int)) hx hv (keyOf_int_mk Tryz.underlying3 (wfI (by omega) (by omega))) _ [] (plainElem_int Tryz.underlying3 (wfI (by omega) (by omega))) ?_
  intro w' h3 h4
  refine h w' ⟨_, h3, fun r hr => ?_⟩ h4
  unfold updN
  by_cases e : r = q
  · subst e
    rw [if_pos rfl]
    exact atKey_put_same (h1.tidy lawI).isMap (lawI.key (keyOf_int_mk Tryz.underlying3 (wfI (by omega) (by omega)))) _ _
  · rw [if_neg e, atKey_put_other (by intro h; injection h with _ h2; exact e (by omega))]
    exact h2 r hr

set_option maxRecDepth 100000 in
set_option maxHeartbeats 1600000 in
theorem rright_tree {a : Option Addr} {n c : Nat} {ws : List Int} {dim : Int} {b : Bool} {w0 : World} (hw0 : IsW w0 a n c ws) (hb : b = true ↔ TreeP ws dim) : AnsW w0 70 #[.slice a n c, .int .i64 dim] (.bool b) := fun w hj0 => by
  have J := rules8
  have hw := hw0.jk hj0
  have HL : Hid (ws.length = n) := hw.len
  have HB := hid hb
  have hm := hw.max
  unfold maxLen at hm
  have hcap := hw.cap
  clear hw0 hj0 hb
  by_cases h1 : n < 1
  · have : b = false := by
      cases b
      · rfl
      · have := (HB.out.1 rfl).full; have := HL.out; omega
    subst this
    have : n = 0 := by omega
    subst this
    clear hw HB
    go_enter Tryz.func70, Tryz.ntmps70
    go_wp2
    go_ret
    exact ⟨rfl, Jk.refl _⟩
  · by_cases h2 : 31 < n
    · have : b = false := by
        cases b
        · rfl
        · have := (HB.out.1 rfl).few; have := HL.out; omega
      subst this
      clear hw HB
      go_enter Tryz.func70, Tryz.ntmps70
      go_wp2
      go_ret
      exact ⟨rfl, Jk.refl _⟩
    · obtain ⟨g, o, rfl, hg, hat⟩ := hw.lies (by omega)
      have HA := hid hat
      have HBD := hid hw.bd
      have n0 : ¬ (n : Int) < 1 := by omega
      have n1 : ¬ (31 : Int) < (n : Int) := by omega
      have HM := hid (MapF.made w)
      have HJ : Hid (Jk w (w.alloc (.map #[] 0))) := (Jk.refl w).alloc _
      clear hat hw
      have hmm := @run_makeMap Tryz.prog
      go_enter Tryz.func70, Tryz.ntmps70
      go_wp2
      obtain ⟨h, hh⟩ : ∃ h, w.heap.size = h := ⟨_, rfl⟩
      have HH := hid hh
      rw [hh] at HM ⊢
      clear hh hmm
      go_loopg [22] n (fun k i wr => ∃ j : Nat, j + k = n ∧ i = .int .i64 (j : Int) ∧ MapF wr h (2 * j) (fun q => cnt (ndA ws) j q) ∧ Jk w wr ∧ ∀ q, q < j → unB (wd ws q) = true ∧ Fine dim n q (ndA ws q))
      case atStart => exact ⟨0, by omega, rfl, HM.out, HJ.out, fun q hq => by omega⟩
      case round =>
        obtain ⟨j, hj, rfl, hI, hJ, hF⟩ := hrel
        have HI' := hid hI
        have HJ' := hid hJ
        have HF' := hid hF
        have hhs := hI.lt
        clear hI hJ hF HM HJ
        by_cases hlt : j < n
        · have i0 : (0 : Int) ≤ (j : Int) := by omega
          have i1 : (j : Int) < (n : Int) := by omega
          have e1 : wr.cell? ⟨g, o + j, none⟩ = some (.int .u64 (wd ws j)) := (HA.out.jk HJ'.out hg) j (by rw [HL.out]; exact hlt)
          obtain ⟨b1, b2⟩ := HBD.out j hlt
          have HU := hid (runpack_ans (wd ws j) b1 b2)
          have HN : Hid (unI (wd ws j) = ndA ws j) := rfl
          rw [HN.out] at HU
          clear b1 b2
          cases hu : unB (wd ws j)
          · rw [hu] at HU
            have hbf : b = false := by
              cases b
              · rfl
              · have := (HB.out.1 rfl).can j (by rw [HL.out]; exact hlt)
                rw [hu] at this
                cases this
            subst hbf
            go_wp2_with (first | (go_at_call 31; refine (HU.out.on _).mono ?_; rintro e w1 ⟨rfl, X1, rfl⟩))
            go_ret
            exact ⟨rfl, (HJ'.out.junk _).alloc _⟩
          · rw [hu] at HU
            have HR : Hid ((ndA ws j).rightB = true) := (un_of hu).1
            obtain ⟨x, hx⟩ : ∃ x, ndA ws j = x := ⟨_, rfl⟩
            have HX := hid hx
            rw [hx] at HU HR
            obtain ⟨leaf, v, f, a', l, r⟩ := x
            clear hx
            cases leaf
            case true =>
              go_wp2_with (first | (go_at_call 31; refine (HU.out.on _).mono ?_; rintro e w1 ⟨rfl, X1, rfl⟩))
              go_roundg (gk - 1)
              case measure => omega
              case rel =>
                refine ⟨j + 1, by omega, by go_num, ?_, (HJ'.out.junk _).alloc _, fun q hq => ?_⟩
                · obtain ⟨D, d1, d2⟩ := HI'.out.jk (((Jk.refl _).junk X1).alloc _)
                  refine ⟨D, d1.mono (by omega), fun q hq => ?_⟩
                  rw [d2 q hq]
                  simp only [cnt]
                  rw [HX.out, hit_leaf rfl, Int.add_zero]
                · by_cases e : q = j
                  · subst e; exact ⟨hu, by rw [HX.out]; exact .inl rfl⟩
                  · exact HF'.out q (by omega)
            case false =>
              have hR := Nd.right_iff.1 HR.out
              simp [Nd.Right] at hR
              obtain ⟨L, rfl⟩ := Int.eq_ofNat_of_zero_le (show 0 ≤ l by omega)
              obtain ⟨R, rfl⟩ := Int.eq_ofNat_of_zero_le (show 0 ≤ r by omega)
              have HNo : Hid (¬ Fine dim n j ⟨false, v, f, a', L, R⟩ → b = false) := by
                intro hn
                cases b
                · rfl
                · have := (HB.out.1 rfl).shape.fine j (by rw [HL.out]; exact hlt)
                  rw [HX.out, HL.out] at this
                  exact absurd this hn
              by_cases hfi : f < dim ∧ (j : Int) < L ∧ (j : Int) < R ∧ (L : Int) < n ∧ (R : Int) < n ∧ (L : Int) ≠ R
              · obtain ⟨g1, g2, g3, g4, g5, g6⟩ := hfi
                have HFi : Hid (Fine dim n j ⟨false, v, f, a', L, R⟩) := .inr ⟨g1, g2, g3, g4, g5, g6⟩
                have g6' : ((L : Int) == (R : Int)) = false := by simpa using g6
                have hne : ¬ L = R := by omega
                obtain ⟨C1, hC1⟩ : ∃ C, cnt (ndA ws) j L = C := ⟨_, rfl⟩
                obtain ⟨C2, hC2⟩ : ∃ C, cnt (ndA ws) j R = C := ⟨_, rfl⟩
                have b1 := cnt_bd (ndA ws) j L
                have b2 := cnt_bd (ndA ws) j R
                rw [hC1] at b1
                rw [hC2] at b2
                have HC1 := hid hC1
                have HC2 := hid hC2
                have HR2 : Hid (updN (fun q => cnt (ndA ws) j q) L (C1 + 1) R = C2) := by
                  show (if R = L then C1 + 1 else cnt (ndA ws) j R) = C2
                  rw [if_neg (fun e => hne e.symm), hC2]
                have b3 : C1 ≤ 62 := by omega
                have b4 : C2 ≤ 62 := by omega
                clear hC1 hC2 hR HNo
                go_upto_region 14 with (first | (go_at_call 31; refine (HU.out.on _).mono ?_; rintro e w1 ⟨rfl, X1, rfl⟩; have hx1 : h < wr.heap.size + Jn X1 := (by omega)) | (at_lookup; refine list_look rfl _ _ rfl (HI'.out.jk (((Jk.refl _).junk X1).alloc _)) rfl L (by omega) rfl ?_; simp only [HC1.out]) | (at_mapUpdate; refine list_upd rfl _ _ _ rfl (HI'.out.jk (((Jk.refl _).junk X1).alloc _)) (by omega) rfl L (by omega) rfl (C1 + 1) (by omega) (by omega) rfl ?_; intro w2 hM2 hG2; have HM2 := hid hM2; have HG2 := hid hG2; clear hM2 hG2))
                have k5 : w2.cell? ⟨wr.heap.size + Jn X1, 5, none⟩ = some (.int .i64 (R : Int)) := by
                  refine HG2.out.cell (new_cells (junk wr X1) _ _ _ (by rw [junk_size]) 5 _ rfl) ?_
                  intro e
                  simp at e
                  omega
                go_wp2_with (first | (at_lookup; refine list_look rfl _ _ rfl HM2.out rfl R (by omega) rfl ?_; simp only [HR2.out]) | (at_mapUpdate; refine list_upd rfl _ _ _ rfl HM2.out (by omega) rfl R (by omega) rfl (C2 + 1) (by omega) (by omega) rfl ?_; intro w3 hM3 hG3; have HM3 := hid hM3; have HG3 := hid hG3; clear hM3 hG3))
                go_roundg (gk - 1)
                case measure => omega
                case rel =>
                  refine ⟨j + 1, by omega, by go_num, ?_, (((HJ'.out.junk X1).alloc _).grown HG2.out (fun k hk => ?_)).grown HG3.out (fun k hk => ?_), fun q hq => ?_⟩
                  · obtain ⟨D, d1, d2⟩ := HM3.out
                    refine ⟨D, d1.mono (by omega), fun q hq => ?_⟩
                    rw [d2 q hq]
                    congr 2
                    show (if q = R then C2 + 1 else if q = L then C1 + 1 else cnt (ndA ws) j q) = cnt (ndA ws) j q + hit (ndA ws j) q
                    rw [HX.out, hit_other rfl]
                    by_cases e1 : q = R
                    · subst e1
                      rw [if_pos rfl, HC2.out, if_neg (by simp; omega), if_pos rfl]; omega
                    · rw [if_neg e1]
                      by_cases e2 : q = L
                      · subst e2
                        rw [if_pos rfl, HC1.out, if_pos rfl, if_neg (by simp; omega)]; omega
                      · rw [if_neg e2, if_neg (by simp; omega), if_neg (by simp; omega)]; simp
                  · cases hk; rw [HH.out]; exact Nat.le_refl _
                  · cases hk; rw [HH.out]; exact Nat.le_refl _
                  · by_cases e : q = j
                    · subst e; exact ⟨hu, by rw [HX.out]; exact HFi.out⟩
                    · exact HF'.out q (by omega)
              · have hbf : b = false := HNo.out (by
                  rintro (h | h)
                  · cases h
                  · exact hfi h)
                subst hbf
                have hcase : dim ≤ f ∨ (f < dim ∧ (L : Int) ≤ j) ∨ (f < dim ∧ (j : Int) < L ∧ (R : Int) ≤ j) ∨ (f < dim ∧ (j : Int) < L ∧ (j : Int) < R ∧ (n : Int) ≤ L) ∨ (f < dim ∧ (j : Int) < L ∧ (j : Int) < R ∧ (L : Int) < n ∧ (n : Int) ≤ R) ∨ (f < dim ∧ (j : Int) < L ∧ (j : Int) < R ∧ (L : Int) < n ∧ (R : Int) < n ∧ L = R) := by omega
                clear hfi hR HNo HB
                rcases hcase with q1 | ⟨q1, q2⟩ | ⟨q1, q2, q3⟩ | ⟨q1, q2, q3, q4⟩ | ⟨q1, q2, q3, q4, q5⟩ | ⟨q1, q2, q3, q4, q5, rfl⟩
                all_goals
                  go_wp2_with (first | (go_at_call 31; refine (HU.out.on _).mono ?_; rintro e w1 ⟨rfl, X1, rfl⟩))
                  go_ret
                  exact ⟨rfl, (HJ'.out.junk _).alloc _⟩
        · have e : j = n := by omega
          subst e
          obtain ⟨m, rfl⟩ : ∃ m, j = m + 1 := ⟨j - 1, by omega⟩
          go_wp2
          go_loopg [10] m (fun k i wx => wx = wr ∧ ∃ q : Nat, q + k = m ∧ i = .int .i64 ((q + 1 : Nat) : Int) ∧ ∀ y : Nat, 1 ≤ y → y < q + 1 → cnt (ndA ws) (m + 1) y = 1)
          case atStart => exact ⟨rfl, 0, by omega, rfl, fun y _ _ => by omega⟩
          case round =>
            obtain ⟨rfl, q, hq, rfl, hone⟩ := hrel
            have HO1 := hid hone
            clear hone
            by_cases hlt2 : q < m
            · have i0 : (0 : Int) ≤ (q : Int) := by omega
              have i1 : (q : Int) < (m : Int) := by omega
              obtain ⟨C, hC⟩ : ∃ C, cnt (ndA ws) (m + 1) ((q + 1 : Nat) : Int) = C := ⟨_, rfl⟩
              have HC := hid hC
              clear hC
              by_cases hc1 : C = 1
              · subst hc1
                go_wp2_with (at_lookup; refine list_look rfl _ _ rfl HI'.out rfl (q + 1) (by omega) rfl ?_; simp only [HC.out])
                go_roundg (gk - 1)
                case measure => omega
                case rel =>
                  refine ⟨rfl, q + 1, by omega, by go_num, fun y y1 y2 => ?_⟩
                  by_cases e : y = q + 1
                  · subst e; exact HC.out
                  · exact HO1.out y y1 (by omega)
              · have hbf : b = false := by
                  cases b
                  · rfl
                  · have := (HB.out.1 rfl).shape.one (q + 1) (by omega) (by rw [HL.out]; omega)
                    rw [HL.out, HC.out] at this
                    exact absurd this hc1
                subst hbf
                go_wp2_with (at_lookup; refine list_look rfl _ _ rfl HI'.out rfl (q + 1) (by omega) rfl ?_; simp only [HC.out])
                go_ret
                exact ⟨rfl, HJ'.out⟩
            · have hqm : q = m := by omega
              subst hqm
              have hbt : b = true := HB.out.2 ⟨by rw [HL.out]; omega, by rw [HL.out]; omega, fun i hi => (HF'.out i (by rw [HL.out] at hi; exact hi)).1, by rw [HL.out]; exact ⟨fun i hi => (HF'.out i hi).2, fun y y1 y2 => HO1.out y y1 y2⟩⟩
              subst hbt
              go_wp2
              go_ret
              exact ⟨rfl, HJ'.out⟩

end Go.Proofs.YtkkbeobocbgmeaaGreat
