/- The law BoxSet of chapter 5 answers true for every list of boxes and every list of ints: boxes are counted by their values: alike ones as one, others apart; the largest is the most, and of alike many the first. -/
import Derived.Test.YtdmkaaehpcnpfaaLawBoxRuns
import Derived.Test.YtdmkaaehpcnpfaaBoxI
import Derived.Test.YtdmkaaehpcnpfaaWithinB
import Derived.Deep.AppendLies
import Derived.Deep.DeepCutAuto
import Derived.Deep.RegionHeldLaw
namespace Go.Proofs.Ytdmkaaehpcnpfaa
open Go.RowKit Go.Maps M

def cellsB (x : Bx) : List Value := [.int .i64 x.a.lo, .int .i64 x.a.hi, .int .i64 x.b.lo, .int .i64 x.b.hi, .int .i64 x.c.lo, .int .i64 x.c.hi, .int .i64 x.d.lo, .int .i64 x.d.hi, .int .i64 x.e.lo, .int .i64 x.e.hi]
/-- from place o of block g on, the boxes L -/
def BoxesAt (w : World) (g o : Nat) (L : List Bx) : Prop := ∀ i x, L[i]? = some x → ∀ j v, (cellsB x)[j]? = some v → w.cell? ⟨g, o + i * 10 + j, none⟩ = some v
/-- a slice of boxes that came in -/
def IsBoxes (w : World) (a : Option Addr) (len cap : Nat) (L : List Bx) : Prop :=
  L.length = len ∧ len ≤ cap ∧ cap ≤ maxLen ∧ (∀ x ∈ L, x.ok) ∧ (0 < len → ∃ g o, a = some ⟨g, o, none⟩ ∧ g < w.heap.size ∧ BoxesAt w g o L)
/-- a slice of ints that came in -/
def IsNums (w : World) (a : Option Addr) (len cap : Nat) (z : List Int) : Prop :=
  z.length = len ∧ len ≤ cap ∧ cap ≤ maxLen ∧ (∀ x ∈ z, I64 x) ∧ (0 < len → ∃ g o, a = some ⟨g, o, none⟩ ∧ g < w.heap.size ∧ ∀ i x, z[i]? = some x → w.cell? ⟨g, o + i, none⟩ = some (.int .i64 x))
/-- the call's own row of boxes -/
def OwnB (B : Nat) (w : World) (v : Value) (xs : List Bx) : Prop := w.ownsRow B 25 10 v xs.length (xs.flatMap cellsB)
theorem ownB_nil (B : Nat) (w : World) : OwnB B w (.slice none 0 0) [] := ⟨rfl, Or.inl ⟨rfl, rfl⟩⟩

theorem infoBox : (Try.prog.info? 25).map (fun i => (i.zero, i.size, i.bytes)) = some (some (boxV nilB), 10, 80) := by kernel_rfl

theorem ownB_snoc {B : Nat} {w : World} {v : Value} {xs : List Bx} {x : Bx} (h : w.ownsRow B 25 10 v (xs.length + 1) (xs.flatMap cellsB ++ cellsB x)) : OwnB B w v (xs ++ [x]) := by
  unfold OwnB
  simpa using h
theorem BoxesAt.jk {w w' : World} {g o : Nat} {L : List Bx} (h : BoxesAt w g o L) (hj : Jk w w') (hg : g < w.heap.size) : BoxesAt w' g o L :=
  fun i x hx j v hv => (hj.below.cell (p := ⟨g, o + i * 10 + j, none⟩) hg).trans (h i x hx j v hv)
theorem BoxesAt.ten {w : World} {g o : Nat} {L : List Bx} (h : BoxesAt w g o L) {i : Nat} {x : Bx} (hx : L[i]? = some x) : w.cell? ⟨g, o + i * 10, none⟩ = some (.int .i64 x.a.lo) ∧ w.cell? ⟨g, o + i * 10 + 1, none⟩ = some (.int .i64 x.a.hi) ∧ w.cell? ⟨g, o + i * 10 + 2, none⟩ = some (.int .i64 x.b.lo) ∧ w.cell? ⟨g, o + i * 10 + 3, none⟩ = some (.int .i64 x.b.hi) ∧ w.cell? ⟨g, o + i * 10 + 4, none⟩ = some (.int .i64 x.c.lo) ∧ w.cell? ⟨g, o + i * 10 + 5, none⟩ = some (.int .i64 x.c.hi) ∧ w.cell? ⟨g, o + i * 10 + 6, none⟩ = some (.int .i64 x.d.lo) ∧ w.cell? ⟨g, o + i * 10 + 7, none⟩ = some (.int .i64 x.d.hi) ∧ w.cell? ⟨g, o + i * 10 + 8, none⟩ = some (.int .i64 x.e.lo) ∧ w.cell? ⟨g, o + i * 10 + 9, none⟩ = some (.int .i64 x.e.hi) :=
  ⟨h i x hx 0 _ rfl, h i x hx 1 _ rfl, h i x hx 2 _ rfl, h i x hx 3 _ rfl, h i x hx 4 _ rfl, h i x hx 5 _ rfl, h i x hx 6 _ rfl, h i x hx 7 _ rfl, h i x hx 8 _ rfl, h i x hx 9 _ rfl⟩
theorem flat_get {L : List Bx} {i : Nat} {x : Bx} (hx : L[i]? = some x) {j : Nat} (hj : j < 10) : (L.flatMap cellsB)[i * 10 + j]? = (cellsB x)[j]? := by
  induction L generalizing i with
  | nil => simp at hx
  | cons y ys ih =>
    have hl : (cellsB y).length = 10 := rfl
    rw [List.flatMap_cons]
    cases i with
    | zero =>
      simp at hx
      subst hx
      rw [List.getElem?_append_left (by rw [hl]; omega)]
      simp
    | succ i =>
      rw [List.getElem?_append_right (by rw [hl]; omega), hl, show (i + 1) * 10 + j - 10 = i * 10 + j by omega]
      exact ih (by simpa using hx)
theorem OwnB.at {B : Nat} {w : World} {v : Value} {xs : List Bx} {g : Nat} (h : OwnB B w v xs) (hv : v.ownBlock = some g) : BoxesAt w g 0 xs := by
  intro i x hx j u hu
  have hj : j < 10 := by
    have := (List.getElem?_eq_some_iff.1 hu).1
    simpa [cellsB] using this
  have hc := World.ownsRow.cells h hv (i * 10 + j) u (by rw [flat_get hx hj]; exact hu)
  have hadd : (⟨g, 0, none⟩ : Addr).add (i * 10 + j) = ⟨g, 0 + i * 10 + j, none⟩ := by unfold Addr.add; split <;> simp_all
  rwa [hadd] at hc
theorem OwnB.form {B : Nat} {w : World} {v : Value} {xs : List Bx} (h : OwnB B w v xs) : ∃ a c, v = .slice a xs.length c ∧ c ≤ maxLen ∧ xs.length ≤ c ∧ (0 < xs.length → ∃ g, a = some ⟨g, 0, none⟩ ∧ B ≤ g) := by
  rcases h.2 with ⟨rfl, h0⟩ | ⟨g, c, cur, rfl, h1, _, h2, h3, _⟩
  · exact ⟨none, 0, by rw [h0], by unfold maxLen; omega, by omega, by omega⟩
  · exact ⟨_, c, rfl, h3, h2, fun _ => ⟨g, rfl, h1⟩⟩

theorem Jk.grownO {a w w1 : World} {row : Option Nat} (h : Jk a w) (hg : w.grownBy w1 row) (hr : ∀ k, row = some k → a.heap.size ≤ k) : Jk a w1 :=
  Jk.of_below ⟨hg.os.trans h.below.os, hg.tape.trans h.below.tape, hg.output.trans h.below.output, Nat.le_trans h.below.size hg.size, fun k hk => (hg.block k (Nat.lt_of_lt_of_le hk h.below.size) (fun e => by have := hr k e.symm; omega)).trans (h.below.block k hk)⟩
theorem ne_row {B b : Nat} {row : Option Nat} (hr : ∀ k, row = some k → B ≤ k) (hb : b < B) : some b ≠ row := fun e => by have := hr b e.symm; omega
/-- each count is from 1 to m -/
def Good (D : DataW Unit) (m : Nat) : Prop := ∀ y c, At D y c → 1 ≤ c ∧ c ≤ (m : Int)
theorem atKey_any {D : DataW Unit} {k : Lit} {z z' : DataW Unit} (hD : IsMap D) (h : Maps.has D k = true) : D.atKey k z = D.atKey k z' := by
  obtain ⟨es, rfl⟩ := hD
  obtain ⟨p, hp, hk⟩ := List.any_eq_true.1 h
  cases hf : es.find? (fun p => p.1.sameKey k)
  · exact absurd hk (by simpa using List.find?_eq_none.1 hf p hp)
  · simp [DataW.atKey, hf]
theorem good_at {D : DataW Unit} {m : Nat} {y : Bx} {kl : Lit} {c : Int} (h : Good D m) (hD : IsMap D) (hk : keyOf Try.prog 25 (boxV y) = some kl) (ha : D.atKey kl (.lit (.int .i64 0)) = .lit (.int .i64 c)) : 0 ≤ c ∧ c ≤ (m : Int) := by
  cases hh : Maps.has D kl
  · rw [atKey_of_not_has hh] at ha
    have := same_lit ha rfl
    omega
  · have := h y c ⟨kl, hk, hh, fun z => (atKey_any hD hh).trans ha⟩
    omega
theorem good_put {D : DataW Unit} {m : Nat} {y : Bx} {kl : Lit} {c : Int} (h : Good D m) (hD : IsMap D) (hk : keyOf Try.prog 25 (boxV y) = some kl) (ha : D.atKey kl (.lit (.int .i64 0)) = .lit (.int .i64 c)) : Good (D.put kl (.lit (.int .i64 (c + 1)))) (m + 1) := by
  obtain ⟨c0, c1⟩ := good_at h hD hk ha
  rintro y' c' ⟨yl, hk', hh', ha'⟩
  by_cases e : yl = kl
  · subst e
    have := same_lit (atKey_put_same hD (lawBox.key hk) (.lit (.int .i64 (c + 1))) .nil) (ha' .nil)
    omega
  · rw [has_put_other e] at hh'
    have := h y' c' ⟨yl, hk', hh', fun z => by rw [← ha' z, atKey_put_other e]⟩
    omega

theorem has_of_size {D : DataW Unit} (h : ∃ es, D = .map es ∧ es.Pairwise (fun p q => p.1 ≠ q.1) ∧ ∀ p ∈ es, WideAt.IsKeyLit p.1) (h0 : ¬ Maps.size D = 0) : ∃ kl, Maps.has D kl = true := by
  obtain ⟨es, rfl, _, hk⟩ := h
  cases es with
  | nil => exact absurd rfl h0
  | cons p r => exact ⟨p.1, List.any_eq_true.2 ⟨p, by simp, WideAt.sameKey_self (hk p (by simp))⟩⟩
theorem has_none {D : DataW Unit} (h0 : Maps.size D = 0) (kl : Lit) : Maps.has D kl = false := by
  cases D <;> try rfl
  rename_i es
  cases es
  · rfl
  · cases h0
theorem best_none {D : DataW Unit} {x : Bx} {k : Int} (h : Best D x k) (h0 : Maps.size D = 0) : x = nilB ∧ k = 0 := by
  rcases h with (⟨_, hx, hk, _⟩ | ⟨h, _⟩) | (⟨h, _⟩ | ⟨_, ⟨kl, _, hh, _⟩, _⟩)
  · exact ⟨hx, hk⟩
  · cases h
  · cases h
  · rw [has_none h0] at hh
    cases hh
theorem best_some {D : DataW Unit} {x : Bx} {k : Int} (h : Best D x k) (h0 : ¬ Maps.size D = 0) (ht : ∃ es, D = .map es ∧ es.Pairwise (fun p q => p.1 ≠ q.1) ∧ ∀ p ∈ es, WideAt.IsKeyLit p.1) : At D x k ∧ ∀ (y : Bx) (yl : Lit) (c' : Int), keyOf Try.prog 25 (boxV y) = some yl → Maps.has D yl = true → (∀ z, D.atKey yl z = .lit (.int .i64 c')) → c' ≤ k ∧ (c' = k → y.bef x = false) := by
  rcases h with (⟨_, _, _, h⟩ | ⟨h, _⟩) | (⟨h, _⟩ | ⟨_, h1, h2⟩)
  · obtain ⟨kl, hk⟩ := has_of_size ht h0
    exact absurd (h kl hk) (by simp)
  · cases h
  · cases h
  · exact ⟨h1, fun y yl c' a b d => h2 y yl c' a b rfl d⟩
theorem ahead_is {x y : Bx} {b : Bool} (h : x.bef y = b) (w : World) : Calls Try.prog 22 #[boxV x, boxV y] w fun e w' => e = .returned (.bool b) ∧ Jk w w' := h ▸ ahead_any x y w
/-- the loop over the counts: what is still to come, where the best box lies -/
def Rng (w : World) (r gx m : Nat) (D : DataW Unit) (x : Bx) (w' : World) : Prop :=
  ∃ (left : Lit → Bool) (cnt : Nat), w'.ranges Try.prog 25 (plainElem Try.prog 3) (w.heap.size + 1) r m D left cnt ∧ w'.heap[gx]? = some (boxC x) ∧ Jk w w'
theorem within_to {z n k : Int} (w : World) (h : withinI z 0 n = k) (h1 : I64 z) (h2 : 0 ≤ n) (h3 : n ≤ 2305843009213693952) : Calls Try.prog 12 #[.int .i64 z, .int .i64 0, .int .i64 n] w fun e w' => e = .returned (.int .i64 k) ∧ w' = w :=
  h ▸ within_any z 0 n w h1.1 h1.2 h2 (by decide) h3

set_option maxRecDepth 100000 in
set_option maxHeartbeats 4000000 in
theorem boxSet_walk (a0 : Option Addr) (len0 cap0 : Nat) (L : List Bx) (a1 : Option Addr) (len1 cap1 : Nat) (Z : List Int) (w : World) (h0 : IsBoxes w a0 len0 cap0 L) (h1 : IsNums w a1 len1 cap1 Z) :
    Calls Try.prog 7 #[.slice a0 len0 cap0, .slice a1 len1 cap1] w fun e w' => e = .returned (.bool true) ∧ Jk w w' := by
  have HL : Hid (IsBoxes w a0 len0 cap0 L) := h0
  have HZ : Hid (IsNums w a1 len1 cap1 Z) := h1
  obtain ⟨_, q1, q2, _⟩ := h0
  obtain ⟨_, q3, q4, _⟩ := h1
  unfold maxLen at q2 q4
  have hmm := @run_makeMap Try.prog
  have J := rules8
  go_enter Try.func7, Try.ntmps7
  go_wp2_with fail
  go_loopw [6, 8] (fun v i wr => ∃ j : Nat, j ≤ 15 ∧ j ≤ len0 ∧ i = .int .i64 (j : Int) ∧ OwnB (w.heap.size + 2) wr v (L.take j) ∧ Jk w wr ∧ w.heap.size + 2 ≤ wr.heap.size ∧ Cnt wr w.heap.size 0 (.map []) ∧ Cnt wr (w.heap.size + 1) 0 (.map [])) (fun _ i _ => 15 - (intOf i).toNat)
  case atStart =>
    refine ⟨0, by omega, by omega, rfl, ownB_nil _ _, ((Jk.refl _).alloc _).alloc _, by simp, (cnt_made _ _ rfl).alloc _, cnt_made _ _ (by simp)⟩
  case round =>
    obtain ⟨j, j1, j2, rfl, hO, hj, hB, hc1, hc2⟩ := hrel
    go_upto_region 5 with fail
    go_cut [24] (fun o wc => o = .bool (decide (j < len0 ∧ j < 15)) ∧ wc = wr)
    case first =>
      by_cases l1 : j < len0
      · by_cases l2 : j < 15
        all_goals
          go_wp2_with fail
          go_meet
          case rel => exact ⟨by simp [l1, l2] <;> omega, rfl⟩
      · go_wp2_with fail
        go_meet
        case rel => exact ⟨by simp [l1], rfl⟩
    case rest =>
    obtain ⟨rfl, hw⟩ := hcut
    obtain rfl := hw.symm
    by_cases hlt : j < len0 ∧ j < 15
    · have hdec : decide (j < len0 ∧ j < 15) = true := by simpa using hlt
      simp only [hdec]
      clear hdec
      obtain ⟨l1, l2⟩ := hlt
      obtain ⟨hl, _, _, hok, hp⟩ := HL.out
      obtain ⟨g, o, rfl, hg, hat⟩ := hp (by omega)
      obtain ⟨x, hx⟩ : ∃ x, L[j]? = some x := ⟨_, List.getElem?_eq_getElem (by omega)⟩
      have hcell := (hat.jk hj hg).ten hx
      have hlen : (L.take j).length = j := by simp; omega
      have htk : L.take (j + 1) = L.take j ++ [x] := by rw [List.take_add_one, hx]; rfl
      have HO : Hid (OwnB (w.heap.size + 2) wr u6 (L.take j)) := hO
      have HJ : Hid (Jk w wr) := hj
      have H1 : Hid (Cnt wr w.heap.size 0 (.map [])) := hc1
      have H2 : Hid (Cnt wr (w.heap.size + 1) 0 (.map [])) := hc2
      have HT : Hid ((L.take j).length = j ∧ L.take (j + 1) = L.take j ++ [x]) := ⟨hlen, htk⟩
      obtain ⟨i0, hi, hz0, hz1, hz2⟩ := info_parts infoBox
      have HI : Hid (Try.prog.info? 25 = some i0 ∧ i0.zero = some (boxV nilB) ∧ i0.size = 10 ∧ i0.bytes = 80) := ⟨hi, hz0, hz1, hz2⟩
      have HB : Hid (∀ k, u6.ownBlock = some k → w.heap.size + 2 ≤ k) := fun k hk => (World.ownsRow.lt hO k hk).1
      clear hat hp hO hj hc1 hc2 hlen htk hi hz0 hz1 hz2 hok hl hx
      go_wp2_with (at_builtin; refine wpList_append_lies _ rfl _ _ 44 rfl (w.heap.size + 2) 25 i0 (boxV nilB) 10 80 Try.underlying44 HI.out.1 HI.out.2.1 HI.out.2.2.1 HI.out.2.2.2 rfl (by decide) _ (L.take j).length _ rfl (World.ownsRow.alloc HO.out _) ⟨wr.heap.size, 0, none⟩ 1 1 (cellsB x) rfl rfl (World.news_of_block (cs := (cellsB x).toArray) (heap_new wr _)) (by simp [cellsB, Value.oneCell']) (by decide) (by rw [HT.out.1]; unfold maxLen; omega) (by rw [HT.out.1]; omega) (by simp; omega) (wr.heap.size + 1) (by simp) ?_; intro g2 cap2 w2 hown2 hgrow2 hwh hlt2)
      go_roundw
      case rel =>
        have hr := HB.out
        have hg3 := (World.grownBy_alloc wr (boxC x) u6.ownBlock).trans hgrow2
        refine ⟨j + 1, by omega, by omega, by go_num, ?_, HJ.out.grownO hg3 (fun k hk => by have := hr k hk; omega), Nat.le_trans hB hg3.size, H1.out.kept hg3 (ne_row hr (by omega)), H2.out.kept hg3 (ne_row hr (by omega))⟩
        rw [HT.out.2]
        have := ownB_snoc hown2
        rwa [HT.out.1] at this
      case measure => simp [intOf]; omega
    · have hdec : decide (j < len0 ∧ j < 15) = false := by simpa using hlt
      simp only [hdec]
      clear hdec hlt
      have hxs : ∀ x ∈ L.take j, x.ok := fun x hx => HL.out.2.2.2.1 x (List.mem_of_mem_take hx)
      have hxl : (L.take j).length ≤ 15 := by simp; omega
      generalize L.take j = xs at hO hxs hxl
      obtain ⟨av, cv, rfl, hcv1, hcv2, hav⟩ := hO.form
      unfold maxLen at hcv1
      go_wp2_with fail
      go_loopw [9] (fun i wr => ∃ (m : Nat) (D : DataW Unit), m ≤ 30 ∧ i = .int .i64 (m : Int) ∧ OwnB (w.heap.size + 2) wr (.slice av xs.length cv) xs ∧ Jk w wr ∧ w.heap.size + 2 ≤ wr.heap.size ∧ Cnt wr w.heap.size m D ∧ Cnt wr (w.heap.size + 1) m D ∧ Good D m) (fun i _ => 30 - (intOf i).toNat)
      case atStart => exact ⟨0, .map [], by omega, rfl, hO, hj, hB, hc1, hc2, fun y c ⟨_, _, h, _⟩ => by cases h⟩
      case round =>
        obtain ⟨m, D, m1, rfl, hO2, hj2, hB2, hs, hc, hg⟩ := hrel
        clear hO hj hB hc1 hc2
        go_upto_region 9 with fail
        go_cut [46] (fun o wc => o = .bool (decide (m < len1 ∧ m < 30 ∧ 0 < xs.length)) ∧ wc = wr)
        case first =>
          by_cases l1 : m < len1
          · by_cases l2 : m < 30
            · by_cases l3 : 0 < xs.length
              all_goals
                go_wp2_with fail
                go_meet
                case rel => exact ⟨by simp [l1, l2, l3] <;> omega, rfl⟩
            · go_wp2_with fail
              go_meet
              case rel => exact ⟨by simp [l1, l2] <;> omega, rfl⟩
          · go_wp2_with fail
            go_meet
            case rel => exact ⟨by simp [l1], rfl⟩
        case rest =>
        obtain ⟨rfl, hw⟩ := hcut
        obtain rfl := hw.symm
        by_cases hlt : m < len1 ∧ m < 30 ∧ 0 < xs.length
        · have hdec : decide (m < len1 ∧ m < 30 ∧ 0 < xs.length) = true := by simpa using hlt
          simp only [hdec]
          clear hdec
          obtain ⟨l1, l2, l3⟩ := hlt
          obtain ⟨hl, _, _, hok, hp⟩ := HZ.out
          obtain ⟨gz, oz, rfl, hgz, hat⟩ := hp (by omega)
          obtain ⟨z, hz⟩ : ∃ z, Z[m]? = some z := ⟨_, List.getElem?_eq_getElem (by omega)⟩
          have hzc : wr.cell? ⟨gz, oz + m, none⟩ = some (.int .i64 z) := (hj2.below.cell (p := ⟨gz, oz + m, none⟩) hgz).trans (hat m z hz)
          have hzi : Hid (I64 z) := hok z (List.mem_of_getElem? hz)
          obtain ⟨k0, k1⟩ := within_bd z 0 ((xs.length : Int) - 1) (by omega)
          obtain ⟨k, hk⟩ : ∃ k : Nat, withinI z 0 ((xs.length : Int) - 1) = (k : Int) := ⟨(withinI z 0 ((xs.length : Int) - 1)).toNat, by omega⟩
          rw [hk] at k0 k1
          have HW : Hid (withinI z 0 ((xs.length : Int) - 1) = (k : Int)) := hk
          obtain ⟨gv, rfl, hgv⟩ := hav l3
          obtain ⟨y, hy⟩ : ∃ y, xs[k]? = some y := ⟨_, List.getElem?_eq_getElem (by omega)⟩
          have hyc := (hO2.at rfl).ten hy
          simp only [Nat.zero_add] at hyc
          obtain ⟨kl, hkl⟩ := key_box y (hxs y (List.mem_of_getElem? hy))
          clear hat hp hok hl hk hy hz hav
          go_upto_region 12 with (first | (go_at_call 12; refine (within_to _ HW.out hzi.out (by omega) (by omega)).mono ?_; rintro e w9 ⟨rfl, hw9⟩; obtain rfl := hw9.symm))
          have hcW : Cnt (wr.alloc (boxC y)).drew (w.heap.size + 1) m D := (hc.alloc (boxC y)).drew
          obtain ⟨c, hL, hat, hwc⟩ := World.ownsMap.lookup_int (t := 29) hcW lawBox Try.underlying29 Try.underlying3 (zeroInt _) hkl
          obtain ⟨c0, c1⟩ := good_at hg (hc.tidy lawBox).isMap hkl hat
          obtain ⟨v0, st, wE, D1, hE, hC1, hA1, hG1, hS⟩ := entry_own hcW (by omega) hkl hat
          obtain ⟨c', hL1, hat1, _⟩ := World.ownsMap.lookup_int (t := 29) hC1 lawBox Try.underlying29 Try.underlying3 (zeroInt _) hkl
          obtain rfl := (same_lit hA1 hat1).symm
          obtain ⟨wS, hS1, hC2, hG2⟩ := hS (c + 1) (wf_of ⟨by omega, by omega⟩)
          have hS2 : (Instr.entryStore 29 (.map (some (w.heap.size + 1))) (.int .i64 (st : Int)) (.int .i64 (c + 1))).run Try.prog wE = .ok () wS := hS1
          have hwr : IntKind.i64.wrap (c + 1) = c + 1 := wrap_i64_in (by omega) (by omega)
          clear hS1
          have HG2 : Hid ((wr.alloc (boxC y)).drew.grownBy wS (some (w.heap.size + 1))) := hG2
          have HC2 : Hid (Cnt wS (w.heap.size + 1) (m + 1) (D.put kl (.lit (.int .i64 (c + 1))))) := hC2
          have HAT : Hid (D.atKey kl (.lit (.int .i64 0)) = .lit (.int .i64 c)) := hat
          have HK : Hid (keyOf Try.prog 25 (boxV y) = some kl) := hkl
          have HGD : Hid (Good D m) := hg
          have HS : Hid (Cnt wr w.heap.size m D) := hs
          have HC : Hid (Cnt wr (w.heap.size + 1) m D) := hc
          have HJ : Hid (Jk w wr) := hj2
          have HO : Hid (OwnB (w.heap.size + 2) wr (.slice (some ⟨gv, 0, none⟩) xs.length cv) xs) := hO2
          clear hG2 hC2 hat hkl hg hs hc hj2 hO2 hS hat1 hC1 hA1 hG1 hcW hwc
          go_cut [62] (fun _ wc => (wr.alloc (boxC y)).drew.grownBy wc (some (w.heap.size + 1)) ∧ Cnt wc (w.heap.size + 1) (m + 1) (D.put kl (.lit (.int .i64 (c + 1)))))
          case first =>
            go_region
            all_goals
              go_wp2_with fail
              go_meet
              case rel => exact ⟨HG2.out, HC2.out⟩
          case rest =>
            obtain ⟨hgw, hcc⟩ := hcut
            clear hL hE hL1 hS2 hwr HG2 HC2 hyc hzc
            have hDm := (HC.out.tidy lawBox).isMap
            have hat2 : (D.put kl (.lit (.int .i64 (c + 1)))).atKey kl (.lit (.int .i64 0)) = .lit (.int .i64 (c + 1)) := atKey_put_same hDm (lawBox.key HK.out) _ _
            have hgd2 : Good (D.put kl (.lit (.int .i64 (c + 1)))) (m + 1) := good_put HGD.out hDm HK.out HAT.out
            have hadd : ∀ W, Cnt W w.heap.size m D → Calls Try.prog 11 #[.map (some w.heap.size), boxV y] W fun e w' => e = .returned (.int .i64 (c + 1)) ∧ Cnt w' w.heap.size (m + 1) (D.put kl (.lit (.int .i64 (c + 1)))) ∧ W.grownBy w' (some w.heap.size) :=
              fun W hW => sadd_any y kl w.heap.size m D c W HK.out hW (by omega) HAT.out (by omega) (by omega)
            generalize D.put kl (.lit (.int .i64 (c + 1))) = D' at hcc hat2 hgd2 hadd
            have hbx : wc.heap[wr.heap.size]? = some (boxC y) := (hgw.block wr.heap.size (by simp) (by simp; omega)).trans (heap_new wr _)
            have hsc : Cnt wc w.heap.size m D := ((HS.out.alloc (boxC y)).drew).kept hgw (by simp)
            have HA : Hid (Calls Try.prog 11 #[.map (some w.heap.size), boxV y] wc.drew fun e w' => e = .returned (.int .i64 (c + 1)) ∧ Cnt w' w.heap.size (m + 1) D' ∧ wc.drew.grownBy w' (some w.heap.size)) := hadd wc.drew hsc.drew
            have hgv2 : ∀ k, (Value.slice (some ⟨gv, 0, none⟩) xs.length cv).ownBlock = some k → w.heap.size + 2 ≤ k := fun k hk => by simp [Value.ownBlock] at hk; omega
            have HF : Hid (∀ w9, wc.drew.grownBy w9 (some w.heap.size) → Cnt w9 w.heap.size (m + 1) D' →
                w9.heap[wr.heap.size]? = some (boxC y) ∧ Cnt w9 (w.heap.size + 1) (m + 1) D' ∧ Jk w w9 ∧ OwnB (w.heap.size + 2) w9 (.slice (some ⟨gv, 0, none⟩) xs.length cv) xs ∧ w.heap.size + 2 ≤ w9.heap.size ∧
                (Instr.lookup 29 (.map (some (w.heap.size + 1))) (boxV y) false).run Try.prog w9 = .ok (.int .i64 (c + 1)) w9 ∧
                (∀ ty, (Builtin.len_ #[30] ty #[.map (some w.heap.size)]).run Try.prog w9 = .ok (.int .i64 (Maps.size D')) w9) ∧ (∀ ty, (Builtin.len_ #[29] ty #[.map (some (w.heap.size + 1))]).run Try.prog w9 = .ok (.int .i64 (Maps.size D')) w9)) := by
              intro w9 hg9 hc9
              have k1 : Cnt w9 (w.heap.size + 1) (m + 1) D' := (hcc.drew).kept hg9 (by simp)
              obtain ⟨c2, e1, e2, _⟩ := World.ownsMap.lookup_int (t := 29) k1 lawBox Try.underlying29 Try.underlying3 (zeroInt _) HK.out
              obtain rfl := same_lit hat2 e2
              have hall := ((HO.out.alloc (boxC y)).drew).kept hgw (Or.inr (fun e => by have := hgv2 _ e; omega))
              refine ⟨(hg9.block wr.heap.size (heap_lt hbx) (by simp; omega)).trans hbx, k1, ?_, (hall.drew).kept hg9 (Or.inr (fun e => by have := hgv2 _ e; omega)), ?_, e1, fun ty => hc9.len Try.underlying30 ty, fun ty => k1.len Try.underlying29 ty⟩
              · exact ((((HJ.out.alloc (boxC y)).drew).grown hgw (by omega)).drew).grown hg9 (Nat.le_refl _)
              · have h1 := hgw.size
                have h2 := hg9.size
                simp at h1 h2
                omega
            obtain ⟨c2, hlk0, e2, _⟩ := World.ownsMap.lookup_int (t := 29) (hcc.drew) lawBox Try.underlying29 Try.underlying3 (zeroInt _) HK.out
            obtain rfl := same_lit hat2 e2
            have hbc := box_cells hbx
            have HGD2 : Hid (Good D' (m + 1)) := hgd2
            clear e2 hat2 hgd2 hadd hsc hbx hcc hgw hDm
            go_upto_region 13 with fail
            go_cut [79] (fun o w5 => o = .bool false ∧ Cnt w5 w.heap.size (m + 1) D' ∧ Cnt w5 (w.heap.size + 1) (m + 1) D' ∧ Jk w w5 ∧ OwnB (w.heap.size + 2) w5 (.slice (some ⟨gv, 0, none⟩) xs.length cv) xs ∧ w.heap.size + 2 ≤ w5.heap.size)
            case first =>
              go_region_with ((go_at_call 11; refine HA.out.mono ?_; rintro e w9 ⟨rfl, hC9, hG9⟩; obtain ⟨hbx9, HC9, HJ9, HO9, HB9, hlk9, hln1, hln2⟩ := HF.out w9 hG9 hC9; have hbc9 := box_cells hbx9))
              all_goals
                go_wp2_with fail
                go_meet
                case rel => exact ⟨rfl, hC9, HC9, HJ9, HO9, HB9⟩
            case rest =>
              obtain ⟨rfl, f1, f2, f3, f4, f5⟩ := hcut
              go_wp2_with fail
              go_roundw
              case rel => exact ⟨m + 1, D', by omega, by go_num, f4, f3, f5, f1, f2, HGD2.out⟩
              case measure => simp [intOf]; omega
        · have hdec : decide (m < len1 ∧ m < 30 ∧ 0 < xs.length) = false := by simpa using hlt
          simp only [hdec]
          clear hdec hlt hO2 hcv1 hcv2 hav hxs hxl
          have HL2 : Hid (Calls Try.prog 21 #[.map (some w.heap.size)] wr fun e w' => ∃ x k, e = .returned (.tuple #[boxV x, .int .i64 k]) ∧ Best D x k ∧ Jk wr w') := largest_any w.heap.size m D wr hs
          go_upto_region 16 with (first | (go_at_call 21; refine HL2.out.mono ?_; rintro e w9 ⟨x, k, rfl, hbest, X1, rfl⟩))
          have hcW : Cnt ((junk wr X1).alloc (boxC x)) (w.heap.size + 1) m D := (hc.kept (Jk.grownN ⟨X1, rfl⟩) (by simp)).alloc (boxC x)
          have hln := fun ty => hcW.len Try.underlying29 ty
          have HJ : Hid (Jk w ((junk wr X1).alloc (boxC x))) := (hj2.junk X1).alloc (boxC x)
          have HCW : Hid (Cnt ((junk wr X1).alloc (boxC x)) (w.heap.size + 1) m D) := hcW
          by_cases hD0 : Maps.size D = 0
          · obtain ⟨rfl, rfl⟩ : x = nilB ∧ k = 0 := best_none hbest hD0
            have E1 : ∀ w : World, (Op.equalIn 10000 25 (boxV nilB) (boxV nilB)).run Try.prog w = .ok true w := fun w => by rw [eq_box, Bx.eqB_self]
            rw [hD0] at hln
            clear hcW hbest hs hc hg hj2 HL2
            go_wp2_with (first | (go_at_call 3; refine (boxRuns_any _).mono ?_; rintro e w9 ⟨rfl, X2, rfl⟩))
            go_ret
            exact ⟨rfl, HJ.out.junk _⟩
          · obtain ⟨⟨xl, hxk, hxh, hxa⟩, hmax⟩ := best_some hbest hD0 (hc.entries lawBox)
            have hk1 : 1 ≤ k := (hg x k ⟨xl, hxk, hxh, hxa⟩).1
            obtain ⟨c, hlk, e2, _⟩ := World.ownsMap.lookup_int (t := 29) hcW lawBox Try.underlying29 Try.underlying3 (zeroInt _) hxk
            obtain rfl : c = k := same_lit (hxa _) e2
            have hD1 : ¬ ((Maps.size D : Int) = 0) := by omega
            have hD2 : ((Maps.size D : Int) == 0) = false := by simpa using hD1
            have HM : Hid (∀ (y : Bx) (yl : Lit) (c' : Int), keyOf Try.prog 25 (boxV y) = some yl → Maps.has D yl = true → (∀ z, D.atKey yl z = .lit (.int .i64 c')) → c' ≤ c ∧ (c' = c → y.bef x = false)) := hmax
            have hgx : ((junk wr X1).alloc (boxC x)).heap[wr.heap.size + Jn X1]? = some (boxC x) := by rw [← junk_size wr X1]; exact heap_new _ _
            have HGX : Hid (((junk wr X1).alloc (boxC x)).heap[wr.heap.size + Jn X1]? = some (boxC x)) := hgx
            have e1 : ((junk wr X1).alloc (boxC x)).heap.size = wr.heap.size + Jn X1 + 1 := by simp [junk_size]
            have hszw : w.heap.size + 2 ≤ wr.heap.size := hB2
            clear hcW hbest hs hc hg hj2 HL2 hmax hxa hxh hgx e2
            go_wp2_with (first
              | (at_range; refine wpList_range_own _ rfl _ 29 rfl 25 3 lawBox Try.underlying29 _ (w.heap.size + 1) m _ rfl HCW.out ?_; intro w0 hrg0 hg0 hs0)
              | go_in)
            go_frame
            rw [e1] at hrg0 hs0 ⊢
            go_loopw [14] (fun _ wr' => Rng w (wr.heap.size + Jn X1 + 1) (wr.heap.size + Jn X1) m D x wr')
              (fun _ wr' => wr'.rangeLeft (w.heap.size + 1) (wr.heap.size + Jn X1 + 1))
            case atStart => exact ⟨_, _, hrg0, (hg0.block _ (heap_lt HGX.out) (by simp)).trans HGX.out, HJ.out.still hg0⟩
            case round =>
              obtain ⟨left, cnt, hrg, hx, hj⟩ := hrel
              have HR : Hid (wr.ranges Try.prog 25 (plainElem Try.prog 3) (w.heap.size + 1) _ m D left cnt) := hrg
              have HX := hx
              have HJr : Hid (Jk w wr) := hj
              clear hx hj hrg hrg0 hg0 hs0 hln hlk HCW HGX e1 HJ
              go_wp2_with (first
                | (at_next; refine wpList_next_ranges _ rfl _ rfl 25 lawBox (plainElem Try.prog 3) boxV (fun c => .int .i64 c) (fun key kl h => by obtain ⟨x, _, e⟩ := key_inv h; exact ⟨x, e⟩) (fun v y h => invV h) (w.heap.size + 1) _ m _ _ _ rfl HR.out ?_ ?_)
                | go_in)
              · intro hc0 hl0
                clear hl0 HX
                go_wp2_with (first | (go_at_call 3; refine (boxRuns_any _).mono ?_; rintro e w9 ⟨rfl, X2, rfl⟩))
                go_ret
                exact ⟨rfl, HJr.out.junk _⟩
              · intro y c' kl zd zp w1 cnt1 hkey hlx hz hat hrg1 hlt hg1 hs1 hen
                obtain ⟨rfl, hc1, hc2⟩ := elem_int hz
                obtain ⟨m1', m2'⟩ := HM.out y kl c' hkey (has_true_of_atKey hat) hat
                have hx1 := (hg1.block _ (heap_lt HX) (by simp)).trans HX
                have HX1 : Hid (w1.heap[_]? = some (boxC x)) := hx1
                have HR1 : Hid (w1.ranges Try.prog 25 (plainElem Try.prog 3) (w.heap.size + 1) _ m D (fun z => left z && !z.sameKey kl) cnt1) := hrg1
                have HJ1 : Hid (Jk w w1) := HJr.out.grown hg1 (by omega)
                have HLT : Hid (cnt1 < cnt) := hlt
                have hcx := box_cells hx1
                have lx := lt_more (heap_lt hx1)
                clear hx1 hrg1 hlt hat hkey hs1 hg1 hlx hz HX
                by_cases g1 : c' = c
                · obtain rfl := g1.symm
                  have hbf := m2' rfl
                  clear m1' m2'
                  by_cases g2 : y = x
                  · subst g2
                    have E1 : ∀ w : World, (Op.equalIn 10000 25 (boxV y) (boxV y)).run Try.prog w = .ok true w := fun w => by rw [eq_box, Bx.eqB_self]
                    clear hbf
                    go_wp2
                    have hjj : Jk w1 (w1.alloc (boxC y)) := (Jk.refl _).alloc _
                    have hrg2 := HR1.out.kept hjj.grownN (by simp) (by simp)
                    have hx2 := (hjj.heap (heap_lt HX1.out)).trans HX1.out
                    have hj2 := HJ1.out.trans hjj
                    go_roundw
                    case rel => exact ⟨_, cnt1, hrg2, hx2, hj2⟩
                    case measure => rw [hrg2.left_eq, HR.out.left_eq]; exact HLT.out
                  · have E1 : ∀ w : World, (Op.equalIn 10000 25 (boxV y) (boxV x)).run Try.prog w = .ok false w := fun w => by rw [eq_box, Bx.eqB_no g2]
                    have HB : Hid (y.bef x = false) := hbf
                    clear hbf
                    go_wp2_with (first | (go_at_call 22; refine (ahead_is HB.out _).mono ?_; rintro e w9 ⟨rfl, X2, rfl⟩))
                    have hjj : Jk w1 (junk (w1.alloc (boxC y)) X2) := ((Jk.refl _).alloc _).junk _
                    have hrg2 := HR1.out.kept hjj.grownN (by simp) (by simp)
                    have hx2 := (hjj.heap (heap_lt HX1.out)).trans HX1.out
                    have hj2 := HJ1.out.trans hjj
                    go_roundw
                    case rel => exact ⟨_, cnt1, hrg2, hx2, hj2⟩
                    case measure => rw [hrg2.left_eq, HR.out.left_eq]; exact HLT.out
                · have g3 : ¬ c < c' := by omega
                  clear m2'
                  go_wp2
                  have hjj : Jk w1 (w1.alloc (boxC y)) := (Jk.refl _).alloc _
                  have hrg2 := HR1.out.kept hjj.grownN (by simp) (by simp)
                  have hx2 := (hjj.heap (heap_lt HX1.out)).trans HX1.out
                  have hj2 := HJ1.out.trans hjj
                  go_roundw
                  case rel => exact ⟨_, cnt1, hrg2, hx2, hj2⟩
                  case measure => rw [hrg2.left_eq, HR.out.left_eq]; exact HLT.out

end Go.Proofs.Ytdmkaaehpcnpfaa
