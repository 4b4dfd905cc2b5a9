/- Plain mathematics of chapter 11: a query's text, the words of which it is made, and the query that a text is read for. No program is spoken of here. -/
import Derived.Test.YtjpffempmlfoeaaDoorMathX
import Derived.Test.YtjpffempmlfoeaaDoorQueryM
import Derived.Lib.CutLaws
namespace Go.Proofs.YtjpffempmlfoeaaDoor
open Go.RowKit M

/-! words of a text -/
def befB (l : Txt) : Txt := (Lib.cut l [32]).1
def aftB (l : Txt) : Txt := (Lib.cut l [32]).2.1
def befP (l : Txt) : Txt := (Lib.cut l [46, 46]).1
def aftP (l : Txt) : Txt := (Lib.cut l [46, 46]).2.1
theorem cut_len (l s : Txt) : (Lib.cut l s).1.length ≤ l.length ∧ (Lib.cut l s).2.1.length ≤ l.length := by
  unfold Lib.cut
  split <;> simp
  omega
theorem befB_len (l : Txt) : (befB l).length ≤ l.length := (cut_len l [32]).1
theorem aftB_len (l : Txt) : (aftB l).length ≤ l.length := (cut_len l [32]).2
theorem befP_len (l : Txt) : (befP l).length ≤ l.length := (cut_len l _).1
theorem aftP_len (l : Txt) : (aftP l).length ≤ l.length := (cut_len l _).2
theorem index_blank : ∀ (t r : Txt), plainB t = true → Lib.index (t ++ 32 :: r) [32] = (t.length : Int) ∧ Lib.index t [32] = -1
  | [], r, _ => by
    refine ⟨?_, ?_⟩
    · rw [List.nil_append, Lib.index]
      simp [List.isPrefixOf]
    · rw [Lib.index]; rfl
  | c :: t, r, h => by
    simp only [plainB, List.all_cons, Bool.and_eq_true] at h
    have hc : ¬ c = 32 := by
      rintro rfl
      exact absurd h.1.1 (by decide)
    obtain ⟨h1, h2⟩ := index_blank t r h.2
    have hp : ∀ q : Txt, ([32] : Txt).isPrefixOf (c :: q) = false := fun q => by
      simp only [List.isPrefixOf, Bool.and_true]
      simpa using fun h => hc h.symm
    refine ⟨?_, ?_⟩
    · rw [List.cons_append, Lib.index, hp, h1]
      have : ¬ ((t.length : Int) = -1) := by omega
      simp [this]
    · rw [Lib.index, hp, h2]
      simp
theorem cut_blank {t : Txt} (r : Txt) (h : plainB t = true) : befB (t ++ 32 :: r) = t ∧ aftB (t ++ 32 :: r) = r ∧ befB t = t ∧ aftB t = [] := by
  obtain ⟨h1, h2⟩ := index_blank t r h
  unfold befB aftB Lib.cut
  rw [h1, h2, if_pos (by omega), if_neg (by omega)]
  simp
theorem befB_app {t : Txt} (r : Txt) (h : plainB t = true) : befB (t ++ 32 :: r) = t := (cut_blank r h).1
theorem aftB_app {t : Txt} (r : Txt) (h : plainB t = true) : aftB (t ++ 32 :: r) = r := (cut_blank r h).2.1
theorem befB_all {t : Txt} (h : plainB t = true) : befB t = t := (cut_blank [] h).2.2.1
/-- no two points beside each other, and none at the end -/
def onePt : Txt → Bool
  | [] => true
  | [c] => !(c == 46)
  | c :: d :: r => !(c == 46 && d == 46) && onePt (d :: r)
theorem index_points : ∀ (t r : Txt), onePt t = true → Lib.index (t ++ 46 :: 46 :: r) [46, 46] = (t.length : Int)
  | [], r, _ => by
    rw [List.nil_append, Lib.index]
    simp [List.isPrefixOf]
  | [c], r, h => by
    have hc : ¬ c = 46 := by simpa [onePt] using h
    have h2 := index_points [] r rfl
    rw [List.nil_append] at h2
    rw [List.cons_append, List.nil_append, Lib.index, h2]
    have hp : ([46, 46] : Txt).isPrefixOf (c :: 46 :: 46 :: r) = false := by
      simp only [List.isPrefixOf, Bool.and_true]
      simp
      exact fun h => absurd h.symm hc
    rw [hp]
    simp
  | c :: d :: t, r, h => by
    simp only [onePt, Bool.and_eq_true] at h
    have h2 := index_points (d :: t) r h.2
    have hp : ([46, 46] : Txt).isPrefixOf (c :: ((d :: t) ++ 46 :: 46 :: r)) = false := by
      simp only [List.isPrefixOf, List.cons_append, Bool.and_true]
      have h1 := h.1
      simp at h1 ⊢
      rintro rfl rfl
      simp at h1
    rw [List.cons_append, Lib.index, hp, h2]
    have : ¬ (((d :: t).length : Int) = -1) := by omega
    simp only [Bool.false_eq_true, if_false, beq_iff_eq, this]
    simp
theorem cut_points {t : Txt} (r : Txt) (h : onePt t = true) : befP (t ++ 46 :: 46 :: r) = t ∧ aftP (t ++ 46 :: 46 :: r) = r := by
  have h1 := index_points t r h
  unfold befP aftP Lib.cut
  rw [h1, if_pos (by omega)]
  simp
theorem onePt_digs : ∀ (t : Txt), t.all isDig = true → onePt t = true
  | [], _ => rfl
  | [c], h => by
    simp only [List.all_cons, List.all_nil, Bool.and_true] at h
    have := (dig_ne h).1
    simp [onePt, this]
  | c :: d :: t, h => by
    simp only [List.all_cons, Bool.and_eq_true] at h
    have h1 := (dig_ne h.1).1
    have h2 := onePt_digs (d :: t) (by simp only [List.all_cons, Bool.and_eq_true]; exact h.2)
    simp [onePt, h1, h2]
theorem onePt_tail : ∀ (t q : Txt), t.all isDig = true → q.all isDig = true → q ≠ [] → onePt (t ++ 46 :: q) = true
  | [], q, _, hq, h0 => by
    cases q with
    | nil => exact absurd rfl h0
    | cons c q =>
      have h1 : isDig c = true := by simp only [List.all_cons, Bool.and_eq_true] at hq; exact hq.1
      have h2 := (dig_ne h1).1
      simp [onePt, h2, onePt_digs (c :: q) hq]
  | [c], q, h, hq, h0 => by
    simp only [List.all_cons, List.all_nil, Bool.and_true] at h
    have h1 := (dig_ne h).1
    have h2 := onePt_tail [] q rfl hq h0
    simp only [List.nil_append] at h2
    simp [onePt, h1, h2]
  | c :: d :: t, q, h, hq, h0 => by
    simp only [List.all_cons, Bool.and_eq_true] at h
    have h1 := (dig_ne h.1).1
    have h2 := onePt_tail (d :: t) q (by simp only [List.all_cons, Bool.and_eq_true]; exact h.2) hq h0
    simp only [List.cons_append] at h2
    simp [onePt, h1, h2]
theorem onePt_printU (u : Nat) : onePt (printU u) = true := by
  unfold printU tailD
  have hd := dd_dig (u / 256)
  by_cases h : u % 256 = 0
  · rw [if_pos h, List.append_nil]
    exact onePt_digs _ hd
  · rw [if_neg h]
    have hf := decs_facts (u % 256) (by omega)
    refine onePt_tail _ _ hd hf.1 fun e => h (hf.2.2.1.1 ?_)
    rw [e]; rfl
theorem onePt_cons {c : UInt8} {t : Txt} (hc : c ≠ 46) (h : onePt t = true) : onePt (c :: t) = true := by
  cases t with
  | nil => simp [onePt, hc]
  | cons d t => simp [onePt, hc, h]
theorem onePt_print (n : Int) : onePt (printL n) = true := by
  unfold printL
  split
  · exact onePt_cons (by decide) (onePt_printU _)
  · exact onePt_printU _

/-! what a query's text is made of -/
def kRange : Txt := [114, 97, 110, 103, 101]
def kFrom : Txt := [102, 114, 111, 109]
def kTo : Txt := [116, 111]
def kBest : Txt := [98, 101, 115, 116]
def kRises : Txt := [114, 105, 115, 101, 115]
def kFalls : Txt := [102, 97, 108, 108, 115]
def kBy : Txt := [98, 121]
def kIn : Txt := [105, 110]
def kBudget : Txt := [98, 117, 100, 103, 101, 116]
def spanT (s : Sp) : Txt := printL s.lo ++ (46 :: 46 :: printL s.hi)
def wayT (b : Bool) : Txt := if b = true then kFalls else kRises
def headW (q : Qy) : List Txt := if q.kd = 1 then [kRange, dg q.cl, kFrom, printL q.lo, kTo, printL q.hi] else if q.kd = 2 then [kBest, dg q.cl] else if q.kd = 3 then [wayT q.fa, dg q.cl, kBy, dg q.f] else []
def spansW (b : Bx) : Nat → List Txt
  | 0 => []
  | k + 1 => spansW b k ++ [spanT (b.at (k : Int))]
def wordsQ (q : Qy) (d : Nat) : List Txt := ((headW q ++ [kIn]) ++ spansW q.rg d) ++ [kBudget, dg q.bu]
def askT (q : Qy) (d : Nat) : Txt := Lib.join (wordsQ q d) [32]
def smallN (n : Int) : Prop := 0 ≤ n ∧ n ≤ 1073741824
instance (n : Int) : Decidable (smallN n) := inferInstanceAs (Decidable (_ ∧ _))
def Sp.isNil (s : Sp) : Prop := s.lo = 0 ∧ s.hi = 0
instance (s : Sp) : Decidable (Sp.isNil s) := inferInstanceAs (Decidable (_ ∧ _))
/-- behind the first d spans there is nothing -/
def restNil (d : Int) (b : Bx) : Prop := (d ≤ 1 → Sp.isNil b.b) ∧ (d ≤ 2 → Sp.isNil b.c) ∧ (d ≤ 3 → Sp.isNil b.d) ∧ Sp.isNil b.e
instance (d : Int) (b : Bx) : Decidable (restNil d b) := inferInstanceAs (Decidable (_ ∧ _ ∧ _ ∧ _))
/-- what a kind doesn't speak of is nought -/
def kindZ (q : Qy) : Prop := (q.kd = 1 ∧ q.f = 0 ∧ q.fa = false) ∨ (q.kd = 2 ∧ q.lo = 0 ∧ q.hi = 0 ∧ q.f = 0 ∧ q.fa = false) ∨ (q.kd = 3 ∧ q.lo = 0 ∧ q.hi = 0)
instance (q : Qy) : Decidable (kindZ q) := inferInstanceAs (Decidable (_ ∨ _ ∨ _))
structure TellsQ (q : Qy) (d : Int) : Prop where
  d1 : 1 ≤ d
  d4 : d ≤ 4
  cl : smallN q.cl
  f : smallN q.f
  bu : smallN q.bu
  rg : restNil d q.rg
  kd : kindZ q
theorem tells_iff (q : Qy) (d : Int) : TellsQ q d ↔ (1 ≤ d ∧ d ≤ 4 ∧ smallN q.cl ∧ smallN q.f ∧ smallN q.bu ∧ restNil d q.rg ∧ kindZ q) := ⟨fun h => ⟨h.1, h.2, h.3, h.4, h.5, h.6, h.7⟩, fun ⟨a, b, c, d, e, f, g⟩ => ⟨a, b, c, d, e, f, g⟩⟩
instance (q : Qy) (d : Int) : Decidable (TellsQ q d) := decidable_of_iff _ (tells_iff q d).symm
def printQ (q : Qy) (d : Int) : Txt := if TellsQ q d then askT q d.toNat else []

/-! the reading -/
def smV (l : Txt) : Int := scanN l / 256
def spanV' (l : Txt) : Sp := ⟨scanN (befP l), scanN (aftP l)⟩
def kindA (l : Txt) : Qy × Txt :=
  if befB l = kRange then (⟨1, smV (befB (aftB l)), Bx.nil, scanN (befB (aftB (aftB (aftB l)))), scanN (befB (aftB (aftB (aftB (aftB (aftB l)))))), 0, false, 0⟩, aftB (aftB (aftB (aftB (aftB (aftB l))))))
  else if befB l = kBest then (⟨2, smV (befB (aftB l)), Bx.nil, 0, 0, 0, false, 0⟩, aftB (aftB l))
  else if befB l = kRises then (⟨3, smV (befB (aftB l)), Bx.nil, 0, 0, smV (befB (aftB (aftB (aftB l)))), false, 0⟩, aftB (aftB (aftB (aftB l))))
  else if befB l = kFalls then (⟨3, smV (befB (aftB l)), Bx.nil, 0, 0, smV (befB (aftB (aftB (aftB l)))), true, 0⟩, aftB (aftB (aftB (aftB l))))
  else (⟨0, smV (befB (aftB l)), Bx.nil, 0, 0, 0, false, 0⟩, aftB (aftB l))
def spansR' : Nat → Nat → Bx → Txt → Txt → Bx × Nat × Txt
  | 0, d, b, _, r => (b, d, r)
  | k + 1, d, b, w, r => if w = kBudget then (b, d, r) else spansR' k (d + 1) (b.put (d : Int) (spanV' w)) (befB r) (aftB r)
def readQ (l : Txt) : Qy × Nat :=
  let k := kindA l
  let s := spansR' 4 0 Bx.nil (befB (aftB k.2)) (aftB (aftB k.2))
  (⟨k.1.kd, k.1.cl, s.1, k.1.lo, k.1.hi, k.1.f, k.1.fa, smV (befB s.2.2)⟩, s.2.1)

/-! what is printed is read -/
theorem dg_print {n : Int} (h : 0 ≤ n) : dg n = printL (256 * n) := by
  obtain ⟨k, rfl⟩ := Int.eq_ofNat_of_zero_le h
  unfold printL printU tailD dg
  rw [if_neg (by omega)]
  have e : (256 * (k : Int)).natAbs = 256 * k := by omega
  rw [e, if_pos (by omega), show 256 * k / 256 = k by omega, List.append_nil]
  simp
theorem smV_dg {n : Int} (h : smallN n) : smV (dg n) = n := by
  unfold smallN at h
  unfold smV
  rw [dg_print h.1, (scan_print _ (by omega) (by omega)).1]
  omega
theorem plain_span (s : Sp) : plainB (spanT s) = true := plain_app (plain_printL _) (by
  have := plain_printL s.hi
  unfold plainB at this ⊢
  simp only [List.all_cons, this]
  decide)
theorem span_ne (s : Sp) : spanT s ≠ kBudget := fun e => by
  have h : (46 : UInt8) ∈ spanT s := by unfold spanT; simp
  rw [e] at h
  revert h
  decide
theorem span_back {s : Sp} (h : s.ok) : spanV' (spanT s) = s := by
  obtain ⟨lo, hi⟩ := s
  unfold Sp.ok I64 at h
  have hc := cut_points (printL hi) (onePt_print lo)
  unfold spanV' spanT
  simp only at h ⊢
  rw [hc.1, hc.2, (scan_print lo h.1.1 h.1.2).1, (scan_print hi h.2.1 h.2.2).1]
/-- the spans' words, each with a blank behind it, and what follows -/
def spansT (b : Bx) : Nat → Nat → Txt → Txt
  | 0, _, z => z
  | k + 1, i, z => spanT (b.at (i : Int)) ++ 32 :: spansT b k (i + 1) z
theorem spansR_step (k i : Nat) (b' : Bx) {s : Sp} (h : s.ok) (r : Txt) : spansR' (k + 1) i b' (spanT s) r = spansR' k (i + 1) (b'.put (i : Int) s) (befB r) (aftB r) := by
  rw [spansR', if_neg (span_ne s), span_back h]
theorem spansR_end (k i : Nat) (b' : Bx) (r : Txt) : spansR' k i b' kBudget r = (b', i, r) := by
  cases k with
  | zero => rfl
  | succ k => rw [spansR', if_pos rfl]
theorem ok_at {b : Bx} (h : b.ok) (k : Int) : (b.at k).ok := by
  obtain ⟨h1, h2, h3, h4, h5⟩ := h
  unfold Bx.at
  repeat' split
  all_goals assumption
theorem spans_back {b : Bx} {d : Nat} (h1 : 1 ≤ d) (h4 : d ≤ 4) (hb : b.ok) (hr : restNil d b) {z : Txt} :
    spansR' 4 0 Bx.nil (befB (spansT b d 0 (kBudget ++ 32 :: z))) (aftB (spansT b d 0 (kBudget ++ 32 :: z))) = (b, d, z) := by
  have hp := fun k : Int => plain_span (b.at k)
  have ho := ok_at hb
  obtain ⟨r1, r2, r3, r4⟩ := hr
  obtain ⟨⟨a1, a2⟩, ⟨b1, b2⟩, ⟨c1, c2⟩, ⟨d1, d2⟩, ⟨e1, e2⟩⟩ := b
  have hk : plainB kBudget = true := by decide
  unfold Sp.isNil at r1 r2 r3 r4
  simp only at r1 r2 r3 r4
  have : d = 1 ∨ d = 2 ∨ d = 3 ∨ d = 4 := by omega
  rcases this with rfl | rfl | rfl | rfl
  · simp only [spansT]
    rw [befB_app _ (hp _), aftB_app _ (hp _), spansR_step _ _ _ (ho _), befB_app _ hk, aftB_app _ hk, spansR_end]
    have h1 := r1 (by omega)
    have h2 := r2 (by omega)
    have h3 := r3 (by omega)
    simp [Bx.put, Bx.at, Bx.nil, Sp.nil, h1.1, h1.2, h2.1, h2.2, h3.1, h3.2, r4.1, r4.2]
  · simp only [spansT]
    rw [befB_app _ (hp _), aftB_app _ (hp _), spansR_step _ _ _ (ho _), befB_app _ (hp _), aftB_app _ (hp _), spansR_step _ _ _ (ho _), befB_app _ hk, aftB_app _ hk, spansR_end]
    have h2 := r2 (by omega)
    have h3 := r3 (by omega)
    simp [Bx.put, Bx.at, Bx.nil, Sp.nil, h2.1, h2.2, h3.1, h3.2, r4.1, r4.2]
  · simp only [spansT]
    rw [befB_app _ (hp _), aftB_app _ (hp _), spansR_step _ _ _ (ho _), befB_app _ (hp _), aftB_app _ (hp _), spansR_step _ _ _ (ho _), befB_app _ (hp _), aftB_app _ (hp _), spansR_step _ _ _ (ho _), befB_app _ hk, aftB_app _ hk, spansR_end]
    have h3 := r3 (by omega)
    simp [Bx.put, Bx.at, Bx.nil, Sp.nil, h3.1, h3.2, r4.1, r4.2]
  · simp only [spansT]
    rw [befB_app _ (hp _), aftB_app _ (hp _), spansR_step _ _ _ (ho _), befB_app _ (hp _), aftB_app _ (hp _), spansR_step _ _ _ (ho _), befB_app _ (hp _), aftB_app _ (hp _), spansR_step _ _ _ (ho _), befB_app _ (hp _), aftB_app _ (hp _), spansR_step _ _ _ (ho _), befB_app _ hk, aftB_app _ hk, spansR_end]
    simp [Bx.put, Bx.at, Bx.nil, Sp.nil, r4.1, r4.2]
/-- the head's words, each with a blank behind it, and what follows -/
def headT (q : Qy) (z : Txt) : Txt :=
  if q.kd = 1 then kRange ++ 32 :: (dg q.cl ++ 32 :: (kFrom ++ 32 :: (printL q.lo ++ 32 :: (kTo ++ 32 :: (printL q.hi ++ 32 :: z)))))
  else if q.kd = 2 then kBest ++ 32 :: (dg q.cl ++ 32 :: z)
  else wayT q.fa ++ 32 :: (dg q.cl ++ 32 :: (kBy ++ 32 :: (dg q.f ++ 32 :: z)))
theorem join_more (x y : Txt) (r : List Txt) : Lib.join (x :: y :: r) [32] = x ++ 32 :: Lib.join (y :: r) [32] := by
  rw [Lib.join_cons, Lib.join_cons]
  simp [Lib.joinTail]
theorem join_spans (b : Bx) (x : Txt) (r : List Txt) {d : Nat} (h1 : 1 ≤ d) (h4 : d ≤ 4) : Lib.join (spansW b d ++ x :: r) [32] = spansT b d 0 (Lib.join (x :: r) [32]) := by
  have : d = 1 ∨ d = 2 ∨ d = 3 ∨ d = 4 := by omega
  rcases this with rfl | rfl | rfl | rfl <;> simp [spansW, spansT, join_more]
theorem kind_some {q : Qy} (h : kindZ q) : q.kd = 1 ∨ (q.kd ≠ 1 ∧ q.kd = 2) ∨ (q.kd ≠ 1 ∧ q.kd ≠ 2 ∧ q.kd = 3) := by
  rcases h with h | h | h
  · exact .inl h.1
  · exact .inr (.inl ⟨by omega, h.1⟩)
  · exact .inr (.inr ⟨by omega, by omega, h.1⟩)
theorem ask_text {q : Qy} {d : Nat} (h : TellsQ q d) : askT q d = headT q (kIn ++ 32 :: spansT q.rg d 0 (kBudget ++ 32 :: dg q.bu)) := by
  have h1 : 1 ≤ d := by have := h.d1; omega
  have h4 : d ≤ 4 := by have := h.d4; omega
  have e1 : Lib.join (spansW q.rg d ++ [kBudget, dg q.bu]) [32] = spansT q.rg d 0 (kBudget ++ 32 :: dg q.bu) := by
    rw [join_spans q.rg kBudget [dg q.bu] h1 h4, join_more, Lib.join_one]
  have e2 : ∀ x : Txt, Lib.join (x :: (spansW q.rg d ++ [kBudget, dg q.bu])) [32] = x ++ 32 :: spansT q.rg d 0 (kBudget ++ 32 :: dg q.bu) := fun x => by
    obtain ⟨y, r, e⟩ : ∃ y r, spansW q.rg d ++ [kBudget, dg q.bu] = y :: r := by
      cases h : spansW q.rg d ++ [kBudget, dg q.bu] with
      | nil => simp at h
      | cons y r => exact ⟨y, r, rfl⟩
    rw [e, join_more, ← e, e1]
  unfold askT wordsQ headW headT
  rcases kind_some h.kd with h | ⟨h, h'⟩ | ⟨h, h', h''⟩
  · rw [if_pos h, if_pos h]
    simp only [List.cons_append, List.nil_append]
    rw [join_more, join_more, join_more, join_more, join_more, join_more, e2]
  · rw [if_neg h, if_neg h, if_pos h', if_pos h']
    simp only [List.cons_append, List.nil_append]
    rw [join_more, join_more, e2]
  · rw [if_neg h, if_neg h, if_neg h', if_neg h', if_pos h'']
    simp only [List.cons_append, List.nil_append]
    rw [join_more, join_more, join_more, join_more, e2]
theorem kind_back {q : Qy} {d : Nat} (h : TellsQ q d) (ho : q.ok) (z : Txt) : kindA (headT q z) = (⟨q.kd, q.cl, Bx.nil, q.lo, q.hi, q.f, q.fa, 0⟩, z) := by
  have pc := plain_dg q.cl
  have pf := plain_dg q.f
  have pl := plain_printL q.lo
  have ph := plain_printL q.hi
  have k1 : plainB kRange = true := by decide
  have k2 : plainB kFrom = true := by decide
  have k3 : plainB kTo = true := by decide
  have k4 : plainB kBest = true := by decide
  have k5 : plainB kRises = true := by decide
  have k6 : plainB kFalls = true := by decide
  have k7 : plainB kBy = true := by decide
  have n1 : ¬ kBest = kRange := by decide
  have n2 : ¬ kRises = kRange := by decide
  have n3 : ¬ kFalls = kRange := by decide
  have n4 : ¬ kRises = kBest := by decide
  have n5 : ¬ kFalls = kBest := by decide
  have n6 : ¬ kFalls = kRises := by decide
  have sc := smV_dg h.cl
  have sf := smV_dg h.f
  have sl := (scan_print q.lo ho.lo.1 ho.lo.2).1
  have sh := (scan_print q.hi ho.hi.1 ho.hi.2).1
  have hk := h.kd
  clear h ho
  obtain ⟨kd, cl, rg, lo, hi, f, fa, bu⟩ := q
  unfold kindZ at hk
  simp only at hk pc pf pl ph sc sf sl sh
  rcases hk with ⟨rfl, rfl, rfl⟩ | ⟨rfl, rfl, rfl, rfl, rfl⟩ | ⟨rfl, rfl, rfl⟩
  · unfold headT kindA
    simp only [if_true]
    simp only [befB_app _ k1, aftB_app _ k1, befB_app _ pc, aftB_app _ pc, aftB_app _ k2, befB_app _ pl, aftB_app _ pl, aftB_app _ k3, befB_app _ ph, aftB_app _ ph, if_true, sc, sl, sh]
  · unfold headT kindA
    simp only [if_true, if_neg (show ¬ (2 : Int) = 1 by decide)]
    simp only [befB_app _ k4, aftB_app _ k4, befB_app _ pc, aftB_app _ pc, if_true, if_neg n1, sc]
  · cases fa
    · unfold headT kindA wayT
      simp only [if_neg (show ¬ (3 : Int) = 1 by decide), if_neg (show ¬ (3 : Int) = 2 by decide), Bool.false_eq_true, if_false]
      simp only [befB_app _ k5, aftB_app _ k5, befB_app _ pc, aftB_app _ pc, aftB_app _ k7, befB_app _ pf, aftB_app _ pf, if_true, if_neg n2, if_neg n4, sc, sf]
    · unfold headT kindA wayT
      simp only [if_true, if_neg (show ¬ (3 : Int) = 1 by decide), if_neg (show ¬ (3 : Int) = 2 by decide)]
      simp only [befB_app _ k6, aftB_app _ k6, befB_app _ pc, aftB_app _ pc, aftB_app _ k7, befB_app _ pf, aftB_app _ pf, if_true, if_neg n3, if_neg n5, if_neg n6, sc, sf]
theorem read_back {q : Qy} {d : Nat} (h : TellsQ q d) (ho : q.ok) : readQ (askT q d) = (q, d) := by
  have h1 : 1 ≤ d := by have := h.d1; omega
  have h4 : d ≤ 4 := by have := h.d4; omega
  have ki : plainB kIn = true := by decide
  unfold readQ
  rw [ask_text h, kind_back h ho]
  simp only
  rw [aftB_app _ ki, spans_back h1 h4 ho.rg h.rg]
  simp only
  rw [befB_all (plain_dg _), smV_dg h.bu]
theorem ask_ne {q : Qy} {d : Nat} (h : TellsQ q d) : askT q d ≠ [] := by
  rw [ask_text h]
  unfold headT
  repeat' split
  · exact fun e => by cases e
  · exact fun e => by cases e
  · cases q.fa <;> exact fun e => by cases e
theorem printQ_yes {q : Qy} {d : Int} (h : TellsQ q d) : printQ q d = askT q d.toNat := if_pos h
theorem printQ_no {q : Qy} {d : Int} (h : ¬ TellsQ q d) : printQ q d = [] := if_neg h
theorem printQ_ne {q : Qy} {d : Int} : printQ q d ≠ [] ↔ TellsQ q d := by
  by_cases h : TellsQ q d
  · rw [printQ_yes h]
    obtain ⟨k, rfl⟩ := Int.eq_ofNat_of_zero_le (show 0 ≤ d by have := h.d1; omega)
    exact ⟨fun _ => h, fun _ => ask_ne h⟩
  · rw [printQ_no h]
    exact ⟨fun h => absurd rfl h, fun h' => absurd h' h⟩
theorem print_back {q : Qy} {d : Int} (h : TellsQ q d) (ho : q.ok) : ((readQ (printQ q d)).1 = q) ∧ ((readQ (printQ q d)).2 : Int) = d := by
  rw [printQ_yes h]
  obtain ⟨k, rfl⟩ := Int.eq_ofNat_of_zero_le (show 0 ≤ d by have := h.d1; omega)
  rw [show ((k : Int)).toNat = k by omega, read_back h ho]
  exact ⟨rfl, rfl⟩
theorem printQ_inj {q r : Qy} {d e : Int} (h : TellsQ q d) (ho : q.ok) (hr : r.ok) (he : printQ q d = printQ r e) : q = r ∧ d = e := by
  have h' : TellsQ r e := printQ_ne.1 (he ▸ printQ_ne.2 h)
  have a := print_back h ho
  have b := print_back h' hr
  rw [he] at a
  exact ⟨a.1.symm.trans b.1, a.2.symm.trans b.2⟩
/-! what is read fits -/
theorem smV_bd (l : Txt) : I64 (smV l) := by
  have := scanN_bd l
  unfold smV I64
  omega
theorem scan_bd (l : Txt) : I64 (scanN l) := scanN_bd l
theorem span_ok (l : Txt) : (spanV' l).ok := ⟨scan_bd _, scan_bd _⟩
theorem i64_0 : I64 0 := by unfold I64; omega
theorem nil_ok : Bx.nil.ok := ⟨⟨i64_0, i64_0⟩, ⟨i64_0, i64_0⟩, ⟨i64_0, i64_0⟩, ⟨i64_0, i64_0⟩, ⟨i64_0, i64_0⟩⟩
theorem put_ok {b : Bx} (h : b.ok) (k : Int) {s : Sp} (hs : s.ok) : (b.put k s).ok := by
  obtain ⟨h1, h2, h3, h4, h5⟩ := h
  unfold Bx.put
  repeat' split
  all_goals refine ⟨?_, ?_, ?_, ?_, ?_⟩ <;> assumption
theorem spansR_ok : ∀ (k d : Nat) (b : Bx) (w r : Txt), b.ok → (spansR' k d b w r).1.ok ∧ (spansR' k d b w r).2.1 ≤ d + k
  | 0, d, b, _, r, h => ⟨h, Nat.le_refl _⟩
  | k + 1, d, b, w, r, h => by
    rw [spansR']
    split
    · exact ⟨h, by simp only; omega⟩
    · have := spansR_ok k (d + 1) (b.put (d : Int) (spanV' w)) (befB r) (aftB r) (put_ok h _ (span_ok w))
      exact ⟨this.1, by have := this.2; omega⟩
theorem kindA_len (l : Txt) : (kindA l).2.length ≤ l.length := by
  have h1 := aftB_len l
  have h2 := aftB_len (aftB l)
  have h3 := aftB_len (aftB (aftB l))
  have h4 := aftB_len (aftB (aftB (aftB l)))
  have h5 := aftB_len (aftB (aftB (aftB (aftB l))))
  have h6 := aftB_len (aftB (aftB (aftB (aftB (aftB l)))))
  unfold kindA
  repeat' split
  all_goals (simp only; omega)
theorem kindA_rg (l : Txt) : (kindA l).1.rg = Bx.nil ∧ (kindA l).1.bu = 0 := by
  unfold kindA
  repeat' split
  all_goals exact ⟨rfl, rfl⟩
theorem spansR_len : ∀ (k d : Nat) (b : Bx) (w r : Txt), r.length ≤ 2000000 → (spansR' k d b w r).2.2.length ≤ 2000000
  | 0, _, _, _, _, h => h
  | k + 1, d, b, w, r, h => by
    rw [spansR']
    split
    · exact h
    · exact spansR_len k (d + 1) _ (befB r) (aftB r) (by have := aftB_len r; omega)
theorem fitI_of {x : Int} (h : I64 x) : FitI x := ⟨h.1, h.2⟩
theorem read_ok (l : Txt) : (readQ l).1.ok ∧ (readQ l).2 ≤ 4 := by
  have hs := spansR_ok 4 0 Bx.nil (befB (aftB (kindA l).2)) (aftB (aftB (kindA l).2)) nil_ok
  have f0 : FitI 0 := fitI_of i64_0
  have hk : FitI (kindA l).1.kd ∧ FitI (kindA l).1.cl ∧ FitI (kindA l).1.lo ∧ FitI (kindA l).1.hi ∧ FitI (kindA l).1.f := by
    unfold kindA
    repeat' split
    all_goals refine ⟨?_, fitI_of (smV_bd _), ?_, ?_, ?_⟩ <;> first | exact fitI_of (scan_bd _) | exact fitI_of (smV_bd _) | exact f0 | exact ⟨by simp only; omega, by simp only; omega⟩
  unfold readQ
  refine ⟨⟨hk.1, hk.2.1, hs.1, hk.2.2.1, hk.2.2.2.1, hk.2.2.2.2, fitI_of (smV_bd _)⟩, ?_⟩
  have := hs.2
  simp only
  omega
def Qy.nil : Qy := ⟨0, 0, Bx.nil, 0, 0, 0, false, 0⟩
/-- what is parsed of a text -/
def ParseQ (s : Txt) (q : Qy) (d : Int) (ok : Bool) : Prop := (ok = true → TellsQ q d ∧ printQ q d = s ∧ s ≠ []) ∧ (ok = false → q = Qy.nil ∧ d = 0 ∧ ∀ q' d', q'.ok → TellsQ q' d' → printQ q' d' ≠ s)
theorem parseQ_yes {s : Txt} (h0 : s ≠ []) (h : printQ (readQ s).1 (readQ s).2 = s) : ParseQ s (readQ s).1 (readQ s).2 true :=
  ⟨fun _ => ⟨printQ_ne.1 (h.symm ▸ h0), h, h0⟩, nofun⟩
theorem parseQ_no {s : Txt} (h : s = [] ∨ printQ (readQ s).1 (readQ s).2 ≠ s) : ParseQ s Qy.nil 0 false := by
  refine ⟨nofun, fun _ => ⟨rfl, rfl, fun q' d' ho ht he => ?_⟩⟩
  have hb := print_back ht ho
  rw [he] at hb
  rcases h with h | h
  · exact (printQ_ne.2 ht) (he.trans h)
  · rw [hb.1, hb.2] at h
    exact h he
theorem ParseQ.of {s : Txt} {q q' : Qy} {d d' : Int} {ok : Bool} (h : ParseQ s q d ok) (hs : printQ q' d' = s) (ht : TellsQ q' d') (ho : q'.ok) (hq : q.ok) : ok = true ∧ q = q' ∧ d = d' := by
  cases ok with
  | false => exact absurd hs ((h.2 rfl).2.2 q' d' ho ht)
  | true =>
    obtain ⟨h1, h2, _⟩ := h.1 rfl
    obtain ⟨e1, e2⟩ := printQ_inj h1 hq ho (h2.trans hs.symm)
    exact ⟨rfl, e1, e2⟩
theorem RightQ.tells {m : Md} {q : Qy} (h : RightQ m q) : TellsQ q m.d := by
  have hm := h.mr
  have h3 := hm.k3
  have h4 := hm.d4
  have h1 := hm.d1
  obtain ⟨s1, s2, s3, s4, s5⟩ := h.sp
  refine ⟨hm.d1, hm.d4, ⟨h.c0, by have := h.c1; omega⟩, ?_, ⟨h.b0, by have := h.b1; omega⟩, ⟨fun h => s2.2 h, fun h => s3.2 h, fun h => s4.2 h, s5.2 h4⟩, ?_⟩
  · rcases h.kd with ⟨_, _, h, _⟩ | ⟨_, _, _, _, h, _⟩ | ⟨_, h, h', _⟩
    · rw [h]; exact ⟨by omega, by omega⟩
    · rw [h]; exact ⟨by omega, by omega⟩
    · exact ⟨h, by omega⟩
  · rcases h.kd with ⟨a, _, b, c⟩ | ⟨a, _, b, c, d, e⟩ | ⟨a, _, _, b, c⟩
    · exact .inl ⟨a, b, c⟩
    · exact .inr (.inl ⟨a, b, c, d, e⟩)
    · exact .inr (.inr ⟨a, b, c⟩)
end Go.Proofs.YtjpffempmlfoeaaDoor
