/- The law BoxCuts of chapter 5 answers true for every box, every point and every five ints: cuts at two places come to the same in whatever order; of four parts each point is in one. -/
import Derived.Test.YtdmkaaehpcnpfaaLawBoxRuns
import Derived.Test.YtdmkaaehpcnpfaaBoxD
import Derived.Test.YtdmkaaehpcnpfaaBoxAns
import Derived.Test.YtdmkaaehpcnpfaaMathB4
import Derived.Test.YtdmkaaehpcnpfaaWithinB
import Derived.Deep.DeepCutAuto
import Derived.Deep.LoopGhost
namespace Go.Proofs.Ytdmkaaehpcnpfaa
open Go.RowKit M

/-- four boxes in a row -/
abbrev c40 (p q r s : Bx) : Obj := .cells #[.int .i64 p.a.lo, .int .i64 p.a.hi, .int .i64 p.b.lo, .int .i64 p.b.hi, .int .i64 p.c.lo, .int .i64 p.c.hi, .int .i64 p.d.lo, .int .i64 p.d.hi, .int .i64 p.e.lo, .int .i64 p.e.hi, .int .i64 q.a.lo, .int .i64 q.a.hi, .int .i64 q.b.lo, .int .i64 q.b.hi, .int .i64 q.c.lo, .int .i64 q.c.hi, .int .i64 q.d.lo, .int .i64 q.d.hi, .int .i64 q.e.lo, .int .i64 q.e.hi, .int .i64 r.a.lo, .int .i64 r.a.hi, .int .i64 r.b.lo, .int .i64 r.b.hi, .int .i64 r.c.lo, .int .i64 r.c.hi, .int .i64 r.d.lo, .int .i64 r.d.hi, .int .i64 r.e.lo, .int .i64 r.e.hi, .int .i64 s.a.lo, .int .i64 s.a.hi, .int .i64 s.b.lo, .int .i64 s.b.hi, .int .i64 s.c.lo, .int .i64 s.c.hi, .int .i64 s.d.lo, .int .i64 s.d.hi, .int .i64 s.e.lo, .int .i64 s.e.hi] 25
theorem c40_cells {w : World} {g : Nat} {p q r s : Bx} (h : w.heap[g]? = some (c40 p q r s)) : w.cell? ⟨g, 0, none⟩ = some (.int .i64 p.a.lo) ∧ w.cell? ⟨g, 1, none⟩ = some (.int .i64 p.a.hi) ∧ w.cell? ⟨g, 2, none⟩ = some (.int .i64 p.b.lo) ∧ w.cell? ⟨g, 3, none⟩ = some (.int .i64 p.b.hi) ∧ w.cell? ⟨g, 4, none⟩ = some (.int .i64 p.c.lo) ∧ w.cell? ⟨g, 5, none⟩ = some (.int .i64 p.c.hi) ∧ w.cell? ⟨g, 6, none⟩ = some (.int .i64 p.d.lo) ∧ w.cell? ⟨g, 7, none⟩ = some (.int .i64 p.d.hi) ∧ w.cell? ⟨g, 8, none⟩ = some (.int .i64 p.e.lo) ∧ w.cell? ⟨g, 9, none⟩ = some (.int .i64 p.e.hi) ∧ w.cell? ⟨g, 10, none⟩ = some (.int .i64 q.a.lo) ∧ w.cell? ⟨g, 11, none⟩ = some (.int .i64 q.a.hi) ∧ w.cell? ⟨g, 12, none⟩ = some (.int .i64 q.b.lo) ∧ w.cell? ⟨g, 13, none⟩ = some (.int .i64 q.b.hi) ∧ w.cell? ⟨g, 14, none⟩ = some (.int .i64 q.c.lo) ∧ w.cell? ⟨g, 15, none⟩ = some (.int .i64 q.c.hi) ∧ w.cell? ⟨g, 16, none⟩ = some (.int .i64 q.d.lo) ∧ w.cell? ⟨g, 17, none⟩ = some (.int .i64 q.d.hi) ∧ w.cell? ⟨g, 18, none⟩ = some (.int .i64 q.e.lo) ∧ w.cell? ⟨g, 19, none⟩ = some (.int .i64 q.e.hi) ∧ w.cell? ⟨g, 20, none⟩ = some (.int .i64 r.a.lo) ∧ w.cell? ⟨g, 21, none⟩ = some (.int .i64 r.a.hi) ∧ w.cell? ⟨g, 22, none⟩ = some (.int .i64 r.b.lo) ∧ w.cell? ⟨g, 23, none⟩ = some (.int .i64 r.b.hi) ∧ w.cell? ⟨g, 24, none⟩ = some (.int .i64 r.c.lo) ∧ w.cell? ⟨g, 25, none⟩ = some (.int .i64 r.c.hi) ∧ w.cell? ⟨g, 26, none⟩ = some (.int .i64 r.d.lo) ∧ w.cell? ⟨g, 27, none⟩ = some (.int .i64 r.d.hi) ∧ w.cell? ⟨g, 28, none⟩ = some (.int .i64 r.e.lo) ∧ w.cell? ⟨g, 29, none⟩ = some (.int .i64 r.e.hi) ∧ w.cell? ⟨g, 30, none⟩ = some (.int .i64 s.a.lo) ∧ w.cell? ⟨g, 31, none⟩ = some (.int .i64 s.a.hi) ∧ w.cell? ⟨g, 32, none⟩ = some (.int .i64 s.b.lo) ∧ w.cell? ⟨g, 33, none⟩ = some (.int .i64 s.b.hi) ∧ w.cell? ⟨g, 34, none⟩ = some (.int .i64 s.c.lo) ∧ w.cell? ⟨g, 35, none⟩ = some (.int .i64 s.c.hi) ∧ w.cell? ⟨g, 36, none⟩ = some (.int .i64 s.d.lo) ∧ w.cell? ⟨g, 37, none⟩ = some (.int .i64 s.d.hi) ∧ w.cell? ⟨g, 38, none⟩ = some (.int .i64 s.e.lo) ∧ w.cell? ⟨g, 39, none⟩ = some (.int .i64 s.e.hi) := by
  simp [World.cell?, h]
theorem pt_cells {w : World} {g : Nat} {p : Pt} (h : w.heap[g]? = some (ptO p)) : w.cell? ⟨g, 0, none⟩ = some (.int .i64 p.a) ∧ w.cell? ⟨g, 1, none⟩ = some (.int .i64 p.b) ∧ w.cell? ⟨g, 2, none⟩ = some (.int .i64 p.c) ∧ w.cell? ⟨g, 3, none⟩ = some (.int .i64 p.d) := by
  simp [World.cell?, h]
theorem heap_at {w : World} {o : Obj} {g : Nat} (h : w.heap.size = g) : (w.alloc o).heap[g]? = some o := h ▸ heap_new w o
theorem lt_more {n m : Nat} (h : n < m) : n < m ∧ (∀ a : Nat, n < m + a) ∧ (∀ a b : Nat, n < m + a + b) ∧ (∀ a b c : Nat, n < m + a + b + c) ∧ (∀ a b c d : Nat, n < m + a + b + c + d) := by
  refine ⟨h, ?_, ?_, ?_, ?_⟩ <;> (intros; omega)
theorem heap_lt {w : World} {o : Obj} {g : Nat} (h : w.heap[g]? = some o) : g < w.heap.size := (Array.getElem?_eq_some_iff.1 h).1
/-- how many of the first j are true -/
def bi (b : Bool) : Int := if b then 1 else 0
def tally (h1 h2 h3 h4 : Bool) : Nat → Int
  | 0 => 0
  | 1 => bi h1
  | 2 => bi h1 + bi h2
  | 3 => bi h1 + bi h2 + bi h3
  | _ => bi h1 + bi h2 + bi h3 + bi h4
theorem tally_bd (h1 h2 h3 h4 : Bool) (j : Nat) : 0 ≤ tally h1 h2 h3 h4 j ∧ tally h1 h2 h3 h4 j ≤ 4 := by
  unfold tally
  cases h1 <;> cases h2 <;> cases h3 <;> cases h4 <;> split <;> simp [bi]

set_option maxRecDepth 100000 in
set_option maxHeartbeats 4000000 in
theorem cuts_core (b x y xl xh yl yh u v ul uh vl vh : Bx) (p : Pt) (i j s t tw a c : Int) (I h1 h2 h3 h4 : Bool) (w : World)
    (hi : Hid (AnsP 12 #[.int .i64 i, .int .i64 0, .int .i64 4] (.int .i64 a)))
    (hj : Hid (AnsP 12 #[.int .i64 j, .int .i64 0, .int .i64 4] (.int .i64 c)))
    (c1 : Hid (Ans 10 #[boxV b, .int .i64 a, .int .i64 s] (.tuple #[boxV x, boxV y])))
    (c2 : Hid (Ans 10 #[boxV x, .int .i64 c, .int .i64 t] (.tuple #[boxV xl, boxV xh])))
    (c3 : Hid (Ans 10 #[boxV y, .int .i64 c, .int .i64 t] (.tuple #[boxV yl, boxV yh])))
    (c4 : Hid (Ans 10 #[boxV b, .int .i64 c, .int .i64 t] (.tuple #[boxV u, boxV v])))
    (c5 : Hid (Ans 10 #[boxV u, .int .i64 a, .int .i64 s] (.tuple #[boxV ul, boxV uh])))
    (c6 : Hid (Ans 10 #[boxV v, .int .i64 a, .int .i64 s] (.tuple #[boxV vl, boxV vh])))
    (hac : Hid (a = c ∨ a ≠ c ∧ ul = xl ∧ vl = xh ∧ uh = yl ∧ vh = yh))
    (k0 : Hid (Ans 13 #[boxV b, ptV p, .int .i64 tw] (.bool I)))
    (k1 : Hid (Ans 13 #[boxV xl, ptV p, .int .i64 tw] (.bool h1)))
    (k2 : Hid (Ans 13 #[boxV xh, ptV p, .int .i64 tw] (.bool h2)))
    (k3 : Hid (Ans 13 #[boxV yl, ptV p, .int .i64 tw] (.bool h3)))
    (k4 : Hid (Ans 13 #[boxV yh, ptV p, .int .i64 tw] (.bool h4)))
    (hh : Hid ((I = false ∧ h1 = false ∧ h2 = false ∧ h3 = false ∧ h4 = false) ∨ (I = true ∧ h1 = true ∧ h2 = false ∧ h3 = false ∧ h4 = false) ∨ (I = true ∧ h1 = false ∧ h2 = true ∧ h3 = false ∧ h4 = false) ∨
    (I = true ∧ h1 = false ∧ h2 = false ∧ h3 = true ∧ h4 = false) ∨ (I = true ∧ h1 = false ∧ h2 = false ∧ h3 = false ∧ h4 = true))) :
    Calls Try.prog 8 #[boxV b, .int .i64 i, .int .i64 j, .int .i64 s, .int .i64 t, ptV p, .int .i64 tw] w fun e w' => e = .returned (.bool true) ∧ Jk w w' := by
  have J := rules40
  go_enter Try.func8, Try.ntmps8
  go_upto_region 3 with (first | (go_at_call 12; refine (AnsP.on (by with_reducible first | exact hi.out | exact hj.out) _).mono ?_; rintro e w1 ⟨rfl, rfl⟩) | (go_at_call 10; refine (c1.out.on _).mono ?_; rintro e w1 ⟨rfl, X1, rfl⟩))
  go_upto_region 4 with (first | (go_at_call 10; refine (c2.out.on _).mono ?_; rintro e w1 ⟨rfl, X2, rfl⟩))
  go_upto_region 5 with (first | (go_at_call 10; refine (c3.out.on _).mono ?_; rintro e w1 ⟨rfl, X3, rfl⟩))
  go_upto_region 6 with (first | (go_at_call 10; refine (c4.out.on _).mono ?_; rintro e w1 ⟨rfl, X4, rfl⟩))
  go_upto_region 7 with (first | (go_at_call 10; refine (c5.out.on _).mono ?_; rintro e w1 ⟨rfl, X5, rfl⟩))
  go_upto_region 8 with (first | (go_at_call 10; refine (c6.out.on _).mono ?_; rintro e w1 ⟨rfl, X6, rfl⟩))
  go_cut [100] (fun o wc => o = .bool false ∧ wc = ((junk (((junk (((junk (((junk (((junk (((junk ((w.alloc (boxC b)).alloc (ptO p)) X1).alloc (boxC x)).alloc (boxC y)) X2).alloc (boxC xl)).alloc (boxC xh)) X3).alloc (boxC yl)).alloc (boxC yh)) X4).alloc (boxC u)).alloc (boxC v)) X5).alloc (boxC ul)).alloc (boxC uh)) X6).alloc (boxC vl)).alloc (boxC vh))
  case first =>
    clear hi hj c1 c2 c3 c4 c5 c6 k0 k1 k2 k3 k4 hh
    rcases hac.out with rfl | ⟨hne, rfl, rfl, rfl, rfl⟩
    · clear hac
      go_wp2
      go_meet
      case rel => exact ⟨rfl, rfl⟩
    · clear hac
      have hb : (a == c) = false := by simpa using hne
      have E1 : ∀ w : World, (Op.equalIn 10000 25 (boxV ul) (boxV ul)).run Try.prog w = .ok true w := fun w => by rw [eq_box, Bx.eqB_self]
      have E2 : ∀ w : World, (Op.equalIn 10000 25 (boxV vl) (boxV vl)).run Try.prog w = .ok true w := fun w => by rw [eq_box, Bx.eqB_self]
      have E3 : ∀ w : World, (Op.equalIn 10000 25 (boxV uh) (boxV uh)).run Try.prog w = .ok true w := fun w => by rw [eq_box, Bx.eqB_self]
      have E4 : ∀ w : World, (Op.equalIn 10000 25 (boxV vh) (boxV vh)).run Try.prog w = .ok true w := fun w => by rw [eq_box, Bx.eqB_self]
      go_wp2
      go_meet
      case rel => exact ⟨rfl, rfl⟩
  case rest =>
    obtain ⟨rfl, rfl⟩ := hcut
    clear hi hj c1 c2 c3 c4 c5 c6 hac
    go_upto_region 11 with fail
    go_cut [105, 106, 107] (fun o n i wc => ∃ g, o = .slice (some ⟨g, 0, none⟩) 4 4 ∧ n = .int .i64 4 ∧ i = .int .i64 0 ∧ wc.heap[g]? = some (c40 xl xh yl yh) ∧ wc.heap[w.heap.size]? = some (boxC b) ∧ wc.heap[w.heap.size + 1]? = some (ptO p) ∧ Jk w wc)
    case first =>
      go_wp2_with fail
      go_meet
      case rel =>
        refine ⟨_, rfl, rfl, rfl, heap_at (by simp only [junk_size, World.size_alloc]), ?_, ?_, ?_⟩
        · refine (Jk.heap (a := w.alloc (boxC b)) ?_ (by simp)).trans (heap_new _ _)
          repeat (with_reducible first | exact Jk.refl _ | apply Jk.junk | apply Jk.alloc)
        · refine (Jk.heap (a := (w.alloc (boxC b)).alloc (ptO p)) ?_ (by simp)).trans (heap_at (by simp))
          repeat (with_reducible first | exact Jk.refl _ | apply Jk.junk | apply Jk.alloc)
        · repeat (with_reducible first | exact Jk.refl _ | apply Jk.junk | apply Jk.alloc)
    case rest =>
      obtain ⟨g, rfl, rfl, rfl, hg, hb, hp, hj⟩ := hcut
      clear J
      have J := rules8
      have l1 := lt_more (heap_lt hg)
      have l2 := lt_more (heap_lt hb)
      have l3 := lt_more (heap_lt hp)
      have HJ : Hid (Jk w wc) := hj
      have cg := c40_cells hg
      have cb := box_cells hb
      have cp := pt_cells hp
      clear hg hb hp hj
      go_wp2_with fail
      go_loopg [29, 107] 4 (fun k v i wr => ∃ j : Nat, j + k = 4 ∧ i = .int .i64 (j : Int) ∧ v = .int .i64 (tally h1 h2 h3 h4 j) ∧ ∃ X, wr = junk wc X)
      case atStart => exact ⟨0, by omega, rfl, rfl, Jk.refl _⟩
      case round =>
        obtain ⟨j, hj, rfl, rfl, X3, rfl⟩ := hrel
        have hc5 : j = 0 ∨ j = 1 ∨ j = 2 ∨ j = 3 ∨ j = 4 := by omega
        rcases hc5 with rfl | rfl | rfl | rfl | rfl
        · obtain ⟨t1, t2⟩ := tally_bd h1 h2 h3 h4 0
          have hS : Hid (tally h1 h2 h3 h4 1 = tally h1 h2 h3 h4 0 + bi h1) := by exact (show tally h1 h2 h3 h4 1 = tally h1 h2 h3 h4 0 + bi h1 by simp [tally])
          generalize tally h1 h2 h3 h4 0 = T at t1 t2 hS
          cases h1
          · go_wp2_with (first | (go_at_call 13; refine (k1.out.on _).mono ?_; rintro e w1 ⟨rfl, X7, rfl⟩))
            go_roundg (gk - 1)
            case measure => omega
            case rel => exact ⟨1, by omega, by go_num, by rw [hS.out]; simp [bi], (show Jk wc _ by repeat (with_reducible first | exact Jk.refl _ | apply Jk.junk | apply Jk.alloc))⟩
          · go_wp2_with (first | (go_at_call 13; refine (k1.out.on _).mono ?_; rintro e w1 ⟨rfl, X7, rfl⟩))
            go_roundg (gk - 1)
            case measure => omega
            case rel => exact ⟨1, by omega, by go_num, by rw [hS.out]; simp [bi], (show Jk wc _ by repeat (with_reducible first | exact Jk.refl _ | apply Jk.junk | apply Jk.alloc))⟩
        · obtain ⟨t1, t2⟩ := tally_bd h1 h2 h3 h4 1
          have hS : Hid (tally h1 h2 h3 h4 2 = tally h1 h2 h3 h4 1 + bi h2) := by unfold tally; rfl
          generalize tally h1 h2 h3 h4 1 = T at t1 t2 hS
          cases h2
          · go_wp2_with (first | (go_at_call 13; refine (k2.out.on _).mono ?_; rintro e w1 ⟨rfl, X7, rfl⟩))
            go_roundg (gk - 1)
            case measure => omega
            case rel => exact ⟨2, by omega, by go_num, by rw [hS.out]; simp [bi], (show Jk wc _ by repeat (with_reducible first | exact Jk.refl _ | apply Jk.junk | apply Jk.alloc))⟩
          · go_wp2_with (first | (go_at_call 13; refine (k2.out.on _).mono ?_; rintro e w1 ⟨rfl, X7, rfl⟩))
            go_roundg (gk - 1)
            case measure => omega
            case rel => exact ⟨2, by omega, by go_num, by rw [hS.out]; simp [bi], (show Jk wc _ by repeat (with_reducible first | exact Jk.refl _ | apply Jk.junk | apply Jk.alloc))⟩
        · obtain ⟨t1, t2⟩ := tally_bd h1 h2 h3 h4 2
          have hS : Hid (tally h1 h2 h3 h4 3 = tally h1 h2 h3 h4 2 + bi h3) := by unfold tally; rfl
          generalize tally h1 h2 h3 h4 2 = T at t1 t2 hS
          cases h3
          · go_wp2_with (first | (go_at_call 13; refine (k3.out.on _).mono ?_; rintro e w1 ⟨rfl, X7, rfl⟩))
            go_roundg (gk - 1)
            case measure => omega
            case rel => exact ⟨3, by omega, by go_num, by rw [hS.out]; simp [bi], (show Jk wc _ by repeat (with_reducible first | exact Jk.refl _ | apply Jk.junk | apply Jk.alloc))⟩
          · go_wp2_with (first | (go_at_call 13; refine (k3.out.on _).mono ?_; rintro e w1 ⟨rfl, X7, rfl⟩))
            go_roundg (gk - 1)
            case measure => omega
            case rel => exact ⟨3, by omega, by go_num, by rw [hS.out]; simp [bi], (show Jk wc _ by repeat (with_reducible first | exact Jk.refl _ | apply Jk.junk | apply Jk.alloc))⟩
        · obtain ⟨t1, t2⟩ := tally_bd h1 h2 h3 h4 3
          have hS : Hid (tally h1 h2 h3 h4 4 = tally h1 h2 h3 h4 3 + bi h4) := by unfold tally; rfl
          generalize tally h1 h2 h3 h4 3 = T at t1 t2 hS
          cases h4
          · go_wp2_with (first | (go_at_call 13; refine (k4.out.on _).mono ?_; rintro e w1 ⟨rfl, X7, rfl⟩))
            go_roundg (gk - 1)
            case measure => omega
            case rel => exact ⟨4, by omega, by go_num, by rw [hS.out]; simp [bi], (show Jk wc _ by repeat (with_reducible first | exact Jk.refl _ | apply Jk.junk | apply Jk.alloc))⟩
          · go_wp2_with (first | (go_at_call 13; refine (k4.out.on _).mono ?_; rintro e w1 ⟨rfl, X7, rfl⟩))
            go_roundg (gk - 1)
            case measure => omega
            case rel => exact ⟨4, by omega, by go_num, by rw [hS.out]; simp [bi], (show Jk wc _ by repeat (with_reducible first | exact Jk.refl _ | apply Jk.junk | apply Jk.alloc))⟩
        · have hT : (I = true ∧ tally h1 h2 h3 h4 4 = 1) ∨ (I = false ∧ tally h1 h2 h3 h4 4 = 0) := by
            rcases hh.out with ⟨rfl, rfl, rfl, rfl, rfl⟩ | ⟨rfl, rfl, rfl, rfl, rfl⟩ | ⟨rfl, rfl, rfl, rfl, rfl⟩ | ⟨rfl, rfl, rfl, rfl, rfl⟩ | ⟨rfl, rfl, rfl, rfl, rfl⟩ <;> simp [tally, bi]
          clear hh k1 k2 k3 k4
          generalize tally h1 h2 h3 h4 4 = T at hT
          rcases hT with ⟨rfl, rfl⟩ | ⟨rfl, rfl⟩
          all_goals
            go_wp2_with (first | (go_at_call 13; refine (k0.out.on _).mono ?_; rintro e w1 ⟨rfl, X7, rfl⟩) | (go_at_call 3; refine (boxRuns_any _).mono ?_; rintro e w1 ⟨rfl, X, rfl⟩))
            go_ret
            exact ⟨rfl, HJ.out.trans (by repeat (with_reducible first | exact Jk.refl _ | apply Jk.junk | apply Jk.alloc))⟩

theorem boxCuts_walk (b : Bx) (i j s t : Int) (p : Pt) (tw : Int) (hb : b.ok) (w1 : (Lit.int .i64 i).wf = true) (w2 : (Lit.int .i64 j).wf = true) (w3 : (Lit.int .i64 s).wf = true) (w4 : (Lit.int .i64 t).wf = true) (_hp : p.ok) (_w6 : (Lit.int .i64 tw).wf = true) (w : World) :
    Calls Try.prog 8 #[boxV b, .int .i64 i, .int .i64 j, .int .i64 s, .int .i64 t, ptV p, .int .i64 tw] w fun e w' => e = .returned (.bool true) ∧ Jk w w' := by
  obtain ⟨i1, i2⟩ := bdi w1
  obtain ⟨j1, j2⟩ := bdi w2
  have hs := bdi w3
  have ht := bdi w4
  obtain ⟨a0, a4⟩ := within_bd i 0 4 (by decide)
  obtain ⟨c0, c4⟩ := within_bd j 0 4 (by decide)
  generalize ha : withinI i 0 4 = a at a0 a4
  generalize hc : withinI j 0 4 = c at c0 c4
  refine cuts_core b (b.low a s) (b.upp a s) ((b.low a s).low c t) ((b.low a s).upp c t) ((b.upp a s).low c t) ((b.upp a s).upp c t) (b.low c t) (b.upp c t) ((b.low c t).low a s) ((b.low c t).upp a s) ((b.upp c t).low a s) ((b.upp c t).upp a s) p i j s t tw a c (b.has p tw) _ _ _ _ w
    (fun w => ha ▸ within_any i 0 4 w i1 i2 (by decide) (by decide) (by decide))
    (fun w => hc ▸ within_any j 0 4 w j1 j2 (by decide) (by decide) (by decide))
    (fun w => bcut_any b a s w hb hs.1 hs.2)
    (fun w => bcut_any _ c t w (Bx.low_ok hb hs) ht.1 ht.2)
    (fun w => bcut_any _ c t w (Bx.upp_ok hb hs) ht.1 ht.2)
    (fun w => bcut_any b c t w hb ht.1 ht.2)
    (fun w => bcut_any _ a s w (Bx.low_ok hb ht) hs.1 hs.2)
    (fun w => bcut_any _ a s w (Bx.upp_ok hb ht) hs.1 hs.2)
    ?_ (a_has rfl) (a_has rfl) (a_has rfl) (a_has rfl) (a_has rfl)
    (Bx.four b p tw a c s t a0 a4 c0 c4 _ _ _ _ _ rfl rfl rfl rfl rfl)
  by_cases h : a = c
  · exact Or.inl h
  · obtain ⟨e1, e2, e3, e4⟩ := Bx.cut_cut b a c s t a0 a4 c0 c4 h
    exact Or.inr ⟨h, e1, e2, e3, e4⟩

end Go.Proofs.Ytdmkaaehpcnpfaa
