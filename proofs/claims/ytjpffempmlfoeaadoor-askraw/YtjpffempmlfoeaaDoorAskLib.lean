/- What '==' answers of two queries: are all their numbers the same? No conditions.
   The functions that package ask calls beyond its own package answer as its texts ask ('LibA', 'lib_a'); a number, a small one and a span out of a word; are the numbers of a query small. Conditions: what the statement itself says of the library's variables ('Env'). -/
import Derived.Test.YtjpffempmlfoeaaDoorQueryM
import Derived.Test.YtjpffempmlfoeaaDoorBoxV
import Derived.Test.YtjpffempmlfoeaaDoorDec3
import Derived.Test.YtjpffempmlfoeaaDoorRowsX
import Derived.Test.YtjpffempmlfoeaaDoorMathQ
import Derived.Test.YtjpffempmlfoeaaDoorQueryB
import Derived.Lib.AppendIntMem
namespace Go.Proofs.YtjpffempmlfoeaaDoor
open Go.RowKit M

theorem eq_boxN (n : Nat) (x y : Bx) (w : World) : (Op.equalIn (n + 3) 25 (boxV x) (boxV y)).run Tryd.prog w = .ok (x.eqB y) w := by
  obtain ⟨i, hi⟩ := spanInfo
  have hr : List.range 5 = [0, 1, 2, 3, 4] := rfl
  have e1 := fun (s t : Sp) (w : World) => eq_span n s t w
  rw [run_equalIn_array w (n + 2) _ _ Tryd.underlying25 hi, spanCells, hr]
  simp only [Op.eqItems, Sem.run_bind, Nat.zero_mul, Nat.one_mul, show 2 * 2 = 4 from rfl, show 3 * 2 = 6 from rfl, show 4 * 2 = 8 from rfl, pt0, pt1, pt2, pt3, pt4, Result.andThen_ok, e1, Sem.run_ite, Bx.eqB]
  cases x.a.eqB y.a
  · simp
  cases x.b.eqB y.b
  · simp
  cases x.c.eqB y.c
  · simp
  cases x.d.eqB y.d
  · simp
  cases x.e.eqB y.e <;> simp
theorem eqFields_cons {P : Program} {dd : Nat} {xs ys : Array Value} {f : Field} {fs : List Field} {w : World} {a b : Value} {r R : Bool} (hn : f.name ≠ "_") (p1 : (part f.type xs f.offset).run P w = .ok a w) (p2 : (part f.type ys f.offset).run P w = .ok b w)
    (p3 : (Op.equalIn dd f.type a b).run P w = .ok r w) (h : (Op.eqFields dd xs ys fs).run P w = .ok R w) : (Op.eqFields dd xs ys (f :: fs)).run P w = .ok (r && R) w := by
  simp only [Op.eqFields, hn, ne_eq, not_false_eq_true, if_true, Sem.run_bind, p1, p2, p3, Result.andThen_ok]
  cases r
  · simp
  · simpa using h
theorem eq_boolN (n : Nat) (a b : Bool) (w : World) : (Op.equalIn (n + 1) 4 (.bool a) (.bool b)).run Tryd.prog w = .ok (a == b) w := by
  simp [Op.equalIn, run_underlying Tryd.underlying4]
def Qy.eqB (a b : Qy) : Bool := (a.kd == b.kd) && ((a.cl == b.cl) && ((a.rg.eqB b.rg) && ((a.lo == b.lo) && ((a.hi == b.hi) && ((a.f == b.f) && ((a.fa == b.fa) && ((a.bu == b.bu) && true)))))))
theorem Qy.eqB_iff {a b : Qy} : a.eqB b = true ↔ a = b := by
  cases a; cases b
  simp [Qy.eqB, Bx.eqB_iff]
set_option maxRecDepth 100000 in
theorem eq_queryB (a b : Qy) (w : World) : (Op.equalIn 10000 27 (queryV a) (queryV b)).run Tryd.prog w = .ok (a.eqB b) w := by
  have hf : (Tryd.prog.fieldsOf 27).toList.map (fun f => (f.name, f.type, f.offset)) = [("Kind", 3, 0), ("Class", 3, 1), ("Region", 25, 2), ("Lo", 3, 12), ("Hi", 3, 13), ("Feature", 3, 14), ("Falls", 4, 15), ("Budget", 3, 16)] := by kernel_rfl
  rw [run_equalIn_struct w 9999 27 _ _ (by kernel_rfl) (by kernel_rfl)]
  generalize (Tryd.prog.fieldsOf 27).toList = l at hf ⊢
  have hl : l.length = 8 := by have := congrArg List.length hf; simpa using this
  match l, hl with
  | [f1, f2, f3, f4, f5, f6, f7, f8], _ =>
  simp only [List.map_cons, List.map_nil, List.cons.injEq, Prod.mk.injEq, and_true] at hf
  obtain ⟨⟨a1, b1, c1⟩, ⟨a2, b2, c2⟩, ⟨a3, b3, c3⟩, ⟨a4, b4, c4⟩, ⟨a5, b5, c5⟩, ⟨a6, b6, c6⟩, ⟨a7, b7, c7⟩, ⟨a8, b8, c8⟩⟩ := hf
  unfold Qy.eqB
  refine eqFields_cons (a := .int .i64 a.kd) (b := .int .i64 b.kd) (by rw [a1]; decide) (by rw [b1, c1]; kernel_rfl) (by rw [b1, c1]; kernel_rfl) (by rw [b1, run_equalIn_int _ _ 3 .i64 .i64 _ _ Tryd.underlying3]) ?_
  refine eqFields_cons (a := .int .i64 a.cl) (b := .int .i64 b.cl) (by rw [a2]; decide) (by rw [b2, c2]; kernel_rfl) (by rw [b2, c2]; kernel_rfl) (by rw [b2, run_equalIn_int _ _ 3 .i64 .i64 _ _ Tryd.underlying3]) ?_
  refine eqFields_cons (a := boxV a.rg) (b := boxV b.rg) (by rw [a3]; decide) (by rw [b3, c3]; kernel_rfl) (by rw [b3, c3]; kernel_rfl) (by rw [b3]; exact eq_boxN 9996 a.rg b.rg w) ?_
  refine eqFields_cons (a := .int .i64 a.lo) (b := .int .i64 b.lo) (by rw [a4]; decide) (by rw [b4, c4]; kernel_rfl) (by rw [b4, c4]; kernel_rfl) (by rw [b4, run_equalIn_int _ _ 3 .i64 .i64 _ _ Tryd.underlying3]) ?_
  refine eqFields_cons (a := .int .i64 a.hi) (b := .int .i64 b.hi) (by rw [a5]; decide) (by rw [b5, c5]; kernel_rfl) (by rw [b5, c5]; kernel_rfl) (by rw [b5, run_equalIn_int _ _ 3 .i64 .i64 _ _ Tryd.underlying3]) ?_
  refine eqFields_cons (a := .int .i64 a.f) (b := .int .i64 b.f) (by rw [a6]; decide) (by rw [b6, c6]; kernel_rfl) (by rw [b6, c6]; kernel_rfl) (by rw [b6, run_equalIn_int _ _ 3 .i64 .i64 _ _ Tryd.underlying3]) ?_
  refine eqFields_cons (a := .bool a.fa) (b := .bool b.fa) (by rw [a7]; decide) (by rw [b7, c7]; kernel_rfl) (by rw [b7, c7]; kernel_rfl) (by rw [b7]; exact eq_boolN 9998 _ _ _) ?_
  refine eqFields_cons (a := .int .i64 a.bu) (b := .int .i64 b.bu) (by rw [a8]; decide) (by rw [b8, c8]; kernel_rfl) (by rw [b8, c8]; kernel_rfl) (by rw [b8, run_equalIn_int _ _ 3 .i64 .i64 _ _ Tryd.underlying3]) ?_
  simp [Op.eqFields]
theorem eq_qy {a b : Qy} {r : Bool} (h : r = true ↔ a = b) (w : World) : (Op.equalIn 10000 27 (queryV a) (queryV b)).run Tryd.prog w = .ok r w := by
  rw [eq_queryB]
  have : a.eqB b = r := by
    have := Qy.eqB_iff (a := a) (b := b)
    cases r <;> cases h' : a.eqB b <;> simp_all
  rw [this]
instance : DecidableEq Qy := fun a b => decidable_of_iff (a.eqB b = true) Qy.eqB_iff

end Go.Proofs.YtjpffempmlfoeaaDoor

namespace Go.Proofs.YtjpffempmlfoeaaDoor
open Go.RowKit M

structure LibA (wb : World) : Prop where
  cut : ∀ l s : Txt, l.length ≤ 2000000 → AnsW wb 38 #[tx l, tx s] (.tuple #[tx (Lib.cut l s).1, tx (Lib.cut l s).2.1, .bool (Lib.cut l s).2.2])
  itoa : ∀ n : Int, smallN n → AnsW wb 19 #[.int .i64 n] (tx (dg n))
  join : ∀ (w : World) (g o n c : Nat) (L : List Txt), AtS w g o L → g < w.heap.size → L.length = n → n ≤ c → n ≤ 1000 → (Lib.join L [32]).length ≤ 1000000 →
    Calls Tryd.prog 18 #[.slice (some ⟨g, o, none⟩) n c, tx [32]] w fun e w' => e = .returned (tx (Lib.join L [32])) ∧ Jk w w'
  print : ∀ n : Int, FitI n → AnsW wb 17 #[.int .i64 n] (tx (printL n))
  scan : ∀ l : Txt, l.length ≤ 2000000 → AnsW wb 44 #[tx l] (.tuple #[.int .i64 (scanN l), .bool (scanB l)])
theorem LibA.at {w w1 : World} (h : LibA w) (hj : Jk w w1) : LibA w1 := ⟨fun l s a => (h.cut l s a).at hj, fun n a => (h.itoa n a).at hj, h.join, fun n a => (h.print n a).at hj, fun l a => (h.scan l a).at hj⟩
theorem lib_a {w : World} (hE : Env w) : LibA w where
  cut l s hl := fun w1 hj => by
    obtain ⟨m, hm⟩ := (hE.on hj.below).2
    refine (Tryd.strings_Cut ⟨l.toArray⟩ ⟨s.toArray⟩ m w1 (by show l.length < _; omega) hm).mono ?_
    rintro e w' ⟨rfl, n, rfl⟩
    exact ⟨rfl, Jk.of_below (below_drewN (Below.refl _ _) n)⟩
  itoa n h := fun w1 hj => by
    unfold smallN at h
    obtain ⟨k, rfl⟩ := Int.eq_ofNat_of_zero_le h.1
    refine (Tryd.strconv_Itoa (k : Int) (by omega) (by omega) w1 (hE.on hj.below).1).mono ?_
    rintro e w' ⟨rfl, m, os, rfl⟩
    refine ⟨?_, Jk.of_below (Go.Lib.below_grow _ w1 (Nat.le_refl _) m os)⟩
    unfold Lib.itoa dg
    rw [if_neg (by omega)]
  join w1 g o n c L hS hg hn hc h8 hl := by
    have e : (L.map fun t : Txt => (⟨t.toArray⟩ : ByteArray)).map (·.data.toList) = L := by
      rw [List.map_map]
      exact (List.map_congr_left fun t _ => (by simp : ((fun x : ByteArray => x.data.toList) ∘ fun t : Txt => (⟨t.toArray⟩ : ByteArray)) t = id t)).trans (List.map_id L)
    have h := Tryd.strings_Join g o c (L.map fun t : Txt => (⟨t.toArray⟩ : ByteArray)) ⟨#[32]⟩ w1 (fun j x hx => by
      have hj : j < L.length := by
        have := (List.getElem?_eq_some_iff.1 hx).1
        simpa using this
      rw [hS j hj]
      simp [hj] at hx
      simp [xA, hj, hx]) hg (by simp; omega) (by simp; omega) (by rw [e]; show (Lib.join L [32]).length ≤ _; omega)
    rw [e] at h
    simp only [List.length_map, hn] at h
    exact h.mono fun _ _ ⟨a, b⟩ => ⟨a, Jk.of_below b⟩
  print n h := fun w1 hj => (print_any n w1 h.1 h.2 (hE.on hj.below).1).mono fun _ _ ⟨a, b⟩ => ⟨a, Jk.of_below b⟩
  scan l hl := fun w1 hj => (scan_any l w1 (by omega) (hE.on hj.below).2 (hE.on hj.below).1).mono fun _ _ ⟨a, b⟩ => ⟨a, Jk.of_below b⟩

theorem number_ans {wb : World} (hL : LibA wb) (l : Txt) (hl : l.length ≤ 2000000) : AnsW wb 37 #[tx l] (.int .i64 (scanN l)) := fun w hw => by
  have J := rules8
  have HS := hid ((hL.scan l hl).at hw)
  clear hw hL
  go_enter Tryd.func37, Tryd.ntmps37
  go_wp2_with (go_at_call 44; refine (HS.out _ (by repeat (with_reducible first | exact Jk.refl _ | apply Jk.junk))).mono ?_; rintro e w1 ⟨rfl, X1, rfl⟩)
  go_ret
  exact ⟨rfl, by repeat (with_reducible first | exact Jk.refl _ | apply Jk.junk)⟩
theorem smallOf_ans {wb : World} (hL : LibA wb) (l : Txt) (hl : l.length ≤ 2000000) : AnsW wb 27 #[tx l] (.int .i64 (smV l)) := fun w hw => by
  have J := rules8
  have HS := hid ((number_ans hL l hl).at hw)
  have hV : Hid (scanN l / 256 = smV l) := rfl
  obtain ⟨n, hn⟩ : ∃ n, scanN l = n := ⟨_, rfl⟩
  have hb := scanN_bd l
  rw [hn] at HS hV hb
  rw [← hV.out]
  clear hw hL hn hV
  go_enter Tryd.func27, Tryd.ntmps27
  go_wp2_with (go_at_call 37; refine (HS.out _ (by repeat (with_reducible first | exact Jk.refl _ | apply Jk.junk))).mono ?_; rintro e w1 ⟨rfl, X1, rfl⟩)
  go_ret
  exact ⟨ret_int (by omega), by repeat (with_reducible first | exact Jk.refl _ | apply Jk.junk)⟩
theorem spanOf_ans {wb : World} (hL : LibA wb) (l : Txt) (hl : l.length ≤ 2000000) : AnsW wb 26 #[tx l] (spV (spanV' l)) := fun w hw => by
  have J := rules8
  have HC := hid ((hL.cut l [46, 46] hl).at hw)
  have HA := hid ((number_ans hL (befP l) (by have := befP_len l; omega)).at hw)
  have HB := hid ((number_ans hL (aftP l) (by have := aftP_len l; omega)).at hw)
  have HV : Hid (spanV' l = ⟨scanN (befP l), scanN (aftP l)⟩) := rfl
  rw [HV.out]
  have e1 : (Lib.cut l [46, 46]).1 = befP l := rfl
  have e2 : (Lib.cut l [46, 46]).2.1 = aftP l := rfl
  rw [e1, e2] at HC
  generalize (Lib.cut l [46, 46]).2.2 = ok at HC
  obtain ⟨x, hx⟩ : ∃ n, scanN (befP l) = n := ⟨_, rfl⟩
  obtain ⟨y, hy⟩ : ∃ n, scanN (aftP l) = n := ⟨_, rfl⟩
  rw [hx] at HA ⊢
  rw [hy] at HB ⊢
  clear hx hy e1 e2 HV hw hL
  generalize befP l = p at HC HA
  generalize aftP l = q at HC HB
  go_enter Tryd.func26, Tryd.ntmps26
  go_wp2_with (first
    | (go_at_call 38; refine (HC.out _ (by repeat (with_reducible first | exact Jk.refl _ | apply Jk.junk | apply Jk.alloc))).mono ?_; rintro e w1 ⟨rfl, X1, rfl⟩)
    | (go_at_call 37; refine (AnsW.at (by with_reducible first | exact HA.out | exact HB.out) (Jk.refl _) _ (by repeat (with_reducible first | exact Jk.refl _ | apply Jk.junk | apply Jk.alloc))).mono ?_; rintro e w1 ⟨rfl, X2, rfl⟩))
  refine bodyPost_ret (v := spV ⟨x, y⟩) (by simp [results, Tryd.results26, go_sem, J]) rfl ⟨rfl, ?_⟩
  repeat (with_reducible first | exact Jk.refl _ | apply Jk.junk | apply Jk.alloc)

end Go.Proofs.YtjpffempmlfoeaaDoor
