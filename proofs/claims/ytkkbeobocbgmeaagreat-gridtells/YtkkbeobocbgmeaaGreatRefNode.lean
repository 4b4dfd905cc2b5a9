/- What each function of the document's own answer to chapter 1 answers, for every argument: the same words as the contracts of the code.
   What the document's own RightNode, Pack and Unpack (copseref6, chapter 6) answer, for every argument: the same words as the contracts of the code.
   What the document's own Pack and Unpack (copseref6, chapter 6) answer, for every argument: the same words as the contracts of the code.
   What the document's own Unpack (copseref6, chapter 6) answers, for every word: the same words as the contract of the code. -/
import Derived.Test.YtkkbeobocbgmeaaGreatBits
import Derived.Test.YtkkbeobocbgmeaaGreatNodeD
import Derived.Test.YtkkbeobocbgmeaaGreatMathT
namespace Go.Proofs.YtkkbeobocbgmeaaGreat
open Go.RowKit M

theorem rfits_any (n k : Int) (w : World) :
    Calls Tryz.prog 57 #[.int .i64 n, .int .i64 k] w fun e w' => e = .returned (.bool (fitsB n k)) ∧ w' = w := by
  by_cases h1 : k < 1
  · have e : fitsB n k = false := by simp [fitsB]; omega
    rw [e]; clear e
    go_enter Tryz.func57, Tryz.ntmps57
    go_wp2
    go_ret
    exact ⟨rfl, rfl⟩
  · by_cases h2 : 64 < k
    · have e : fitsB n k = false := by simp [fitsB]; omega
      rw [e]; clear e
      go_enter Tryz.func57, Tryz.ntmps57
      go_wp2
      go_ret
      exact ⟨rfl, rfl⟩
    · by_cases h3 : k = 64
      · subst h3
        have e : fitsB n 64 = true := by simp [fitsB, wrapI]
        rw [e]; clear e
        go_enter Tryz.func57, Tryz.ntmps57
        go_wp2
        go_ret
        exact ⟨rfl, rfl⟩
      · go_enter Tryz.func57, Tryz.ntmps57
        go_wp2
        all_goals
          go_ret
          refine ⟨ret_bool ?_, rfl⟩
          simp only [pow_in (k.toNat - 1) (by omega), neg_in (k.toNat - 1) (by omega), less_in (k.toNat - 1) (by omega)] at *
          first
            | exact fits_yes n k (by omega) (by omega) ‹_›
            | exact fits_no n k (by omega) (by omega) ‹_›

theorem rwrap_any (n k : Int) (w : World) :
    Calls Tryz.prog 47 #[.int .i64 n, .int .i64 k] w fun e w' => e = .returned (.int .i64 (wrapI n k)) ∧ w' = w := by
  by_cases h1 : k < 1
  · rw [wrapI_out n k (Or.inl h1)]
    go_enter Tryz.func47, Tryz.ntmps47
    go_wp2
    go_ret
    exact ⟨rfl, rfl⟩
  · by_cases h2 : 63 < k
    · rw [wrapI_out n k (Or.inr (by omega))]
      go_enter Tryz.func47, Tryz.ntmps47
      go_wp2
      go_ret
      exact ⟨rfl, rfl⟩
    · go_enter Tryz.func47, Tryz.ntmps47
      go_wp2
      all_goals
        go_ret
        refine ⟨ret_int ?_, rfl⟩
        simp only [u_low n k.toNat (by omega), beq_iff_eq, beq_eq_false_iff_ne] at *
        first
          | exact wrap_neg n k (by omega) (by omega) ‹_›
          | exact wrap_pos n k (by omega) (by omega) ‹_›








end Go.Proofs.YtkkbeobocbgmeaaGreat

namespace Go.Proofs.YtkkbeobocbgmeaaGreat
open Go.RowKit M

theorem rfits_ans {n : Int} : Ans 57 #[.int .i64 n, .int .i64 32] (.bool (fit32 n)) := fun w =>
  (rfits_any n 32 w).mono fun _ _ ⟨e, h⟩ => ⟨by rw [e, fits32], h ▸ Jk.refl _⟩
theorem rwrap_ans {n : Int} : Ans 47 #[.int .i64 n, .int .i64 32] (.int .i64 (sgI n)) := fun w =>
  (rwrap_any n 32 w).mono fun _ _ ⟨e, h⟩ => ⟨by rw [e, wrapI_32], h ▸ Jk.refl _⟩

set_option maxRecDepth 100000 in
set_option maxHeartbeats 1600000 in
theorem rright_leaf (v f a l r : Int) (w : World) : Calls Tryz.prog 48 #[.agg #[.bool true, .int .i64 v, .int .i64 f, .int .i64 a, .int .i64 l, .int .i64 r]] w fun e w' => e = .returned (.bool (Nd.rightB ⟨true, v, f, a, l, r⟩)) ∧ Jk w w' := by
  have J := rules8
  obtain ⟨F, hF⟩ : ∃ F, fit32 v = F := ⟨_, rfl⟩
  have HF : Hid (Ans 57 #[.int .i64 v, .int .i64 32] (.bool F)) := hF ▸ rfits_ans
  obtain ⟨A, hA⟩ : ∃ A, (f == 0) = A := ⟨_, rfl⟩
  obtain ⟨B, hB⟩ : ∃ B, (a == 0) = B := ⟨_, rfl⟩
  obtain ⟨C, hC⟩ : ∃ C, (l == 0) = C := ⟨_, rfl⟩
  obtain ⟨D, hD⟩ : ∃ D, (r == 0) = D := ⟨_, rfl⟩
  have HR : Nd.rightB ⟨true, v, f, a, l, r⟩ = (F && (A && B && C && D)) := by
    show (fit32 v && ((f == 0) && (a == 0) && (l == 0) && (r == 0))) = _
    rw [hF, hA, hB, hC, hD]
  rw [HR]
  clear HR hF
  cases F
  · go_enter Tryz.func48, Tryz.ntmps48
    go_wp2_with (first | (go_at_call 57; refine (HF.out.on _).mono ?_; rintro e w1 ⟨rfl, X1, rfl⟩))
    go_ret
    exact ⟨rfl, by repeat (with_reducible first | exact Jk.refl _ | apply Jk.junk | apply Jk.alloc)⟩
  cases A
  · go_enter Tryz.func48, Tryz.ntmps48
    go_wp2_with (first | (go_at_call 57; refine (HF.out.on _).mono ?_; rintro e w1 ⟨rfl, X1, rfl⟩))
    go_ret
    exact ⟨rfl, by repeat (with_reducible first | exact Jk.refl _ | apply Jk.junk | apply Jk.alloc)⟩
  cases B
  · go_enter Tryz.func48, Tryz.ntmps48
    go_wp2_with (first | (go_at_call 57; refine (HF.out.on _).mono ?_; rintro e w1 ⟨rfl, X1, rfl⟩))
    go_ret
    exact ⟨rfl, by repeat (with_reducible first | exact Jk.refl _ | apply Jk.junk | apply Jk.alloc)⟩
  cases C
  · go_enter Tryz.func48, Tryz.ntmps48
    go_wp2_with (first | (go_at_call 57; refine (HF.out.on _).mono ?_; rintro e w1 ⟨rfl, X1, rfl⟩))
    go_ret
    exact ⟨rfl, by repeat (with_reducible first | exact Jk.refl _ | apply Jk.junk | apply Jk.alloc)⟩
  · go_enter Tryz.func48, Tryz.ntmps48
    go_wp2_with (first | (go_at_call 57; refine (HF.out.on _).mono ?_; rintro e w1 ⟨rfl, X1, rfl⟩))
    go_ret
    exact ⟨rfl, by repeat (with_reducible first | exact Jk.refl _ | apply Jk.junk | apply Jk.alloc)⟩

set_option maxRecDepth 100000 in
set_option maxHeartbeats 1600000 in
theorem rright_other (v f a l r : Int) (w : World) : Calls Tryz.prog 48 #[.agg #[.bool false, .int .i64 v, .int .i64 f, .int .i64 a, .int .i64 l, .int .i64 r]] w fun e w' => e = .returned (.bool (Nd.rightB ⟨false, v, f, a, l, r⟩)) ∧ Jk w w' := by
  have J := rules8
  obtain ⟨V, hV⟩ : ∃ V, (v == 0) = V := ⟨_, rfl⟩
  obtain ⟨A, hA⟩ : ∃ A, fit32 a = A := ⟨_, rfl⟩
  obtain ⟨F1, h1⟩ : ∃ F, decide (0 ≤ f) = F := ⟨_, rfl⟩
  obtain ⟨F2, h2⟩ : ∃ F, decide (f < 4) = F := ⟨_, rfl⟩
  obtain ⟨L1, h3⟩ : ∃ F, decide (1 ≤ l) = F := ⟨_, rfl⟩
  obtain ⟨L2, h4⟩ : ∃ F, decide (l < 31) = F := ⟨_, rfl⟩
  obtain ⟨R1, h5⟩ : ∃ F, decide (1 ≤ r) = F := ⟨_, rfl⟩
  obtain ⟨R2, h6⟩ : ∃ F, decide (r < 31) = F := ⟨_, rfl⟩
  have HA : Hid (Ans 57 #[.int .i64 a, .int .i64 32] (.bool A)) := hA ▸ rfits_ans
  have HR : Nd.rightB ⟨false, v, f, a, l, r⟩ = (V && (F1 && F2) && A && (L1 && L2) && (R1 && R2)) := by
    show ((v == 0) && decide (0 ≤ f ∧ f < 4) && fit32 a && decide (1 ≤ l ∧ l < 31) && decide (1 ≤ r ∧ r < 31)) = _
    rw [← hV, ← hA, ← h1, ← h2, ← h3, ← h4, ← h5, ← h6, Bool.decide_and, Bool.decide_and, Bool.decide_and]
  rw [HR]
  clear HR hA
  cases V
  · go_enter Tryz.func48, Tryz.ntmps48
    go_wp2_with fail
    go_ret
    exact ⟨rfl, by repeat (with_reducible first | exact Jk.refl _ | apply Jk.junk | apply Jk.alloc)⟩
  cases F1
  · go_enter Tryz.func48, Tryz.ntmps48
    go_wp2_with fail
    go_ret
    exact ⟨rfl, by repeat (with_reducible first | exact Jk.refl _ | apply Jk.junk | apply Jk.alloc)⟩
  cases F2
  · go_enter Tryz.func48, Tryz.ntmps48
    go_wp2_with fail
    go_ret
    exact ⟨rfl, by repeat (with_reducible first | exact Jk.refl _ | apply Jk.junk | apply Jk.alloc)⟩
  cases A
  · go_enter Tryz.func48, Tryz.ntmps48
    go_wp2_with (first | (go_at_call 57; refine (HA.out.on _).mono ?_; rintro e w1 ⟨rfl, X1, rfl⟩))
    go_ret
    exact ⟨rfl, by repeat (with_reducible first | exact Jk.refl _ | apply Jk.junk | apply Jk.alloc)⟩
  cases L1
  · go_enter Tryz.func48, Tryz.ntmps48
    go_wp2_with (first | (go_at_call 57; refine (HA.out.on _).mono ?_; rintro e w1 ⟨rfl, X1, rfl⟩))
    go_ret
    exact ⟨rfl, by repeat (with_reducible first | exact Jk.refl _ | apply Jk.junk | apply Jk.alloc)⟩
  cases L2
  · go_enter Tryz.func48, Tryz.ntmps48
    go_wp2_with (first | (go_at_call 57; refine (HA.out.on _).mono ?_; rintro e w1 ⟨rfl, X1, rfl⟩))
    go_ret
    exact ⟨rfl, by repeat (with_reducible first | exact Jk.refl _ | apply Jk.junk | apply Jk.alloc)⟩
  cases R1
  · go_enter Tryz.func48, Tryz.ntmps48
    go_wp2_with (first | (go_at_call 57; refine (HA.out.on _).mono ?_; rintro e w1 ⟨rfl, X1, rfl⟩))
    go_ret
    exact ⟨rfl, by repeat (with_reducible first | exact Jk.refl _ | apply Jk.junk | apply Jk.alloc)⟩
  · go_enter Tryz.func48, Tryz.ntmps48
    go_wp2_with (first | (go_at_call 57; refine (HA.out.on _).mono ?_; rintro e w1 ⟨rfl, X1, rfl⟩))
    go_ret
    exact ⟨rfl, by repeat (with_reducible first | exact Jk.refl _ | apply Jk.junk | apply Jk.alloc)⟩

theorem rright_ans (n : Nd) : Ans 48 #[nodeV n] (.bool n.rightB) := fun w => by
  obtain ⟨leaf, v, f, a, l, r⟩ := n
  cases leaf
  · exact rright_other v f a l r w
  · exact rright_leaf v f a l r w
theorem rright_is {n : Nd} {b : Bool} (h : n.rightB = b) : Ans 48 #[nodeV n] (.bool b) := h ▸ rright_ans n

end Go.Proofs.YtkkbeobocbgmeaaGreat

namespace Go.Proofs.YtkkbeobocbgmeaaGreat
open Go.RowKit M

set_option maxRecDepth 100000 in
set_option maxHeartbeats 1600000 in
theorem rpack_wrong (n : Nd) (h : n.rightB = false) (w : World) : Calls Tryz.prog 33 #[nodeV n] w fun e w' => e = .returned (.int .u64 0) ∧ Jk w w' := by
  have J := rules8
  go_enter Tryz.func33, Tryz.ntmps33
  go_wp2_with (first | (go_at_call 48; refine ((rright_is h).on _).mono ?_; rintro e w1 ⟨rfl, X1, rfl⟩))
  go_ret
  exact ⟨rfl, by repeat (with_reducible first | exact Jk.refl _ | apply Jk.junk | apply Jk.alloc)⟩

set_option maxRecDepth 100000 in
set_option maxHeartbeats 1600000 in
theorem rpack_leaf (v f a l r : Int) (h : Nd.rightB ⟨true, v, f, a, l, r⟩ = true) (w : World) : Calls Tryz.prog 33 #[nodeV ⟨true, v, f, a, l, r⟩] w fun e w' => e = .returned (.int .u64 (9223372036854775808 + v % 4294967296)) ∧ Jk w w' := by
  have J := rules8
  have HR := hid (rright_is h)
  have HV := hid (ref_leaf v)
  clear h
  go_enter Tryz.func33, Tryz.ntmps33
  go_wp2_with (first | (go_at_call 48; refine (HR.out.on _).mono ?_; rintro e w1 ⟨rfl, X1, rfl⟩))
  go_ret
  exact ⟨ret_int HV.out, by repeat (with_reducible first | exact Jk.refl _ | apply Jk.junk | apply Jk.alloc)⟩

set_option maxRecDepth 100000 in
set_option maxHeartbeats 1600000 in
theorem rpack_other (v f a l r z : Int) (h : Nd.rightB ⟨false, v, f, a, l, r⟩ = true) (HV : Hid (bits .or .u64 (bits .or .u64 (bits .or .u64 (bits .and .u64 (IntKind.u64.wrap a) 4294967295) (IntKind.u64.wrap (IntKind.u64.wrap f * 4294967296))) (IntKind.u64.wrap (IntKind.u64.wrap l * 1099511627776))) (IntKind.u64.wrap (IntKind.u64.wrap r * 281474976710656)) = z)) (w : World) : Calls Tryz.prog 33 #[nodeV ⟨false, v, f, a, l, r⟩] w fun e w' => e = .returned (.int .u64 z) ∧ Jk w w' := by
  have J := rules8
  have HR := hid (rright_is h)
  clear h
  go_enter Tryz.func33, Tryz.ntmps33
  go_wp2_with (first | (go_at_call 48; refine (HR.out.on _).mono ?_; rintro e w1 ⟨rfl, X1, rfl⟩))
  go_ret
  refine ⟨ret_int ?_, by repeat (with_reducible first | exact Jk.refl _ | apply Jk.junk | apply Jk.alloc)⟩
  have := HV.out
  with_reducible exact this

theorem rpack_ans (n : Nd) : Ans 33 #[nodeV n] (.int .u64 n.pack) := fun w => by
  cases h : n.rightB
  · rw [Nd.pack_no h]; exact rpack_wrong n h w
  · rw [Nd.pack_of h]
    obtain ⟨leaf, v, f, a, l, r⟩ := n
    cases leaf
    · have hR := Nd.right_iff.1 h
      simp only [Nd.Right, Bool.false_eq_true, false_and, false_or, true_and] at hR
      obtain ⟨_, f0, f1, a0, a1, l0, l1, r0, r1⟩ := hR
      rw [word_other]
      exact rpack_other v f a l r _ h (ref_other f a l r f0 f1 l0 l1 r0 r1) w
    · exact rpack_leaf v f a l r h w

end Go.Proofs.YtkkbeobocbgmeaaGreat

namespace Go.Proofs.YtkkbeobocbgmeaaGreat
open Go.RowKit M

set_option maxRecDepth 100000 in
set_option maxHeartbeats 1600000 in
theorem ru_leaf_wrong (x m s : Int) (w : World)
    (hd : x / 9223372036854775808 = 1) (hm : bits .and .u64 x 4294967295 = m) (km : wrap64 m = m)
    (HW : Hid (Ans 47 #[.int .i64 m, .int .i64 32] (.int .i64 s)))
    (HR : Hid (Ans 48 #[nodeV ⟨true, s, 0, 0, 0, 0⟩] (.bool false))) :
    Calls Tryz.prog 31 #[.int .u64 x] w fun e w' => e = .returned (.tuple #[nodeV Nd.nil, .bool false]) ∧ Jk w w' := by
  have J := rules20
  go_enter Tryz.func31, Tryz.ntmps31
  go_wp2_with (first | (go_at_call 47; refine (HW.out.on _).mono ?_; rintro e w1 ⟨rfl, X1, rfl⟩) | (go_at_call 48; refine (HR.out.on _).mono ?_; rintro e w1 ⟨rfl, X2, rfl⟩))
  refine bodyPost_ret (v := .tuple #[nodeV Nd.nil, .bool false]) (by simp [results, Tryz.results31, go_sem, J]) rfl ⟨rfl, ?_⟩
  repeat (with_reducible first | exact Jk.refl _ | apply Jk.junk | apply Jk.alloc)

set_option maxRecDepth 100000 in
set_option maxHeartbeats 1600000 in
theorem ru_leaf_no (x m s p : Int) (w : World)
    (hd : x / 9223372036854775808 = 1) (hm : bits .and .u64 x 4294967295 = m) (km : wrap64 m = m)
    (HW : Hid (Ans 47 #[.int .i64 m, .int .i64 32] (.int .i64 s)))
    (HR : Hid (Ans 48 #[nodeV ⟨true, s, 0, 0, 0, 0⟩] (.bool true)))
    (HP : Hid (Ans 33 #[nodeV ⟨true, s, 0, 0, 0, 0⟩] (.int .u64 p))) (hp : (p == x) = false) :
    Calls Tryz.prog 31 #[.int .u64 x] w fun e w' => e = .returned (.tuple #[nodeV Nd.nil, .bool false]) ∧ Jk w w' := by
  have J := rules20
  go_enter Tryz.func31, Tryz.ntmps31
  go_wp2_with (first | (go_at_call 47; refine (HW.out.on _).mono ?_; rintro e w1 ⟨rfl, X1, rfl⟩) | (go_at_call 48; refine (HR.out.on _).mono ?_; rintro e w1 ⟨rfl, X2, rfl⟩) | (go_at_call 33; refine (HP.out.on _).mono ?_; rintro e w1 ⟨rfl, X3, rfl⟩))
  refine bodyPost_ret (v := .tuple #[nodeV Nd.nil, .bool false]) (by simp [results, Tryz.results31, go_sem, J]) rfl ⟨rfl, ?_⟩
  repeat (with_reducible first | exact Jk.refl _ | apply Jk.junk | apply Jk.alloc)

set_option maxRecDepth 100000 in
set_option maxHeartbeats 1600000 in
theorem ru_leaf_yes (x m s p : Int) (w : World)
    (hd : x / 9223372036854775808 = 1) (hm : bits .and .u64 x 4294967295 = m) (km : wrap64 m = m)
    (HW : Hid (Ans 47 #[.int .i64 m, .int .i64 32] (.int .i64 s)))
    (HR : Hid (Ans 48 #[nodeV ⟨true, s, 0, 0, 0, 0⟩] (.bool true)))
    (HP : Hid (Ans 33 #[nodeV ⟨true, s, 0, 0, 0, 0⟩] (.int .u64 p))) (hp : (p == x) = true) :
    Calls Tryz.prog 31 #[.int .u64 x] w fun e w' => e = .returned (.tuple #[nodeV ⟨true, s, 0, 0, 0, 0⟩, .bool true]) ∧ Jk w w' := by
  have J := rules20
  obtain rfl : p = x := by simpa using hp
  clear hp
  go_enter Tryz.func31, Tryz.ntmps31
  go_wp2_with (first | (go_at_call 47; refine (HW.out.on _).mono ?_; rintro e w1 ⟨rfl, X1, rfl⟩) | (go_at_call 48; refine (HR.out.on _).mono ?_; rintro e w1 ⟨rfl, X2, rfl⟩) | (go_at_call 33; refine (HP.out.on _).mono ?_; rintro e w1 ⟨rfl, X3, rfl⟩))
  refine bodyPost_ret (v := .tuple #[nodeV ⟨true, s, 0, 0, 0, 0⟩, .bool true]) (by simp [results, Tryz.results31, go_sem, J]) rfl ⟨rfl, ?_⟩
  repeat (with_reducible first | exact Jk.refl _ | apply Jk.junk | apply Jk.alloc)

set_option maxRecDepth 100000 in
set_option maxHeartbeats 1600000 in
theorem ru_other_wrong (x m s f l r : Int) (w : World)
    (hd : x / 9223372036854775808 = 0) (hm : bits .and .u64 x 4294967295 = m) (km : wrap64 m = m)
    (h1 : bits .and .u64 (x / 4294967296) 15 = f) (k1 : wrap64 f = f) (h2 : bits .and .u64 (x / 1099511627776) 255 = l) (k2 : wrap64 l = l) (h3 : bits .and .u64 (x / 281474976710656) 255 = r) (k3 : wrap64 r = r)
    (HW : Hid (Ans 47 #[.int .i64 m, .int .i64 32] (.int .i64 s)))
    (HR : Hid (Ans 48 #[nodeV ⟨false, 0, f, s, l, r⟩] (.bool false))) :
    Calls Tryz.prog 31 #[.int .u64 x] w fun e w' => e = .returned (.tuple #[nodeV Nd.nil, .bool false]) ∧ Jk w w' := by
  have J := rules20
  go_enter Tryz.func31, Tryz.ntmps31
  go_wp2_with (first | (go_at_call 47; refine (HW.out.on _).mono ?_; rintro e w1 ⟨rfl, X1, rfl⟩) | (go_at_call 48; refine (HR.out.on _).mono ?_; rintro e w1 ⟨rfl, X2, rfl⟩))
  refine bodyPost_ret (v := .tuple #[nodeV Nd.nil, .bool false]) (by simp [results, Tryz.results31, go_sem, J]) rfl ⟨rfl, ?_⟩
  repeat (with_reducible first | exact Jk.refl _ | apply Jk.junk | apply Jk.alloc)

set_option maxRecDepth 100000 in
set_option maxHeartbeats 1600000 in
theorem ru_other_no (x m s f l r p : Int) (w : World)
    (hd : x / 9223372036854775808 = 0) (hm : bits .and .u64 x 4294967295 = m) (km : wrap64 m = m)
    (h1 : bits .and .u64 (x / 4294967296) 15 = f) (k1 : wrap64 f = f) (h2 : bits .and .u64 (x / 1099511627776) 255 = l) (k2 : wrap64 l = l) (h3 : bits .and .u64 (x / 281474976710656) 255 = r) (k3 : wrap64 r = r)
    (HW : Hid (Ans 47 #[.int .i64 m, .int .i64 32] (.int .i64 s)))
    (HR : Hid (Ans 48 #[nodeV ⟨false, 0, f, s, l, r⟩] (.bool true)))
    (HP : Hid (Ans 33 #[nodeV ⟨false, 0, f, s, l, r⟩] (.int .u64 p))) (hp : (p == x) = false) :
    Calls Tryz.prog 31 #[.int .u64 x] w fun e w' => e = .returned (.tuple #[nodeV Nd.nil, .bool false]) ∧ Jk w w' := by
  have J := rules20
  go_enter Tryz.func31, Tryz.ntmps31
  go_wp2_with (first | (go_at_call 47; refine (HW.out.on _).mono ?_; rintro e w1 ⟨rfl, X1, rfl⟩) | (go_at_call 48; refine (HR.out.on _).mono ?_; rintro e w1 ⟨rfl, X2, rfl⟩) | (go_at_call 33; refine (HP.out.on _).mono ?_; rintro e w1 ⟨rfl, X3, rfl⟩))
  refine bodyPost_ret (v := .tuple #[nodeV Nd.nil, .bool false]) (by simp [results, Tryz.results31, go_sem, J]) rfl ⟨rfl, ?_⟩
  repeat (with_reducible first | exact Jk.refl _ | apply Jk.junk | apply Jk.alloc)

set_option maxRecDepth 100000 in
set_option maxHeartbeats 1600000 in
theorem ru_other_yes (x m s f l r p : Int) (w : World)
    (hd : x / 9223372036854775808 = 0) (hm : bits .and .u64 x 4294967295 = m) (km : wrap64 m = m)
    (h1 : bits .and .u64 (x / 4294967296) 15 = f) (k1 : wrap64 f = f) (h2 : bits .and .u64 (x / 1099511627776) 255 = l) (k2 : wrap64 l = l) (h3 : bits .and .u64 (x / 281474976710656) 255 = r) (k3 : wrap64 r = r)
    (HW : Hid (Ans 47 #[.int .i64 m, .int .i64 32] (.int .i64 s)))
    (HR : Hid (Ans 48 #[nodeV ⟨false, 0, f, s, l, r⟩] (.bool true)))
    (HP : Hid (Ans 33 #[nodeV ⟨false, 0, f, s, l, r⟩] (.int .u64 p))) (hp : (p == x) = true) :
    Calls Tryz.prog 31 #[.int .u64 x] w fun e w' => e = .returned (.tuple #[nodeV ⟨false, 0, f, s, l, r⟩, .bool true]) ∧ Jk w w' := by
  have J := rules20
  obtain rfl : p = x := by simpa using hp
  clear hp
  go_enter Tryz.func31, Tryz.ntmps31
  go_wp2_with (first | (go_at_call 47; refine (HW.out.on _).mono ?_; rintro e w1 ⟨rfl, X1, rfl⟩) | (go_at_call 48; refine (HR.out.on _).mono ?_; rintro e w1 ⟨rfl, X2, rfl⟩) | (go_at_call 33; refine (HP.out.on _).mono ?_; rintro e w1 ⟨rfl, X3, rfl⟩))
  refine bodyPost_ret (v := .tuple #[nodeV ⟨false, 0, f, s, l, r⟩, .bool true]) (by simp [results, Tryz.results31, go_sem, J]) rfl ⟨rfl, ?_⟩
  repeat (with_reducible first | exact Jk.refl _ | apply Jk.junk | apply Jk.alloc)

theorem and_low (x : Int) (p k : Nat) (q : Int) (hf : fieldB (p : Int) (k : Int) = true) (hq : lowI (k : Int) = q) (hx : 0 ≤ x) (hx2 : x ≤ 18446744073709551615) : bits .and .u64 (x / 2 ^ p) q = x / 2 ^ p % 2 ^ k := by
  subst hq
  have := get_val (a := (p : Int)) hx hx2 hf
  rw [M.get_at x p k hf hx] at this
  simpa using this
theorem runpack_ans (x : Int) (hx : 0 ≤ x) (hx2 : x ≤ 18446744073709551615) : Ans 31 #[.int .u64 x] (.tuple #[nodeV (unI x), .bool (unB x)]) := fun w => by
  have hm : bits .and .u64 x 4294967295 = x % 4294967296 := by simpa using and_low x 0 32 4294967295 (by decide) (by decide) hx hx2
  have km : wrap64 (x % 4294967296) = x % 4294967296 := IntWalk.wrap64_in _ ⟨by omega, by omega⟩
  have hs : sgI (x % 4294967296) = sgI x := by unfold sgI; rw [Int.emod_emod_of_dvd x (Int.dvd_refl 4294967296)]
  have HW : Hid (Ans 47 #[.int .i64 (x % 4294967296), .int .i64 32] (.int .i64 (sgI x))) := hs ▸ rwrap_ans
  have HU : unB x = ((readI x).rightB && ((readI x).pack == x)) := rfl
  have HI : unB x = true → unI x = readI x := fun h => by rw [unI, if_pos h]
  by_cases h : x / 9223372036854775808 % 2 = 1
  · have hd : x / 9223372036854775808 = 1 := by omega
    rw [read_leaf h] at HU HI
    cases hR : Nd.rightB ⟨true, sgI x, 0, 0, 0, 0⟩ with
    | false =>
      have hB : unB x = false := by rw [HU, hR]; rfl
      rw [un_no hB, hB]
      exact ru_leaf_wrong x _ _ w hd hm km HW (rright_is hR)
    | true =>
      cases hp : (Nd.pack ⟨true, sgI x, 0, 0, 0, 0⟩ == x) with
      | false =>
        have hB : unB x = false := by rw [HU, hR, hp]; rfl
        rw [un_no hB, hB]
        exact ru_leaf_no x _ _ _ w hd hm km HW (rright_is hR) (rpack_ans _) hp
      | true =>
        have hB : unB x = true := by rw [HU, hR, hp]; rfl
        rw [HI hB, hB]
        exact ru_leaf_yes x _ _ _ w hd hm km HW (rright_is hR) (rpack_ans _) hp
  · have hd : x / 9223372036854775808 = 0 := by omega
    have h1 : bits .and .u64 (x / 4294967296) 15 = x / 4294967296 % 16 := by simpa using and_low x 32 4 15 (by decide) (by decide) hx hx2
    have h2 : bits .and .u64 (x / 1099511627776) 255 = x / 1099511627776 % 256 := by simpa using and_low x 40 8 255 (by decide) (by decide) hx hx2
    have h3 : bits .and .u64 (x / 281474976710656) 255 = x / 281474976710656 % 256 := by simpa using and_low x 48 8 255 (by decide) (by decide) hx hx2
    have k1 : wrap64 (x / 4294967296 % 16) = x / 4294967296 % 16 := wrap64_low (by omega) (by omega)
    have k2 : wrap64 (x / 1099511627776 % 256) = x / 1099511627776 % 256 := wrap64_low (by omega) (by omega)
    have k3 : wrap64 (x / 281474976710656 % 256) = x / 281474976710656 % 256 := wrap64_low (by omega) (by omega)
    rw [read_other h] at HU HI
    generalize x / 4294967296 % 16 = f at *
    generalize x / 1099511627776 % 256 = l at *
    generalize x / 281474976710656 % 256 = r at *
    cases hR : Nd.rightB ⟨false, 0, f, sgI x, l, r⟩ with
    | false =>
      have hB : unB x = false := by rw [HU, hR]; rfl
      rw [un_no hB, hB]
      exact ru_other_wrong x _ _ f l r w hd hm km h1 k1 h2 k2 h3 k3 HW (rright_is hR)
    | true =>
      cases hp : (Nd.pack ⟨false, 0, f, sgI x, l, r⟩ == x) with
      | false =>
        have hB : unB x = false := by rw [HU, hR, hp]; rfl
        rw [un_no hB, hB]
        exact ru_other_no x _ _ f l r _ w hd hm km h1 k1 h2 k2 h3 k3 HW (rright_is hR) (rpack_ans _) hp
      | true =>
        have hB : unB x = true := by rw [HU, hR, hp]; rfl
        rw [HI hB, hB]
        exact ru_other_yes x _ _ f l r _ w hd hm km h1 k1 h2 k2 h3 k3 HW (rright_is hR) (rpack_ans _) hp

end Go.Proofs.YtkkbeobocbgmeaaGreat
