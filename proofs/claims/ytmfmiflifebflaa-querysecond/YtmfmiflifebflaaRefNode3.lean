/- What the document's own Unpack (copseref6, chapter 6) answers, for every word: the same words as the contract of the code. -/
import Derived.Test.YtmfmiflifebflaaRefNode
namespace Go.Proofs.Ytmfmiflifebflaa
open Go.RowKit M

set_option maxRecDepth 100000 in
set_option maxHeartbeats 1600000 in
theorem ru_leaf_wrong (x m s : Int) (w : World)
    (hd : x / 9223372036854775808 = 1) (hm : bits .and .u64 x 4294967295 = m) (km : wrap64 m = m)
    (HW : Hid (Ans 53 #[.int .i64 m, .int .i64 32] (.int .i64 s)))
    (HR : Hid (Ans 39 #[nodeV ⟨true, s, 0, 0, 0, 0⟩] (.bool false))) :
    Calls Try.prog 49 #[.int .u64 x] w fun e w' => e = .returned (.tuple #[nodeV Nd.nil, .bool false]) ∧ Jk w w' := by
  have J := rules20
  go_enter Try.func49, Try.ntmps49
  go_wp2_with (first | (go_at_call 53; refine (HW.out.on _).mono ?_; rintro e w1 ⟨rfl, X1, rfl⟩) | (go_at_call 39; refine (HR.out.on _).mono ?_; rintro e w1 ⟨rfl, X2, rfl⟩))
  refine bodyPost_ret (v := .tuple #[nodeV Nd.nil, .bool false]) (by simp [results, Try.results49, go_sem, J]) rfl ⟨rfl, ?_⟩
  repeat (with_reducible first | exact Jk.refl _ | apply Jk.junk | apply Jk.alloc)

set_option maxRecDepth 100000 in
set_option maxHeartbeats 1600000 in
theorem ru_leaf_no (x m s p : Int) (w : World)
    (hd : x / 9223372036854775808 = 1) (hm : bits .and .u64 x 4294967295 = m) (km : wrap64 m = m)
    (HW : Hid (Ans 53 #[.int .i64 m, .int .i64 32] (.int .i64 s)))
    (HR : Hid (Ans 39 #[nodeV ⟨true, s, 0, 0, 0, 0⟩] (.bool true)))
    (HP : Hid (Ans 22 #[nodeV ⟨true, s, 0, 0, 0, 0⟩] (.int .u64 p))) (hp : (p == x) = false) :
    Calls Try.prog 49 #[.int .u64 x] w fun e w' => e = .returned (.tuple #[nodeV Nd.nil, .bool false]) ∧ Jk w w' := by
  have J := rules20
  go_enter Try.func49, Try.ntmps49
  go_wp2_with (first | (go_at_call 53; refine (HW.out.on _).mono ?_; rintro e w1 ⟨rfl, X1, rfl⟩) | (go_at_call 39; refine (HR.out.on _).mono ?_; rintro e w1 ⟨rfl, X2, rfl⟩) | (go_at_call 22; refine (HP.out.on _).mono ?_; rintro e w1 ⟨rfl, X3, rfl⟩))
  refine bodyPost_ret (v := .tuple #[nodeV Nd.nil, .bool false]) (by simp [results, Try.results49, go_sem, J]) rfl ⟨rfl, ?_⟩
  repeat (with_reducible first | exact Jk.refl _ | apply Jk.junk | apply Jk.alloc)

set_option maxRecDepth 100000 in
set_option maxHeartbeats 1600000 in
theorem ru_leaf_yes (x m s p : Int) (w : World)
    (hd : x / 9223372036854775808 = 1) (hm : bits .and .u64 x 4294967295 = m) (km : wrap64 m = m)
    (HW : Hid (Ans 53 #[.int .i64 m, .int .i64 32] (.int .i64 s)))
    (HR : Hid (Ans 39 #[nodeV ⟨true, s, 0, 0, 0, 0⟩] (.bool true)))
    (HP : Hid (Ans 22 #[nodeV ⟨true, s, 0, 0, 0, 0⟩] (.int .u64 p))) (hp : (p == x) = true) :
    Calls Try.prog 49 #[.int .u64 x] w fun e w' => e = .returned (.tuple #[nodeV ⟨true, s, 0, 0, 0, 0⟩, .bool true]) ∧ Jk w w' := by
  have J := rules20
  obtain rfl : p = x := by simpa using hp
  clear hp
  go_enter Try.func49, Try.ntmps49
  go_wp2_with (first | (go_at_call 53; refine (HW.out.on _).mono ?_; rintro e w1 ⟨rfl, X1, rfl⟩) | (go_at_call 39; refine (HR.out.on _).mono ?_; rintro e w1 ⟨rfl, X2, rfl⟩) | (go_at_call 22; refine (HP.out.on _).mono ?_; rintro e w1 ⟨rfl, X3, rfl⟩))
  refine bodyPost_ret (v := .tuple #[nodeV ⟨true, s, 0, 0, 0, 0⟩, .bool true]) (by simp [results, Try.results49, go_sem, J]) rfl ⟨rfl, ?_⟩
  repeat (with_reducible first | exact Jk.refl _ | apply Jk.junk | apply Jk.alloc)

set_option maxRecDepth 100000 in
set_option maxHeartbeats 1600000 in
theorem ru_other_wrong (x m s f l r : Int) (w : World)
    (hd : x / 9223372036854775808 = 0) (hm : bits .and .u64 x 4294967295 = m) (km : wrap64 m = m)
    (h1 : bits .and .u64 (x / 4294967296) 15 = f) (k1 : wrap64 f = f) (h2 : bits .and .u64 (x / 1099511627776) 255 = l) (k2 : wrap64 l = l) (h3 : bits .and .u64 (x / 281474976710656) 255 = r) (k3 : wrap64 r = r)
    (HW : Hid (Ans 53 #[.int .i64 m, .int .i64 32] (.int .i64 s)))
    (HR : Hid (Ans 39 #[nodeV ⟨false, 0, f, s, l, r⟩] (.bool false))) :
    Calls Try.prog 49 #[.int .u64 x] w fun e w' => e = .returned (.tuple #[nodeV Nd.nil, .bool false]) ∧ Jk w w' := by
  have J := rules20
  go_enter Try.func49, Try.ntmps49
  go_wp2_with (first | (go_at_call 53; refine (HW.out.on _).mono ?_; rintro e w1 ⟨rfl, X1, rfl⟩) | (go_at_call 39; refine (HR.out.on _).mono ?_; rintro e w1 ⟨rfl, X2, rfl⟩))
  refine bodyPost_ret (v := .tuple #[nodeV Nd.nil, .bool false]) (by simp [results, Try.results49, go_sem, J]) rfl ⟨rfl, ?_⟩
  repeat (with_reducible first | exact Jk.refl _ | apply Jk.junk | apply Jk.alloc)

set_option maxRecDepth 100000 in
set_option maxHeartbeats 1600000 in
theorem ru_other_no (x m s f l r p : Int) (w : World)
    (hd : x / 9223372036854775808 = 0) (hm : bits .and .u64 x 4294967295 = m) (km : wrap64 m = m)
    (h1 : bits .and .u64 (x / 4294967296) 15 = f) (k1 : wrap64 f = f) (h2 : bits .and .u64 (x / 1099511627776) 255 = l) (k2 : wrap64 l = l) (h3 : bits .and .u64 (x / 281474976710656) 255 = r) (k3 : wrap64 r = r)
    (HW : Hid (Ans 53 #[.int .i64 m, .int .i64 32] (.int .i64 s)))
    (HR : Hid (Ans 39 #[nodeV ⟨false, 0, f, s, l, r⟩] (.bool true)))
    (HP : Hid (Ans 22 #[nodeV ⟨false, 0, f, s, l, r⟩] (.int .u64 p))) (hp : (p == x) = false) :
    Calls Try.prog 49 #[.int .u64 x] w fun e w' => e = .returned (.tuple #[nodeV Nd.nil, .bool false]) ∧ Jk w w' := by
  have J := rules20
  go_enter Try.func49, Try.ntmps49
  go_wp2_with (first | (go_at_call 53; refine (HW.out.on _).mono ?_; rintro e w1 ⟨rfl, X1, rfl⟩) | (go_at_call 39; refine (HR.out.on _).mono ?_; rintro e w1 ⟨rfl, X2, rfl⟩) | (go_at_call 22; refine (HP.out.on _).mono ?_; rintro e w1 ⟨rfl, X3, rfl⟩))
  refine bodyPost_ret (v := .tuple #[nodeV Nd.nil, .bool false]) (by simp [results, Try.results49, go_sem, J]) rfl ⟨rfl, ?_⟩
  repeat (with_reducible first | exact Jk.refl _ | apply Jk.junk | apply Jk.alloc)

set_option maxRecDepth 100000 in
set_option maxHeartbeats 1600000 in
theorem ru_other_yes (x m s f l r p : Int) (w : World)
    (hd : x / 9223372036854775808 = 0) (hm : bits .and .u64 x 4294967295 = m) (km : wrap64 m = m)
    (h1 : bits .and .u64 (x / 4294967296) 15 = f) (k1 : wrap64 f = f) (h2 : bits .and .u64 (x / 1099511627776) 255 = l) (k2 : wrap64 l = l) (h3 : bits .and .u64 (x / 281474976710656) 255 = r) (k3 : wrap64 r = r)
    (HW : Hid (Ans 53 #[.int .i64 m, .int .i64 32] (.int .i64 s)))
    (HR : Hid (Ans 39 #[nodeV ⟨false, 0, f, s, l, r⟩] (.bool true)))
    (HP : Hid (Ans 22 #[nodeV ⟨false, 0, f, s, l, r⟩] (.int .u64 p))) (hp : (p == x) = true) :
    Calls Try.prog 49 #[.int .u64 x] w fun e w' => e = .returned (.tuple #[nodeV ⟨false, 0, f, s, l, r⟩, .bool true]) ∧ Jk w w' := by
  have J := rules20
  obtain rfl : p = x := by simpa using hp
  clear hp
  go_enter Try.func49, Try.ntmps49
  go_wp2_with (first | (go_at_call 53; refine (HW.out.on _).mono ?_; rintro e w1 ⟨rfl, X1, rfl⟩) | (go_at_call 39; refine (HR.out.on _).mono ?_; rintro e w1 ⟨rfl, X2, rfl⟩) | (go_at_call 22; refine (HP.out.on _).mono ?_; rintro e w1 ⟨rfl, X3, rfl⟩))
  refine bodyPost_ret (v := .tuple #[nodeV ⟨false, 0, f, s, l, r⟩, .bool true]) (by simp [results, Try.results49, go_sem, J]) rfl ⟨rfl, ?_⟩
  repeat (with_reducible first | exact Jk.refl _ | apply Jk.junk | apply Jk.alloc)

theorem and_low (x : Int) (p k : Nat) (q : Int) (hf : fieldB (p : Int) (k : Int) = true) (hq : lowI (k : Int) = q) (hx : 0 ≤ x) (hx2 : x ≤ 18446744073709551615) : bits .and .u64 (x / 2 ^ p) q = x / 2 ^ p % 2 ^ k := by
  subst hq
  have := get_val (a := (p : Int)) hx hx2 hf
  rw [M.get_at x p k hf hx] at this
  simpa using this
theorem runpack_ans (x : Int) (hx : 0 ≤ x) (hx2 : x ≤ 18446744073709551615) : Ans 49 #[.int .u64 x] (.tuple #[nodeV (unI x), .bool (unB x)]) := fun w => by
  have hm : bits .and .u64 x 4294967295 = x % 4294967296 := by simpa using and_low x 0 32 4294967295 (by decide) (by decide) hx hx2
  have km : wrap64 (x % 4294967296) = x % 4294967296 := IntWalk.wrap64_in _ ⟨by omega, by omega⟩
  have hs : sgI (x % 4294967296) = sgI x := by unfold sgI; rw [Int.emod_emod_of_dvd x (Int.dvd_refl 4294967296)]
  have HW : Hid (Ans 53 #[.int .i64 (x % 4294967296), .int .i64 32] (.int .i64 (sgI x))) := hs ▸ rwrap_ans
  have HU : unB x = ((readI x).rightB && ((readI x).pack == x)) := rfl
  have HI : unB x = true → unI x = readI x := fun h => by rw [unI, if_pos h]
  by_cases h : x / 9223372036854775808 % 2 = 1
  · have hd : x / 9223372036854775808 = 1 := by omega
    rw [read_leaf h] at HU HI
    cases hR : Nd.rightB ⟨true, sgI x, 0, 0, 0, 0⟩ with
    | false =>
      have hB : unB x = false := by rw [HU, hR]; rfl
      rw [un_no hB, hB]
      exact ru_leaf_wrong x _ _ w hd hm km HW (rright_is hR)
    | true =>
      cases hp : (Nd.pack ⟨true, sgI x, 0, 0, 0, 0⟩ == x) with
      | false =>
        have hB : unB x = false := by rw [HU, hR, hp]; rfl
        rw [un_no hB, hB]
        exact ru_leaf_no x _ _ _ w hd hm km HW (rright_is hR) (rpack_ans _) hp
      | true =>
        have hB : unB x = true := by rw [HU, hR, hp]; rfl
        rw [HI hB, hB]
        exact ru_leaf_yes x _ _ _ w hd hm km HW (rright_is hR) (rpack_ans _) hp
  · have hd : x / 9223372036854775808 = 0 := by omega
    have h1 : bits .and .u64 (x / 4294967296) 15 = x / 4294967296 % 16 := by simpa using and_low x 32 4 15 (by decide) (by decide) hx hx2
    have h2 : bits .and .u64 (x / 1099511627776) 255 = x / 1099511627776 % 256 := by simpa using and_low x 40 8 255 (by decide) (by decide) hx hx2
    have h3 : bits .and .u64 (x / 281474976710656) 255 = x / 281474976710656 % 256 := by simpa using and_low x 48 8 255 (by decide) (by decide) hx hx2
    have k1 : wrap64 (x / 4294967296 % 16) = x / 4294967296 % 16 := wrap64_low (by omega) (by omega)
    have k2 : wrap64 (x / 1099511627776 % 256) = x / 1099511627776 % 256 := wrap64_low (by omega) (by omega)
    have k3 : wrap64 (x / 281474976710656 % 256) = x / 281474976710656 % 256 := wrap64_low (by omega) (by omega)
    rw [read_other h] at HU HI
    generalize x / 4294967296 % 16 = f at *
    generalize x / 1099511627776 % 256 = l at *
    generalize x / 281474976710656 % 256 = r at *
    cases hR : Nd.rightB ⟨false, 0, f, sgI x, l, r⟩ with
    | false =>
      have hB : unB x = false := by rw [HU, hR]; rfl
      rw [un_no hB, hB]
      exact ru_other_wrong x _ _ f l r w hd hm km h1 k1 h2 k2 h3 k3 HW (rright_is hR)
    | true =>
      cases hp : (Nd.pack ⟨false, 0, f, sgI x, l, r⟩ == x) with
      | false =>
        have hB : unB x = false := by rw [HU, hR, hp]; rfl
        rw [un_no hB, hB]
        exact ru_other_no x _ _ f l r _ w hd hm km h1 k1 h2 k2 h3 k3 HW (rright_is hR) (rpack_ans _) hp
      | true =>
        have hB : unB x = true := by rw [HU, hR, hp]; rfl
        rw [HI hB, hB]
        exact ru_other_yes x _ _ f l r _ w hd hm km h1 k1 h2 k2 h3 k3 HW (rright_is hR) (rpack_ans _) hp

end Go.Proofs.Ytmfmiflifebflaa
