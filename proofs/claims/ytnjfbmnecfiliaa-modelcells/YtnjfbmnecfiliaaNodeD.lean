/- What read and Unpack of package node answer, for every word: the right node that Pack makes it of, or none. -/
import Derived.Test.YtnjfbmnecfiliaaNodeC
namespace Go.Proofs.Ytnjfbmnecfiliaa
open Go.RowKit M

theorem wrap64_low {x : Int} (h0 : 0 ≤ x) (h : x ≤ 255) : wrap64 x = x := IntWalk.wrap64_in _ ⟨by omega, by omega⟩

set_option maxRecDepth 100000 in
set_option maxHeartbeats 1600000 in
theorem read_ans (x : Int) (hx : 0 ≤ x) (hx2 : x ≤ 18446744073709551615) : Ans 36 #[.int .u64 x] (nodeV (readI x)) := fun w => by
  have J := rules8
  obtain ⟨s, hs⟩ : ∃ s, sgI x = s := ⟨_, rfl⟩
  have HS : Hid (Ans 29 #[.int .u64 x, .int .i64 0, .int .i64 32] (.int .i64 s)) := hs ▸ signed_ans hx hx2
  by_cases h : x / 9223372036854775808 % 2 = 1
  · have HL : Hid (Ans 43 #[.int .u64 x, .int .i64 63, .int .i64 1] (.int .u64 1)) := get_ans hx hx2 (by rw [get_leaf x hx, h])
    rw [read_leaf h, hs]
    clear hs h
    go_enter Try.func36, Try.ntmps36
    go_wp2_with (first | (go_at_call 29; refine (HS.out.on _).mono ?_; rintro e w1 ⟨rfl, X1, rfl⟩) | (go_at_call 43; refine (HL.out.on _).mono ?_; rintro e w1 ⟨rfl, X2, rfl⟩))
    refine bodyPost_ret (v := nodeV ⟨true, s, 0, 0, 0, 0⟩) (by simp [results, Try.results36, go_sem, J]) rfl ⟨rfl, ?_⟩
    repeat (with_reducible first | exact Jk.refl _ | apply Jk.junk | apply Jk.alloc)
  · have h0 : x / 9223372036854775808 % 2 = 0 := by omega
    have HL : Hid (Ans 43 #[.int .u64 x, .int .i64 63, .int .i64 1] (.int .u64 0)) := get_ans hx hx2 (by rw [get_leaf x hx, h0])
    obtain ⟨f, hf⟩ : ∃ f, x / 4294967296 % 16 = f := ⟨_, rfl⟩
    obtain ⟨l, hl⟩ : ∃ l, x / 1099511627776 % 256 = l := ⟨_, rfl⟩
    obtain ⟨r, hr⟩ : ∃ r, x / 281474976710656 % 256 = r := ⟨_, rfl⟩
    have H1 : Hid (Ans 43 #[.int .u64 x, .int .i64 32, .int .i64 4] (.int .u64 f)) := get_ans hx hx2 (by rw [get_feature x hx, hf])
    have H2 : Hid (Ans 43 #[.int .u64 x, .int .i64 40, .int .i64 8] (.int .u64 l)) := get_ans hx hx2 (by rw [get_left x hx, hl])
    have H3 : Hid (Ans 43 #[.int .u64 x, .int .i64 48, .int .i64 8] (.int .u64 r)) := get_ans hx hx2 (by rw [get_right x hx, hr])
    have k1 : wrap64 f = f := wrap64_low (by omega) (by omega)
    have k2 : wrap64 l = l := wrap64_low (by omega) (by omega)
    have k3 : wrap64 r = r := wrap64_low (by omega) (by omega)
    rw [read_other h, hs, hf, hl, hr]
    clear hs h h0 hf hl hr
    go_enter Try.func36, Try.ntmps36
    go_wp2_with (first | (go_at_call 29; refine (HS.out.on _).mono ?_; rintro e w1 ⟨rfl, X1, rfl⟩) | (go_at_call 43; refine (Ans.on (by with_reducible first | exact HL.out | exact H1.out | exact H2.out | exact H3.out) _).mono ?_; rintro e w1 ⟨rfl, X2, rfl⟩))
    refine bodyPost_ret (v := nodeV ⟨false, 0, f, s, l, r⟩) (by simp [results, Try.results36, go_sem, J]) rfl ⟨rfl, ?_⟩
    repeat (with_reducible first | exact Jk.refl _ | apply Jk.junk | apply Jk.alloc)

set_option maxRecDepth 100000 in
set_option maxHeartbeats 1600000 in
theorem unpack_ans (x : Int) (hx : 0 ≤ x) (hx2 : x ≤ 18446744073709551615) : Ans 20 #[.int .u64 x] (.tuple #[nodeV (unI x), .bool (unB x)]) := fun w => by
  have J := rules20
  obtain ⟨⟨leaf, v, f, a, l, r⟩, hn⟩ : ∃ n, readI x = n := ⟨_, rfl⟩
  have HN : Hid (Ans 36 #[.int .u64 x] (nodeV ⟨leaf, v, f, a, l, r⟩)) := hn ▸ read_ans x hx hx2
  have HP : Hid (Ans 38 #[nodeV ⟨leaf, v, f, a, l, r⟩] (.int .u64 (Nd.pack ⟨leaf, v, f, a, l, r⟩))) := pack_ans _
  have HR : Hid (Ans 37 #[nodeV ⟨leaf, v, f, a, l, r⟩] (.bool (Nd.rightB ⟨leaf, v, f, a, l, r⟩))) := right_ans _
  have HU : Hid (unB x = (Nd.rightB ⟨leaf, v, f, a, l, r⟩ && (Nd.pack ⟨leaf, v, f, a, l, r⟩ == x))) := by show unB x = _; rw [unB, hn]
  have HI : Hid (unB x = true → unI x = ⟨leaf, v, f, a, l, r⟩) := by
    show unB x = true → _
    intro h
    rw [unI, if_pos h, hn]
  have HZ : Hid (unB x = false → unI x = Nd.nil) := un_no
  clear hn
  generalize Nd.rightB ⟨leaf, v, f, a, l, r⟩ = R at HR HU
  generalize Nd.pack ⟨leaf, v, f, a, l, r⟩ = p at HP HU
  cases R
  · have hB : unB x = false := by rw [HU.out]; rfl
    rw [HZ.out hB, hB]
    clear HU HI HZ hB
    go_enter Try.func20, Try.ntmps20
    go_wp2_with (first | (go_at_call 36; refine (HN.out.on _).mono ?_; rintro e w1 ⟨rfl, X1, rfl⟩) | (go_at_call 37; refine (HR.out.on _).mono ?_; rintro e w1 ⟨rfl, X2, rfl⟩))
    refine bodyPost_ret (v := .tuple #[nodeV Nd.nil, .bool false]) (by simp [results, Try.results20, go_sem, J]) rfl ⟨rfl, ?_⟩
    repeat (with_reducible first | exact Jk.refl _ | apply Jk.junk | apply Jk.alloc)
  · by_cases hp : p = x
    · subst hp
      have hB : unB p = true := by rw [HU.out]; simp
      rw [HI.out hB, hB]
      clear HU HI HZ hB
      go_enter Try.func20, Try.ntmps20
      go_wp2_with (first | (go_at_call 36; refine (HN.out.on _).mono ?_; rintro e w1 ⟨rfl, X1, rfl⟩) | (go_at_call 37; refine (HR.out.on _).mono ?_; rintro e w1 ⟨rfl, X2, rfl⟩) | (go_at_call 38; refine (HP.out.on _).mono ?_; rintro e w1 ⟨rfl, X3, rfl⟩))
      refine bodyPost_ret (v := .tuple #[nodeV ⟨leaf, v, f, a, l, r⟩, .bool true]) (by simp [results, Try.results20, go_sem, J]) rfl ⟨rfl, ?_⟩
      repeat (with_reducible first | exact Jk.refl _ | apply Jk.junk | apply Jk.alloc)
    · have hp' : (p == x) = false := by simpa using hp
      have hB : unB x = false := by rw [HU.out, hp']; rfl
      rw [HZ.out hB, hB]
      clear HU HI HZ hB
      go_enter Try.func20, Try.ntmps20
      go_wp2_with (first | (go_at_call 36; refine (HN.out.on _).mono ?_; rintro e w1 ⟨rfl, X1, rfl⟩) | (go_at_call 37; refine (HR.out.on _).mono ?_; rintro e w1 ⟨rfl, X2, rfl⟩) | (go_at_call 38; refine (HP.out.on _).mono ?_; rintro e w1 ⟨rfl, X3, rfl⟩))
      refine bodyPost_ret (v := .tuple #[nodeV Nd.nil, .bool false]) (by simp [results, Try.results20, go_sem, J]) rfl ⟨rfl, ?_⟩
      repeat (with_reducible first | exact Jk.refl _ | apply Jk.junk | apply Jk.alloc)

/-! the contracts once more, the node's numbers spelt out -/
theorem right_raw (b : Bool) (v f a l r : Int) : Ans 37 #[.agg #[.bool b, .int .i64 v, .int .i64 f, .int .i64 a, .int .i64 l, .int .i64 r]] (.bool (Nd.rightB ⟨b, v, f, a, l, r⟩)) := right_ans ⟨b, v, f, a, l, r⟩
theorem pack_raw (b : Bool) (v f a l r : Int) : Ans 38 #[.agg #[.bool b, .int .i64 v, .int .i64 f, .int .i64 a, .int .i64 l, .int .i64 r]] (.int .u64 (Nd.pack ⟨b, v, f, a, l, r⟩)) := pack_ans ⟨b, v, f, a, l, r⟩

end Go.Proofs.Ytnjfbmnecfiliaa
