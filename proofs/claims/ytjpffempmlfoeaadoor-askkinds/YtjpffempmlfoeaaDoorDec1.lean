/- Rows of bytes of the call's own in memory: what 'append' of one byte onto one leaves; what a conversion to a string reads. Plain facts on memory; no conditions on a program but that its type of bytes is laid out as one cell.
   What the small functions of package dec answer, for every argument: a number's size; the digit at a place; the whole part and the part that digits spell.
   The decimals of a part, appended to a text. -/
import Derived.Test.YtjpffempmlfoeaaDoorBase
import Derived.Test.YtjpffempmlfoeaaDoorMathD
import Derived.Deep.AppendLies
import Derived.Below
import Derived.OwnWalk
import Derived.Lib.UnsafeStr
import Derived.Lib.Slices
import Derived.Laws.Externs
import Derived.Deep.LoopGhost
namespace Go.Proofs.YtjpffempmlfoeaaDoor
open Go.RowKit M

/-- a row of bytes of the call's own: in a block from B on (or none, if it is nil) -/
def OwnB (B : Nat) (w : World) (v : Value) (xs : Txt) : Prop := w.ownsRow B 5 1 v xs.length (Lib.byteCells xs)
theorem infoByte : (Tryd.prog.info? 5).map (fun i => (i.zero, i.size, i.bytes)) = some (some (.int .u8 0), 1, 1) := by kernel_rfl
theorem OwnB.nil (B : Nat) (w : World) : OwnB B w (.slice none 0 0) [] := World.ownsRow_nil w B 5 1
theorem OwnB.alloc {B : Nat} {w : World} {v : Value} {xs : Txt} (h : OwnB B w v xs) (o : Obj) : OwnB B (w.alloc o) v xs := World.ownsRow.alloc h o
theorem OwnB.drew {B : Nat} {w : World} {v : Value} {xs : Txt} (h : OwnB B w v xs) : OwnB B w.drew v xs := h

theorem below_on {w w1 w2 : World} (h : Below w.heap.size w w1) (k : Below w1.heap.size w1 w2) : Below w.heap.size w w2 := h.trans (k.mono h.size)

/-- ONE BYTE APPENDED, in a plain region -/
theorem list_byte {ops : Array Oper} {rest : List Oper} {o : Oper} {act : Act} {Q : Exit → Act → World → Prop} {B : Nat} {w : World} {v : Value} {xs : Txt}
    (hgd : o.guard = none) (s x : Operand) (ho : o.op = .call { callee := .builtin .append, args := #[s, x], argTypes := #[46, 46] })
    (hown : OwnB B w v xs) (hB : B ≤ w.heap.size) (hs : act.eval s = v) (b cap : Nat) (X : Int) (c : UInt8) (hX : X = (c.toNat : Int)) (hxv : act.eval x = .slice (some ⟨b, 0, none⟩) 1 cap)
    (hb : w.heap[b]? = some (.cells #[.int .u8 X] 5 (0, 0))) (hl : xs.length ≤ 1000)
    (h : ∀ v' w', OwnB B w' v' (xs ++ [c]) → Below B w w' → B ≤ w'.heap.size → wpList Tryd.prog ops Q rest (act.put o.dst v') w') :
    wpList Tryd.prog ops Q (o :: rest) act w := by
  subst hX
  obtain ⟨i0, hi0, hz0, hz1, hz2⟩ := info_parts infoByte
  refine wpList_append_own w hgd s x 46 ho B 5 i0 _ 1 1 Tryd.underlying46 hi0 hz0 hz1 hz2 rfl (by omega) v xs.length _ hs hown ⟨b, 0, none⟩ 1 cap [.int .u8 (c.toNat : Int)] hxv rfl
    (World.news_of_block (cs := #[.int .u8 (c.toNat : Int)]) hb) (by simp [Value.oneCell']) (by unfold maxLen; omega) (by omega) hB ?_
  intro v' w' hown' hgrow _
  have hbel : Below B w w' := (Below.refl B w).grown hgrow hB (fun k hk => (World.ownsRow.lt hown k hk).1)
  refine h v' w' ?_ hbel (Nat.le_trans hB hbel.size)
  unfold OwnB
  rw [List.length_append, Lib.byteCells_append]
  exact hown'

end Go.Proofs.YtjpffempmlfoeaaDoor

namespace Go.Proofs.YtjpffempmlfoeaaDoor
open Go.RowKit M

theorem wrapU (x : Int) : IntKind.u64.wrap x = x % 18446744073709551616 := by
  simp [IntKind.wrap, IntKind.bits, IntKind.signed]
theorem size_any (n : Int) (w : World) (h1 : -9223372036854775808 ≤ n) (h2 : n ≤ 9223372036854775807) :
    Calls Tryd.prog 29 #[.int .i64 n] w fun e w' => e = .returned (.int .u64 (n.natAbs : Int)) ∧ w' = w := by
  by_cases h : n < 0
  · go_enter Tryd.func29, Tryd.ntmps29
    go_wp2
    go_ret
    exact ⟨ret_int (by rw [wrapU, wrapU]; omega), rfl⟩
  · go_enter Tryd.func29, Tryd.ntmps29
    go_wp2
    go_ret
    exact ⟨ret_int (by omega), rfl⟩

/-- the byte at a place -/
def byteAt (s : Txt) (i : Nat) : UInt8 := s.getD i 0
theorem getD_in (s : Txt) (i : Nat) (h : i < s.length) : s.getD i 0 = s[i] := by simp [List.getD, h]
theorem get_byte (s : ByteArray) (i : Nat) (h : i < s.size) : s[i] = byteAt s.data.toList i := by
  have h' : i < s.data.toList.length := by simpa using h
  unfold byteAt
  rw [getD_in _ _ h']
  rfl
theorem drop_byte (s : Txt) (i : Nat) (h : i < s.length) : s.drop i = byteAt s i :: s.drop (i + 1) := by
  unfold byteAt
  rw [getD_in _ _ h]
  exact List.drop_eq_getElem_cons h
theorem take_byte (s : Txt) (i : Nat) (h : i < s.length) : s.take (i + 1) = s.take i ++ [byteAt s i] := by
  unfold byteAt
  rw [getD_in _ _ h, List.take_succ_eq_append_getElem h]
theorem digit_any (s : ByteArray) (i : Nat) (w : World) (hi : i < s.size) :
    Calls Tryd.prog 70 #[.string s, .int .i64 (i : Int)] w fun e w' => e = .returned (.int .u64 (dv (byteAt s.data.toList i) : Int)) ∧ w' = w := by
  have hb := get_byte s i hi
  obtain ⟨c, hc⟩ : ∃ c, byteAt s.data.toList i = c := ⟨_, rfl⟩
  rw [hc] at hb ⊢
  clear hc
  have hlt := c.toNat_lt
  go_enter Tryd.func70, Tryd.ntmps70
  go_wp2
  go_ret
  exact ⟨ret_int (by unfold dv; omega), rfl⟩

theorem whole_any (s : ByteArray) (w : World) (hs : s.size ≤ 140737488355328) :
    Calls Tryd.prog 61 #[.string s] w fun e w' => e = .returned (.int .u64 (readW s.data.toList : Int)) ∧ w' = w := by
  have hl : s.data.toList.length = s.size := by simp
  go_enter Tryd.func61, Tryd.ntmps61
  go_wp2
  go_loopg [3, 7] s.size (fun k v i wr => ∃ j : Nat, j + k = s.size ∧ i = .int .i64 (j : Int) ∧ v = .int .u64 (readW (s.data.toList.take j) : Int) ∧ wr = w)
  case atStart => exact ⟨0, by omega, rfl, rfl, rfl⟩
  case round =>
    obtain ⟨j, hj, rfl, rfl, hw⟩ := hrel
    obtain rfl := hw.symm
    by_cases hlt : j < s.size
    · have HS : Hid (readW (s.data.toList.take (j + 1)) = (readW (s.data.toList.take j) * 10 + dv (byteAt s.data.toList j)) % 18446744073709551616) := by
        rw [take_byte _ _ (by omega), readW_snoc]; exact rfl
      obtain ⟨V, hV⟩ : ∃ V, readW (s.data.toList.take j) = V := ⟨_, rfl⟩
      have hV2 := readW_lt (s.data.toList.take j)
      rw [hV] at HS hV2 ⊢
      clear hV
      obtain ⟨d, hd⟩ : ∃ d, dv (byteAt s.data.toList j) = d := ⟨_, rfl⟩
      have hd2 := dv_lt (byteAt s.data.toList j)
      rw [hd] at HS hd2
      go_wp2_with (go_at_call 70; refine (digit_any s j _ hlt).mono ?_; rintro e w' ⟨rfl, rfl⟩; rw [hd])
      go_roundg (gk - 1)
      case measure => omega
      case rel => exact ⟨j + 1, by omega, by go_num, by rw [HS.out, wrapU, wrapU]; go_num, rfl⟩
    · have e : j = s.size := by omega
      subst e
      rw [List.take_of_length_le (by omega)]
      go_wp2
      go_ret
      exact ⟨rfl, rfl⟩

theorem part_any (s : ByteArray) (w : World) (hs : s.size ≤ 140737488355328) :
    Calls Tryd.prog 62 #[.string s] w fun e w' => e = .returned (.int .u64 (readP s.data.toList : Int)) ∧ w' = w := by
  have hl : s.data.toList.length = s.size := by simp
  go_enter Tryd.func62, Tryd.ntmps62
  go_wp2
  go_loopg [3, 4] s.size (fun k v i wr => k ≤ s.size ∧ i = .int .i64 ((k : Int) - 1) ∧ v = .int .u64 (readP (s.data.toList.drop k) : Int) ∧ wr = w)
  case atStart => exact ⟨by omega, rfl, by rw [List.drop_eq_nil_of_le (by omega)]; rfl, rfl⟩
  case round =>
    obtain ⟨hj, rfl, rfl, hw⟩ := hrel
    obtain rfl := hw.symm
    rcases gk with _ | j
    · simp only [List.drop_zero]
      go_wp2
      go_ret
      exact ⟨rfl, rfl⟩
    · have HS : Hid (readP (s.data.toList.drop j) = (dv (byteAt s.data.toList j) * 256 + readP (s.data.toList.drop (j + 1))) / 10) := by
        rw [drop_byte _ j (by omega)]; exact rfl
      obtain ⟨V, hV⟩ : ∃ V, readP (s.data.toList.drop (j + 1)) = V := ⟨_, rfl⟩
      have hV2 := readP_lt (s.data.toList.drop (j + 1))
      rw [hV] at HS hV2 ⊢
      clear hV
      obtain ⟨d, hd⟩ : ∃ d, dv (byteAt s.data.toList j) = d := ⟨_, rfl⟩
      have hd2 := dv_lt (byteAt s.data.toList j)
      rw [hd] at HS hd2
      have hlt : j < s.size := by omega
      have ej : ((j + 1 : Nat) : Int) - 1 = (j : Int) := by omega
      rw [ej]
      go_wp2_with (go_at_call 70; refine (digit_any s j _ hlt).mono ?_; rintro e w' ⟨rfl, rfl⟩; rw [hd])
      go_roundg j
      case measure => omega
      case rel => exact ⟨by omega, by go_num, by rw [HS.out]; go_num, rfl⟩

end Go.Proofs.YtjpffempmlfoeaaDoor

namespace Go.Proofs.YtjpffempmlfoeaaDoor
open Go.RowKit M

theorem and255 (n : Nat) (h : n < 18446744073709551616) : bits .and .u64 (n : Int) 255 = ((n % 256 : Nat) : Int) := by
  have e : (255 : Int) = ((2 ^ 8 - 1 : Nat) : Int) := rfl
  rw [e, u64_and_nat n (2 ^ 8 - 1) h (by decide), Nat.and_two_pow_sub_one_eq_mod]

theorem decimals_any (B : Nat) (p0 : Nat) (hp : p0 < 256) (v : Value) (xs : Txt) (w : World) (hown : OwnB B w v xs) (hB : B ≤ w.heap.size) (hl : xs.length ≤ 100) :
    Calls Tryd.prog 31 #[v, .int .u64 (p0 : Int)] w fun e w' => ∃ v', e = .returned v' ∧ OwnB B w' v' (xs ++ decs p0) ∧ Below B w w' := by
  have hd8 := (decs_facts p0 hp).2.1
  go_enter Tryd.func31, Tryd.ntmps31
  go_wp2
  go_loopg [0, 1] (decs p0).length (fun k tv q wr => ∃ (t : Value) (ys : Txt) (p : Nat), tv = t ∧ p < 256 ∧ q = .int .u64 (p : Int) ∧ k = (decs p).length ∧ ys ++ decs p = xs ++ decs p0 ∧ OwnB B wr t ys ∧ Below B w wr)
  case atStart => exact ⟨v, xs, p0, rfl, hp, rfl, rfl, rfl, hown, Below.refl _ _⟩
  case round =>
    obtain ⟨t, ys, p, ht, hp1, rfl, hk, hys, hown1, hbel⟩ := hrel
    obtain rfl := ht.symm
    by_cases h0 : p = 0
    · subst h0
      rw [decs_zero, List.append_nil] at hys
      subst hys
      go_wp2
      go_ret
      exact ⟨_, rfl, hown1, hbel⟩
    · have hst := decs_step p hp1 h0
      have ea : bits .and .u64 ((p : Int) * 10) 255 = ((p * 10 % 256 : Nat) : Int) := and255 (p * 10) (by omega)
      have HP : Hid (p * 10 % 256 < 256) := Nat.mod_lt _ (by decide)
      have hB1 : B ≤ wr.heap.size := Nat.le_trans hB hbel.size
      have hlen : ys.length ≤ 1000 := by
        have := congrArg List.length hys
        simp at this
        omega
      obtain ⟨c, hc⟩ : ∃ c, UInt8.ofNat (48 + p * 10 / 256) = c := ⟨_, rfl⟩
      have HC : Hid (48 + p * 10 / 256 = c.toNat) := by
        rw [← hc, UInt8.toNat_ofNat']; show _ = _; omega
      obtain ⟨q, hq⟩ : ∃ q, p * 10 % 256 = q := ⟨_, rfl⟩
      rw [hq] at ea HP
      rw [hc, hq] at hst
      have HST : Hid (decs p = c :: decs q) := hst
      clear hc hq
      have HOWN : Hid (OwnB B wr t ys) := hown1
      have HBEL : Hid (Below B w wr) := hbel
      have HYS : Hid (ys ++ decs p = xs ++ decs p0) := hys
      have HK : Hid (gk = (decs p).length) := hk
      clear hst hown1 hbel hys hk hown hd8
      go_wp2_with (at_builtin; refine list_byte rfl _ _ rfl (HOWN.out.alloc _) (by simp; omega) rfl wr.heap.size 1 _ c ?hX rfl (heap_alloc_new _ _) hlen ?_)
      case hX => have := HC.out; omega
      intro v' w' hown2 hbel2 hB2
      go_wp2
      go_roundg (gk - 1)
      case measure => rw [HK.out, HST.out]; simp
      case rel =>
        refine ⟨v', ys ++ [c], q, rfl, HP.out, rfl, ?_, ?_, hown2, (HBEL.out.alloc hB1 _).trans hbel2⟩
        · rw [HK.out, HST.out]; simp
        · rw [← HYS.out, HST.out]; simp

end Go.Proofs.YtjpffempmlfoeaaDoor
