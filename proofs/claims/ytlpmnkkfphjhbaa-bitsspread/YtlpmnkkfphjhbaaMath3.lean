/- Plain mathematics of BitsSpread: numbers put into fields that lie beside each other are all got again, in whatever order they are put. -/
import Derived.Test.YtlpmnkkfphjhbaaMath2
namespace Go.Proofs.Ytlpmnkkfphjhbaa.M
open Go.RowKit (wrap64)

def nth (l : List Int) (j : Nat) : Int := l.getD j 0
theorem nth_lt (l : List Int) (x : Int) (j : Nat) (h : j < l.length) : nth (l ++ [x]) j = nth l j := by
  simp [nth, List.getElem?_append_left h]
theorem nth_eq (l : List Int) (x : Int) (j : Nat) (h : j = l.length) : nth (l ++ [x]) j = x := by
  subst h; simp [nth]

structure Spread (ats wds vals : List Int) (sum : Int) : Prop where
  lw : wds.length = ats.length
  lv : vals.length = ats.length
  s0 : 0 ≤ sum
  s1 : sum ≤ 64
  each : ∀ j, j < ats.length → 0 ≤ nth ats j ∧ 1 ≤ nth wds j ∧ nth wds j ≤ 12 ∧ nth ats j + nth wds j ≤ sum ∧ wrapI (nth vals j) (nth wds j) = nth vals j
  asc : ∀ i j, i < j → j < ats.length → nth ats i + nth wds i ≤ nth ats j

theorem Spread.nil : Spread [] [] [] 0 := ⟨rfl, rfl, by omega, by omega, fun j h => by simp at h, fun i j _ h => by simp at h⟩

theorem wrapI_twice (n k : Int) : wrapI (wrapI n k) k = wrapI n k := by
  by_cases h : 1 ≤ k ∧ k < 64
  · rw [wrapI_in' _ k h.1 (by omega), wrapI_in' n k h.1 (by omega), Int.bmod_bmod]
  · rw [wrapI, if_neg h]

theorem Spread.snoc {ats wds vals : List Int} {sum w : Int} (h : Spread ats wds vals sum) (n : Int) (h1 : 1 ≤ w) (h2 : w ≤ 12) (h3 : sum + w ≤ 64) :
    Spread (ats ++ [sum]) (wds ++ [w]) (vals ++ [wrapI n w]) (sum + w) := by
  have hs0 := h.s0
  have lw := h.lw
  have lv := h.lv
  refine ⟨by simp [lw], by simp [lv], by omega, h3, ?_, ?_⟩
  · intro j hj
    simp only [List.length_append, List.length_cons, List.length_nil] at hj
    by_cases hlt : j < ats.length
    · rw [nth_lt _ _ _ hlt, nth_lt _ _ _ (by omega), nth_lt _ _ _ (by omega)]
      have := h.each j hlt
      exact ⟨this.1, this.2.1, this.2.2.1, by omega, this.2.2.2.2⟩
    · rw [nth_eq _ _ _ (by omega), nth_eq _ _ _ (by omega), nth_eq _ _ _ (by omega)]
      exact ⟨hs0, h1, h2, by omega, wrapI_twice n w⟩
  · intro i j hij hj
    simp only [List.length_append, List.length_cons, List.length_nil] at hj
    rw [nth_lt ats _ i (by omega), nth_lt wds _ i (by omega)]
    by_cases hlt : j < ats.length
    · rw [nth_lt _ _ _ hlt]; exact h.asc i j hij hlt
    · rw [nth_eq _ _ _ (by omega)]; exact (h.each i (by omega)).2.2.2.1

theorem Spread.field {ats wds vals : List Int} {sum : Int} (h : Spread ats wds vals sum) (j : Nat) (hj : j < ats.length) : fieldB (nth ats j) (nth wds j) = true := by
  have := h.each j hj
  have := h.s1
  exact (field_iff _ _).2 (by omega)

theorem u64_bd (v : Int) : 0 ≤ IntKind.u64.wrap v ∧ IntKind.u64.wrap v ≤ 18446744073709551615 := by
  rw [IntKind.wrap_u64]; omega

theorem signed_put (x v p k : Int) (h : fieldB p k = true) (hk : k ≤ 12) (hv : wrapI v k = v) : signedI (putI x p k (IntKind.u64.wrap v)) p k = v := by
  have hf := (field_iff p k).1 h
  have h0 : fieldB 0 k = true := (field_iff 0 k).2 (by omega)
  have hp := pow_pos' k.toNat
  have e : getI (IntKind.u64.wrap v) 0 k = v % 2 ^ k.toNat := by
    rw [getI_in _ h0, IntKind.wrap_u64]
    have h1 := Int.emod_nonneg v (show (18446744073709551616 : Int) ≠ 0 by decide)
    show (((v % 18446744073709551616).toNat / 2 ^ 0 % 2 ^ k.toNat : Nat) : Int) = _
    rw [Nat.pow_zero, Nat.div_one, Int.natCast_emod, Int.toNat_of_nonneg h1, cast_pow]
    apply Int.emod_emod_of_dvd
    rw [← cast_pow]
    have : (2 ^ k.toNat : Nat) ∣ 2 ^ 64 := Nat.pow_dvd_pow 2 (by omega)
    exact Int.natCast_dvd_natCast.2 this
  rw [signedI, get_put _ _ _ _ h, e]
  rw [wrapI_in' _ k (by omega) (by omega), wrap64_mod _ _ (by omega), ← cast_pow, Int.emod_bmod]
  rw [wrapI_in' _ k (by omega) (by omega)] at hv
  exact hv

theorem signed_other (x y p k q j : Int) (h : fieldB p k = true) (h' : fieldB q j = true) (hd : q + j ≤ p ∨ p + k ≤ q) : signedI (putI x p k y) q j = signedI x q j := by
  rw [signedI, signedI, get_other _ _ _ _ _ _ h h' hd]

structure Putted (ats wds vals : List Int) (sum word : Int) (D : Nat → Prop) : Prop where
  b0 : 0 ≤ word
  b1 : word ≤ 18446744073709551615
  got : ∀ m, m < ats.length → D m → signedI word (nth ats m) (nth wds m) = nth vals m
  rest : sum = 64 ∨ getI word sum (64 - sum) = 0

theorem Putted.start (ats wds vals : List Int) (sum : Int) (h0 : 0 ≤ sum) (h1 : sum ≤ 64) : Putted ats wds vals sum 0 (fun _ => False) := by
  refine ⟨by omega, by omega, fun _ _ h => h.elim, ?_⟩
  by_cases h : sum = 64
  · exact .inl h
  · right
    rw [getI_in _ ((field_iff _ _).2 (by omega))]
    simp [getN]

theorem Putted.mono {ats wds vals : List Int} {sum word : Int} {D D' : Nat → Prop} (h : Putted ats wds vals sum word D) (hd : ∀ m, m < ats.length → D' m → D m) : Putted ats wds vals sum word D' :=
  ⟨h.b0, h.b1, fun m hm hD => h.got m hm (hd m hm hD), h.rest⟩

theorem Putted.step {ats wds vals : List Int} {sum word : Int} {D : Nat → Prop} (hs : Spread ats wds vals sum) (h : Putted ats wds vals sum word D) (k : Nat) (hk : k < ats.length) :
    Putted ats wds vals sum (putI word (nth ats k) (nth wds k) (IntKind.u64.wrap (nth vals k))) (fun m => D m ∨ m = k) := by
  have hbd := putI_bd word (nth ats k) (nth wds k) (IntKind.u64.wrap (nth vals k)) h.b0 h.b1
  have hf := hs.field k hk
  have he := hs.each k hk
  refine ⟨hbd.1, hbd.2, ?_, ?_⟩
  · intro m hm hD
    by_cases e : m = k
    · subst e
      exact signed_put _ _ _ _ hf he.2.2.1 he.2.2.2.2
    · have hd : nth ats m + nth wds m ≤ nth ats k ∨ nth ats k + nth wds k ≤ nth ats m := by
        rcases Nat.lt_or_gt_of_ne e with hlt | hgt
        · exact .inl (hs.asc m k hlt hk)
        · exact .inr (hs.asc k m hgt hm)
      rw [signed_other _ _ _ _ _ _ hf (hs.field m hm) hd]
      rcases hD with hD | hD
      · exact h.got m hm hD
      · exact (e hD).elim
  · rcases h.rest with hr | hr
    · exact .inl hr
    · by_cases h64 : sum = 64
      · exact .inl h64
      · right
        have hs0 := hs.s0
        have hs1 := hs.s1
        rw [get_other _ _ _ _ _ _ hf ((field_iff _ _).2 (by omega)) (.inr he.2.2.2.1)]
        exact hr

end Go.Proofs.Ytlpmnkkfphjhbaa.M
