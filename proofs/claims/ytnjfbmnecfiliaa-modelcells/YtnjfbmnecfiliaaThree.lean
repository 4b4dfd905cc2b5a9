/- The nodes of a tree of one threshold (the statements' own 'three'). -/
import Derived.Test.YtnjfbmnecfiliaaRowsG
import Derived.Test.YtnjfbmnecfiliaaMathU
import Derived.Test.YtnjfbmnecfiliaaRefNode2
namespace Go.Proofs.Ytnjfbmnecfiliaa
open Go.RowKit M

def threeN (at_ a b : Int) : List Nd := [⟨false, 0, 0, at_, 1, 2⟩, ndLeaf a, ndLeaf b]
def threeW (at_ a b : Int) : List Int := (threeN at_ a b).map Nd.pack
theorem three_tree {at_ a b d : Int} (h1 : 0 ≤ at_) (h2 : at_ ≤ 9) (h3 : -3000 ≤ a) (h4 : a ≤ 3000) (h5 : -3000 ≤ b) (h6 : b ≤ 3000) (hd : 1 ≤ d) (hd4 : d ≤ 4) : TreeP (threeW at_ a b) d :=
  ((bush_one (v := 0) (by omega) (by omega) d).part (k := 0) (A := 0) (f := 0) (a := at_) (u := a) (v := b) (by decide) (by decide) rfl (by omega) (by omega) hd4 h1 h2 h3 h4 h5 h6 (by decide)).tree (by simp) (by simp)
/-- words of the call's own -/
def GotW (w : World) (ws : List Int) (e : Ending) (w' : World) : Prop :=
  ∃ g, e = .returned (.slice (some ⟨g, 0, none⟩) 3 3) ∧ IsW w' (some ⟨g, 0, none⟩) 3 3 ws ∧ w.heap.size ≤ g ∧ g < w'.heap.size ∧ Jk w w'

set_option maxRecDepth 100000 in
theorem three_any (at_ a b : Int) (w : World) : Calls Try.prog 9 #[.int .i64 at_, .int .i64 a, .int .i64 b] w fun e w' => GotW w (threeW at_ a b) e w' := by
  have J := rules8
  have H1 := hid (rpack_ans ⟨false, 0, 0, at_, 1, 2⟩)
  have H2 := hid (rpack_ans (ndLeaf a))
  have H3 := hid (rpack_ans (ndLeaf b))
  have HB : Hid (∀ i, i < 3 → 0 ≤ wd (threeW at_ a b) i ∧ wd (threeW at_ a b) i ≤ 18446744073709551615) := fun i hi => by
    have : i = 0 ∨ i = 1 ∨ i = 2 := by omega
    rcases this with rfl | rfl | rfl
    · exact Nd.pack_bd ⟨false, 0, 0, at_, 1, 2⟩
    · exact Nd.pack_bd (ndLeaf a)
    · exact Nd.pack_bd (ndLeaf b)
  obtain ⟨ws, hws⟩ : ∃ ws, threeW at_ a b = ws := ⟨_, rfl⟩
  have HE : Hid ([Nd.pack ⟨false, 0, 0, at_, 1, 2⟩, Nd.pack (ndLeaf a), Nd.pack (ndLeaf b)] = ws) := hws
  rw [hws] at HB ⊢
  obtain ⟨x, hx⟩ : ∃ x, Nd.pack ⟨false, 0, 0, at_, 1, 2⟩ = x := ⟨_, rfl⟩
  obtain ⟨y, hy⟩ : ∃ x, Nd.pack (ndLeaf a) = x := ⟨_, rfl⟩
  obtain ⟨z, hz⟩ : ∃ x, Nd.pack (ndLeaf b) = x := ⟨_, rfl⟩
  rw [hx] at H1 HE
  rw [hy] at H2 HE
  rw [hz] at H3 HE
  simp only [nodeV] at H1 H2 H3
  clear hx hy hz hws
  go_enter Try.func9, Try.ntmps9
  go_wp2_with (first | (go_at_call 23; refine (Ans.on (by with_reducible first | exact H1.out | exact H2.out | exact H3.out) _).mono ?_; rintro e w1 ⟨rfl, X1, rfl⟩))
  go_ret
  rename_i X1' X1''
  have hb : w.heap.size + Jn X1' + Jn X1'' + Jn X1 = (junk (junk (junk w X1') X1'') X1).heap.size := by simp only [junk_size]
  refine ⟨_, rfl, ⟨by rw [← HE.out]; rfl, by omega, by unfold maxLen; omega, HB.out, fun _ => ⟨_, 0, rfl, ?_, fun j hj => ?_⟩⟩, ?_, ?_, ?_⟩
  · rw [World.size_alloc, ← hb]; omega
  · rw [← HE.out] at hj ⊢
    simp at hj
    have : j = 0 ∨ j = 1 ∨ j = 2 := by omega
    rcases this with rfl | rfl | rfl
    · exact new_cells _ #[.int .u64 x, .int .u64 y, .int .u64 z] _ _ hb 0 _ rfl
    · exact new_cells _ #[.int .u64 x, .int .u64 y, .int .u64 z] _ _ hb 1 _ rfl
    · exact new_cells _ #[.int .u64 x, .int .u64 y, .int .u64 z] _ _ hb 2 _ rfl
  · omega
  · rw [World.size_alloc, ← hb]; omega
  · repeat (with_reducible first | exact Jk.refl _ | apply Jk.junk | apply Jk.alloc)

end Go.Proofs.Ytnjfbmnecfiliaa
