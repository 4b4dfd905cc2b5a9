/- What Leaves and Depth of package tree answer. -/
import Derived.Test.YtdhmibjokacfpaaTreeB
namespace Go.Proofs.Ytdhmibjokacfpaa
open Go.RowKit M

/-- a row of ints of the call's own -/
def GotI (w : World) (zs : List Int) (e : Ending) (w' : World) : Prop := ∃ v m, e = .returned v ∧ OwnI w.heap.size w' v m zs ∧ Jk w w'
theorem row_mono {w : World} {B B' : Nat} {e : TypeId} {size : Nat} {v : Value} {n : Nat} {xs : List Value} (h : w.ownsRow B e size v n xs) (hb : B' ≤ B) : w.ownsRow B' e size v n xs := by
  refine ⟨h.1, ?_⟩
  rcases h.2 with h | ⟨g, cap, cur, h1, h2, h3⟩
  · exact .inl h
  · exact .inr ⟨g, cap, cur, h1, by omega, h3⟩

set_option maxRecDepth 100000 in
set_option maxHeartbeats 1600000 in
theorem leaves_yes {a : Option Addr} {n c : Nat} {ws : List Int} {w : World} (hw : IsW w a n c ws) (ht : TreeP ws 4) :
    Calls Try.prog 12 #[.slice a n c] w fun e w' => GotI w (lvs (ndA ws) n) e w' := by
  have J := rules8
  have n2 : n ≤ 31 := by rw [← hw.len]; exact ht.few
  have HT := hid (unpackTree_any a n c ws 4 true w hw (by simp [ht]))
  clear hw ht
  go_enter Try.func12, Try.ntmps12
  go_wp2_with (first | (go_at_call 25; refine HT.out.mono ?_; rintro e w1 ⟨v, rfl, hv, _, hj⟩; obtain ⟨g, c', rfl, hO⟩ := hv rfl; have HO := hid hO; have HJ := hid hj; clear hO hj hv))
  have hgl : w.heap.size ≤ g ∧ g < w1.heap.size := World.ownsRow.lt HO.out.2 g rfl
  obtain ⟨h, hh⟩ : ∃ h, w1.heap.size = h := ⟨_, rfl⟩
  rw [hh] at hgl
  have HH : Hid (h ≤ w1.heap.size) := Nat.le_of_eq hh.symm
  clear hh HT
  go_loopg [5, 17] n (fun k v i wr => ∃ j m : Nat, j + k = n ∧ i = .int .i64 (j : Int) ∧ OwnI h wr v m (lvs (ndA ws) j) ∧ OwnN w.heap.size wr (.slice (some ⟨g, 0, none⟩) n c') n (nodesTo ws n) ∧ Jk w wr ∧ h ≤ wr.heap.size)
  case atStart => exact ⟨0, 0, by omega, rfl, ⟨rfl, World.ownsRow_nil _ _ _ _⟩, HO.out, HJ.out, HH.out⟩
  case round =>
    obtain ⟨j, m, hj, rfl, hI, hO, hJ, hhs⟩ := hrel
    have HI' := hid hI
    have HO' := hid hO
    have HJ' := hid hJ
    clear hI hO hJ HO HJ HH
    by_cases hlt : j < n
    · have i0 : (0 : Int) ≤ (j : Int) := by omega
      have i1 : (j : Int) < (n : Int) := by omega
      have hcs := HO'.out.cells hlt
      rw [nodesTo_at ws n j hlt] at hcs
      have hgs : g < wr.heap.size := by omega
      have hml : m = (lvs (ndA ws) j).length := HI'.out.1.symm
      have hm := lvs_length_le (ndA ws) j
      rw [← hml] at hm
      clear hml
      have HLv : Hid (lvs (ndA ws) (j + 1) = if (ndA ws j).leaf = true then lvs (ndA ws) j ++ [(j : Int)] else lvs (ndA ws) j) := rfl
      obtain ⟨x, hx⟩ : ∃ x, ndA ws j = x := ⟨_, rfl⟩
      rw [hx] at hcs HLv
      obtain ⟨leaf, v, f, a', l, r⟩ := x
      clear hx
      obtain ⟨c0, c1, c2, c3, c4, c5⟩ := hcs
      cases leaf
      case false =>
        go_wp2
        go_roundg (gk - 1)
        case measure => omega
        case rel => exact ⟨j + 1, m, by omega, by go_num, by rw [HLv.out]; exact HI'.out.jk ((Jk.refl _).alloc _), HO'.out.jk ((Jk.refl _).alloc _), HJ'.out.alloc _, by rw [World.size_alloc]; omega⟩
      case true =>
        go_wp2_with (first | (at_builtin; refine list_appI rfl _ _ rfl (HI'.out.jk ((((Jk.refl wr)).alloc _).alloc _)) (by rw [World.size_alloc, World.size_alloc]; omega) rfl _ 0 1 _ [(j : Int)] rfl (by decide) rfl (fun q hq => new_cells _ #[.int .i64 (j : Int)] _ _ (by rw [World.size_alloc]) (0 + q) _ (by simp at hq; subst hq; rfl)) (by omega) ?_; intro g2 c2 w2 hI2 hG2; have HI2 := hid hI2; have HG2 := hid hG2; clear hI2 hG2))
        go_roundg (gk - 1)
        case measure => omega
        case rel =>
          refine ⟨j + 1, m + 1, by omega, by go_num, by rw [HLv.out]; exact HI2.out, (HO'.out.jk (((Jk.refl _).alloc _).alloc _)).kept HG2.out ?_, ((HJ'.out.alloc _).alloc _).grown HG2.out (fun k hk => Nat.le_trans (by omega) (HI'.out.base k hk)), ?_⟩
          · right
            intro e
            have := HI'.out.base g (by rw [← e]; rfl)
            omega
          · have := HG2.out.size
            rw [World.size_alloc, World.size_alloc] at this
            omega
    · have e : j = n := by omega
      subst e
      go_wp2
      have hBh : w.heap.size ≤ h := by omega
      go_ret
      exact ⟨_, m, rfl, ⟨HI'.out.1, row_mono HI'.out.2 hBh⟩, HJ'.out⟩

theorem leaves_no {a : Option Addr} {n c : Nat} {ws : List Int} {w : World} (hw : IsW w a n c ws) (ht : ¬ TreeP ws 4) : AnsW w 12 #[.slice a n c] (.slice none 0 0) := fun w1 hj => by
  have HT := hid (unpackTree_any a n c ws 4 false w1 (hw.jk hj) (by simp [ht]))
  clear hw ht
  go_enter Try.func12, Try.ntmps12
  go_wp2_with (first | (go_at_call 25; refine HT.out.mono ?_; rintro e w1 ⟨v, rfl, _, hv, hj⟩; obtain rfl := hv rfl; have HJ := hid hj; clear hj hv))
  go_ret
  exact ⟨rfl, HJ.out⟩
theorem depth_no {a : Option Addr} {n c : Nat} {ws : List Int} {w : World} (hw : IsW w a n c ws) (ht : ¬ TreeP ws 4) : AnsW w 13 #[.slice a n c] (.int .i64 0) := fun w1 hj => by
  have HT := hid (unpackTree_any a n c ws 4 false w1 (hw.jk hj) (by simp [ht]))
  clear hw ht
  go_enter Try.func13, Try.ntmps13
  go_wp2_with (first | (go_at_call 25; refine HT.out.mono ?_; rintro e w1 ⟨v, rfl, _, hv, hj⟩; obtain rfl := hv rfl; have HJ := hid hj; clear hj hv))
  go_ret
  exact ⟨rfl, HJ.out⟩

end Go.Proofs.Ytdhmibjokacfpaa
