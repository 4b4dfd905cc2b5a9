/- What unpackAll, namesTwo and side of package tree answer: the nodes of a row, if each word is one. -/
import Derived.Test.YtnjfbmnecfiliaaRowsT
import Derived.Deep.DeepCutAuto
namespace Go.Proofs.Ytnjfbmnecfiliaa
open Go.RowKit M

def nodesTo (ws : List Int) (j : Nat) : List Nd := (List.range j).map (ndA ws)
theorem nodesTo_succ (ws : List Int) (j : Nat) : nodesTo ws (j + 1) = nodesTo ws j ++ [ndA ws j] := by simp [nodesTo, List.range_succ]
theorem nodesTo_length (ws : List Int) (j : Nat) : (nodesTo ws j).length = j := by simp [nodesTo]
theorem nodesTo_at (ws : List Int) (n i : Nat) (h : i < n) : nA (nodesTo ws n) i = ndA ws i := by simp [nA, nodesTo, h]

/-- 1 to 31 words, each of them a node -/
def AllP (ws : List Int) : Prop := 1 ≤ ws.length ∧ ws.length ≤ 31 ∧ ∀ i, i < ws.length → unB (wd ws i) = true

/-- nodes of a row of the call's own, and true; or none, and false -/
def GotN (w : World) (n : Nat) (L : List Nd) (b : Bool) (e : Ending) (w' : World) : Prop :=
  ∃ v, e = .returned (.tuple #[v, .bool b]) ∧ (b = true → ∃ g c', v = .slice (some ⟨g, 0, none⟩) n c' ∧ OwnN w.heap.size w' v n L) ∧ (b = false → v = .slice none 0 0) ∧ Jk w w'

set_option maxRecDepth 100000 in
set_option maxHeartbeats 1600000 in
theorem unpackAll_any (a : Option Addr) (n c : Nat) (ws : List Int) (b : Bool) (w : World) (hw : IsW w a n c ws) (hb : b = true ↔ AllP ws) :
    Calls Try.prog 68 #[.slice a n c] w fun e w' => GotN w n (nodesTo ws n) b e w' := by
  have J := rules8
  have hm := hw.max
  unfold maxLen at hm
  have hcap := hw.cap
  by_cases h1 : n < 1
  · have : b = false := by
      cases b
      · rfl
      · have := (hb.1 rfl).1; have := hw.len; omega
    subst this
    have : n = 0 := by omega
    subst this
    clear hw hb
    go_enter Try.func68, Try.ntmps68
    go_wp2
    refine bodyPost_ret (v := .tuple #[.slice none 0 0, .bool false]) (by simp [results, Try.results68, go_sem]) rfl ⟨_, rfl, fun h => Bool.noConfusion h, fun _ => rfl, Jk.refl _⟩
  · by_cases h2 : 31 < n
    · have : b = false := by
        cases b
        · rfl
        · have := (hb.1 rfl).2.1; have := hw.len; omega
      subst this
      clear hw hb
      go_enter Try.func68, Try.ntmps68
      go_wp2
      refine bodyPost_ret (v := .tuple #[.slice none 0 0, .bool false]) (by simp [results, Try.results68, go_sem]) rfl ⟨_, rfl, fun h => Bool.noConfusion h, fun _ => rfl, Jk.refl _⟩
    · obtain ⟨g, o, rfl, hg, hat⟩ := hw.lies (by omega)
      have HA : Hid (AtK .u64 w g o ws) := hat
      have HL : Hid (ws.length = n) := hw.len
      have HBD : Hid (∀ i, i < n → 0 ≤ wd ws i ∧ wd ws i ≤ 18446744073709551615) := hw.bd
      have HB : Hid (b = true ↔ AllP ws) := hb
      clear hat hw hb
      obtain ⟨i0, hi, hz0, hz1, hz2⟩ := info_parts infoN
      obtain ⟨w0, hmk, hown0, hg0⟩ := run_make_own (P := Try.prog) w w.heap.size 71 49 i0 (nodeV Nd.nil) 6 Try.underlying71 hi hz0 hz1 .i64 .i64 n (by rw [hz2]; omega) (by unfold maxLen; omega) (Nat.le_refl _)
      have HO : Hid (OwnN w.heap.size w0 (.slice (some ⟨w.heap.size, 0, none⟩) 0 n) 0 (nodesTo ws 0)) := ⟨rfl, hown0⟩
      have HJ : Hid (Jk w w0) := (Jk.refl w).grown hg0 (by simp)
      clear hown0 hg0 hz0 hz1 hz2 hi
      have n0 : ¬ (n : Int) < 1 := by omega
      have n1 : ¬ (31 : Int) < (n : Int) := by omega
      go_enter Try.func68, Try.ntmps68
      go_wp2
      go_loopg [4, 22] n (fun k v i wr => ∃ j : Nat, j + k = n ∧ i = .int .i64 (j : Int) ∧ ∃ g' c', v = .slice (some ⟨g', 0, none⟩) j c' ∧ OwnN w.heap.size wr v j (nodesTo ws j) ∧ Jk w wr ∧ ∀ q, q < j → unB (wd ws q) = true)
      case atStart => exact ⟨0, by omega, rfl, _, _, rfl, HO.out, HJ.out, fun q hq => by omega⟩
      case round =>
        obtain ⟨j, hj, rfl, g', c', rfl, hO, hJ, hall⟩ := hrel
        have HO' := hid hO
        have HJ' := hid hJ
        have HAll := hid hall
        clear hO hJ hall HO HJ
        by_cases hlt : j < n
        · have i0 : (0 : Int) ≤ (j : Int) := by omega
          have i1 : (j : Int) < (n : Int) := by omega
          have e1 : wr.cell? ⟨g, o + j, none⟩ = some (.int .u64 (wd ws j)) := (HA.out.jk HJ'.out hg) j (by rw [HL.out]; exact hlt)
          obtain ⟨b1, b2⟩ := HBD.out j hlt
          have HU := hid (unpack_ans (wd ws j) b1 b2)
          have HN : Hid (unI (wd ws j) = ndA ws j) := rfl
          rw [HN.out] at HU
          clear b1 b2
          cases hu : unB (wd ws j)
          · rw [hu] at HU
            have hbf : b = false := by
              cases b
              · rfl
              · have := (HB.out.1 rfl).2.2 j (by rw [HL.out]; exact hlt)
                rw [hu] at this
                cases this
            subst hbf
            go_wp2_with (first | (go_at_call 20; refine (HU.out.on _).mono ?_; rintro e w1 ⟨rfl, X1, rfl⟩))
            refine bodyPost_ret (v := .tuple #[.slice none 0 0, .bool false]) (by simp [results, Try.results68, go_sem]) rfl ⟨_, rfl, fun h => Bool.noConfusion h, fun _ => rfl, ?_⟩
            exact (HJ'.out.junk _).alloc _
          · rw [hu] at HU
            go_wp2_with (first | (go_at_call 20; refine (HU.out.on _).mono ?_; rintro e w1 ⟨rfl, X1, rfl⟩) | (at_builtin; refine list_appN rfl _ _ rfl (HO'.out.jk ((((Jk.refl wr).junk X1).alloc _).alloc _)) ((HJ'.out.junk X1).alloc _ |>.alloc _).below.size rfl _ 1 _ [ndA ws j] rfl (by decide) rfl (new_cells _ _ _ _ (by rw [World.size_alloc, junk_size])) (by omega) ?_; intro g2 c2 w2 hO2 hG2; have HO2 := hid hO2; have HG2 := hid hG2; clear hO2 hG2))
            go_roundg (gk - 1)
            case measure => omega
            case rel =>
              refine ⟨j + 1, by omega, by go_num, g2, c2, rfl, by rw [nodesTo_succ]; exact HO2.out, ((HJ'.out.junk X1).alloc _ |>.alloc _).grown HG2.out HO'.out.base, fun q hq => ?_⟩
              by_cases e : q = j
              · subst e; exact hu
              · exact HAll.out q (by omega)
        · have e : j = n := by omega
          subst e
          have hbt : b = true := HB.out.2 ⟨by rw [HL.out]; omega, by rw [HL.out]; omega, fun i hi => HAll.out i (by rw [HL.out] at hi; exact hi)⟩
          subst hbt
          go_wp2
          refine bodyPost_ret (v := .tuple #[.slice (some ⟨g', 0, none⟩) j c', .bool true]) (by simp [results, Try.results68, go_sem]) rfl ⟨_, rfl, fun _ => ⟨g', c', rfl, HO'.out⟩, fun h => (Bool.noConfusion h), HJ'.out⟩

end Go.Proofs.Ytnjfbmnecfiliaa
