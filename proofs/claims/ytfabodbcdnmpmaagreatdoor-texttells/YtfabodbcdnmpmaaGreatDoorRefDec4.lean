/- What the document's own Scan answers, for every text of less than 2^40 bytes: the same as the code's; nothing that was there is written. -/
import Derived.Test.YtfabodbcdnmpmaaGreatDoorRefDec3
namespace Go.Proofs.YtfabodbcdnmpmaaGreatDoor
open Go.RowKit M

set_option maxRecDepth 100000 in
theorem rscan_any (l : Txt) (w : World) (hs : l.length < 1099511627776) :
    Calls Tryz.prog 17 #[.string ⟨l.toArray⟩] w fun e w' => e = .returned (.tuple #[.int .i64 (scanN l), .bool (scanB l)]) ∧ Below w.heap.size w w' := by
  have hc : Calls Tryz.prog 33 #[.string ⟨l.toArray⟩] w fun e w' => CandPost w (candL l) e w' := cands_any ⟨l.toArray⟩ w hs
  cases hr : candL l with
  | none =>
    have hn := cand_none hr
    rw [hn.1, hn.2]
    rw [hr] at hc
    clear hr hn
    go_enter Tryz.func17, Tryz.ntmps17
    go_wp2_with (go_at_call 33; refine hc.mono ?_; rintro e w' ⟨rfl, hw⟩; obtain rfl := hw.symm)
    go_loopg [9] 0 (fun k iv wr => iv = .int .i64 0 ∧ wr = w)
    case atStart => exact ⟨rfl, rfl⟩
    case round =>
      obtain ⟨rfl, hw⟩ := hrel
      obtain rfl := hw.symm
      go_wp2
      go_ret2
      exact ⟨rfl, Below.refl _ _⟩
  | some n =>
    obtain ⟨n1, n2⟩ := cand_bd hr
    have hp := fun w' => rprint_any n w' n1 n2
    have HA : Hid ((printL n = l → scanN l = n ∧ scanB l = true) ∧ (¬ printL n = l → scanN l = 0 ∧ scanB l = false)) := ⟨fun h => cand_hit hr h, fun h => cand_miss hr h⟩
    rw [hr] at hc
    clear hr
    go_enter Tryz.func17, Tryz.ntmps17
    go_wp2_with (go_at_call 33; refine hc.mono ?_; rintro e w1 ⟨g, rfl, hcell, b1⟩)
    go_loopg [9] 1 (fun k iv wr => (k = 1 ∧ iv = .int .i64 0 ∧ wr = w1) ∨ (k = 0 ∧ iv = .int .i64 1 ∧ ¬ printL n = l ∧ Below w.heap.size w wr))
    case atStart => exact .inl ⟨rfl, rfl, rfl⟩
    case round =>
      rcases hrel with ⟨rfl, rfl, hw⟩ | ⟨rfl, rfl, hne, hb⟩
      · obtain rfl := hw.symm
        by_cases he : printL n = l
        · rw [he] at hp
          have HV := HA.out.1 he
          go_wp2_with (go_at_call 26; refine (hp _).mono ?_; rintro e w2 ⟨rfl, b2⟩)
          go_ret2
          exact ⟨ret_two HV.1.symm HV.2.symm, below_on b1 b2⟩
        · have he' : (printL n == l) = false := by simpa using he
          go_wp2_with (go_at_call 26; refine (hp _).mono ?_; rintro e w2 ⟨rfl, b2⟩)
          go_roundg 0
          case measure => omega
          case rel => exact .inr ⟨rfl, by go_num, he, below_on b1 b2⟩
      · have HV := HA.out.2 hne
        go_wp2
        go_ret2
        exact ⟨ret_two HV.1.symm HV.2.symm, hb⟩

end Go.Proofs.YtfabodbcdnmpmaaGreatDoor
