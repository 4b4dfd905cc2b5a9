/- Plain mathematics of chapter 9: the text of the chapter's run. No program is spoken of here. -/
import Derived.Test.YtfabodbcdnmpmaaGreatDoorMathX
import Derived.Test.YtfabodbcdnmpmaaGreatDoorThree
namespace Go.Proofs.YtfabodbcdnmpmaaGreatDoor.M

theorem print_small (u : Nat) (h : u / 256 < 10) : printL (u : Int) = UInt8.ofNat (48 + u / 256) :: tailD (u % 256) := by
  unfold printL printU
  rw [if_neg (by omega), Int.natAbs_natCast, Lib.decDigits_one h]
  rfl
theorem dg_small (u : Nat) (h : u < 10) : dg (u : Int) = [UInt8.ofNat (48 + u)] := by
  unfold dg
  rw [Int.toNat_natCast, Lib.decDigits_one h]
def runP : Pm := ⟨1, 1, 3, 0, 0, [⟨0, threeW 5 10 20⟩]⟩
def runS : Txt := [102, 111, 114, 101, 115, 116, 32, 49, 32, 49, 10, 98, 105, 97, 115, 32, 48, 46, 48, 49, 49, 55, 49, 56, 55, 53, 10, 116, 114, 101, 101, 32, 48, 32, 51, 10, 105, 102, 32, 48, 32, 60, 61, 32, 48, 46, 48, 49, 57, 53, 51, 49, 50, 53, 32, 116, 104, 101, 110, 32, 49, 32, 101, 108, 115, 101, 32, 50, 10, 108, 101, 97, 102, 32, 48, 46, 48, 51, 57, 48, 54, 50, 53, 10, 108, 101, 97, 102, 32, 48, 46, 48, 55, 56, 49, 50, 53, 10]
theorem run_right : RightP runP := by
  refine ⟨by decide, by decide, by decide, by decide, ⟨⟨by decide, by decide, by decide⟩, fun h => absurd h (by decide), fun _ => rfl, fun _ => rfl⟩, by decide, fun t ht => ?_⟩
  simp [runP] at ht
  subst ht
  exact ⟨by decide, by decide, three_tree (by decide) (by decide) (by decide) (by decide) (by decide) (by decide) (by decide) (by decide)⟩
theorem run_text : textM runP = runS := by
  have u1 : unI (Nd.pack ⟨false, 0, 0, 5, 1, 2⟩) = ⟨false, 0, 0, 5, 1, 2⟩ := (un_pack _).2.1 (by decide)
  have u2 : unI (Nd.pack (ndLeaf 10)) = ndLeaf 10 := (un_pack _).2.1 (by decide)
  have u3 : unI (Nd.pack (ndLeaf 20)) = ndLeaf 20 := (un_pack _).2.1 (by decide)
  have p3 := print_small 3 (by decide)
  have p5 := print_small 5 (by decide)
  have p10 := print_small 10 (by decide)
  have p20 := print_small 20 (by decide)
  have g0 := dg_small 0 (by decide)
  have g1 := dg_small 1 (by decide)
  have g2 := dg_small 2 (by decide)
  have g3 := dg_small 3 (by decide)
  have e : textM runP = kForest ++ (dg 1 ++ (32 :: (dg 1 ++ (kBias ++ ((32 :: printL 3) ++ (10 :: (kTree ++ (dg 0 ++ (32 :: (dg 3 ++ (10 :: (nodeT ⟨false, 0, 0, 5, 1, 2⟩ ++ (nodeT (ndLeaf 10) ++ (nodeT (ndLeaf 20))))))))))))))) := by
    have e1 : threeW 5 10 20 = [Nd.pack ⟨false, 0, 0, 5, 1, 2⟩, Nd.pack (ndLeaf 10), Nd.pack (ndLeaf 20)] := rfl
    unfold textM runP treesT treeT nodesT
    rw [e1]
    simp only [List.flatMap_cons, List.flatMap_nil, List.append_nil, u1, u2, u3]
    rfl
  have e2 : nodeT ⟨false, 0, 0, 5, 1, 2⟩ = kIf ++ (dg 0 ++ (kLe ++ (printL 5 ++ (kThen ++ (dg 1 ++ (kElse ++ (dg 2 ++ [10]))))))) := rfl
  have e3 : nodeT (ndLeaf 10) = kLeaf ++ (printL 10 ++ [10]) := rfl
  have e4 : nodeT (ndLeaf 20) = kLeaf ++ (printL 20 ++ [10]) := rfl
  rw [e, e2, e3, e4]
  rw [show printL 3 = _ from p3, show printL 5 = _ from p5, show printL 10 = _ from p10, show printL 20 = _ from p20, show dg 0 = _ from g0, show dg 1 = _ from g1, show dg 2 = _ from g2, show dg 3 = _ from g3]
  decide +kernel

end Go.Proofs.YtfabodbcdnmpmaaGreatDoor.M
