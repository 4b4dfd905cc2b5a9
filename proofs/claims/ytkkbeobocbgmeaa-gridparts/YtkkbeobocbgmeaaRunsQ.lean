/- The queries of chapter 10's and 12's runs: what breaks them. No program's code is spoken of here. -/
import Derived.Test.YtkkbeobocbgmeaaQueryE
import Derived.Test.YtkkbeobocbgmeaaRunsM
namespace Go.Proofs.Ytkkbeobocbgmeaa
open Go.RowKit M

/-- the queries of the runs -/
def upQ : Qy := ⟨3, 0, ⟨⟨0, 9⟩, ⟨0, 0⟩, ⟨0, 0⟩, ⟨0, 0⟩, ⟨0, 0⟩⟩, 0, 0, 0, false, 0⟩
def downQ : Qy := ⟨3, 0, ⟨⟨0, 9⟩, ⟨0, 0⟩, ⟨0, 0⟩, ⟨0, 0⟩, ⟨0, 0⟩⟩, 0, 0, 0, true, 0⟩
def inQ : Qy := ⟨1, 0, ⟨⟨0, 9⟩, ⟨0, 0⟩, ⟨0, 0⟩, ⟨0, 0⟩, ⟨0, 0⟩⟩, 0, 20, 0, false, 0⟩
def atP (x : Int) : Int → Int := fun i => if i = 0 then x else 0
theorem runs_region : spansR 1 ⟨⟨0, 9⟩, ⟨0, 0⟩, ⟨0, 0⟩, ⟨0, 0⟩, ⟨0, 0⟩⟩ := by
  have h : ∀ i : Int, 1 ≤ i → placeR 1 i ⟨0, 0⟩ := fun i hi => ⟨fun h => by omega, fun _ => ⟨rfl, rfl⟩⟩
  exact ⟨⟨fun _ => ⟨by show (0 : Int) ≤ 9; omega, by decide, by decide⟩, fun h => by omega⟩, h 1 (by omega), h 2 (by omega), h 3 (by omega), h 4 (by omega)⟩
theorem up_right (a t : Option Addr) : RightQ (runsM a t) upQ := ⟨runs_right a t, Int.le_refl 0, by show (0 : Int) < 1; omega, Int.le_refl 0, by show (0 : Int) ≤ 65536; omega, runs_region, .inr (.inr ⟨rfl, Int.le_refl 0, by show (0 : Int) < 1; omega, rfl, rfl⟩)⟩
theorem down_right (a t : Option Addr) : RightQ (runsM a t) downQ := ⟨runs_right a t, Int.le_refl 0, by show (0 : Int) < 1; omega, Int.le_refl 0, by show (0 : Int) ≤ 65536; omega, runs_region, .inr (.inr ⟨rfl, Int.le_refl 0, by show (0 : Int) < 1; omega, rfl, rfl⟩)⟩
theorem in_right (a t : Option Addr) : RightQ (runsM a t) inQ := ⟨runs_right a t, Int.le_refl 0, by show (0 : Int) < 1; omega, Int.le_refl 0, by show (0 : Int) ≤ 65536; omega, runs_region, .inl ⟨rfl, by show (0 : Int) ≤ 20; omega, rfl, rfl⟩⟩
theorem sum5 (a t : Option Addr) : (runsM a t).sum (atP 5) 0 = 13 := by
  rw [runs_sum, show atP 5 = (fun i => if i = 0 then 5 else 0) from rfl, runs_val5]; rfl
theorem sum6 (a t : Option Addr) : (runsM a t).sum (atP 6) 0 = 23 := by
  rw [runs_sum, show atP 6 = (fun i => if i = 0 then 6 else 0) from rfl, runs_val6]; rfl
theorem put5 : putP (atP 5) 0 6 = atP 6 := by
  funext i
  simp only [putP, atP]
  split <;> rfl
theorem sec_up : secondI upQ (atP 5) 6 = atP 6 := (secondI_yes ⟨rfl, Int.le_refl 0, by show (0 : Int) < 4; omega⟩).trans put5
theorem sec_down : secondI downQ (atP 5) 6 = atP 6 := (secondI_yes ⟨rfl, Int.le_refl 0, by show (0 : Int) < 4; omega⟩).trans put5
theorem up_not (a t : Option Addr) : ¬ BreaksP (runsM a t) upQ (atP 5) 6 := by
  rintro ⟨_, ⟨h, _⟩ | ⟨h, _⟩ | ⟨_, _, h⟩⟩
  · cases h
  · cases h
  · unfold turnP at h
    rw [sec_up] at h
    rw [show upQ.cl = 0 from rfl, sum5, sum6] at h
    rcases h with ⟨h, _⟩ | ⟨_, h⟩
    · cases h
    · omega
theorem down_does (a t : Option Addr) : BreaksP (runsM a t) downQ (atP 5) 6 := ⟨down_right a t, .inr (.inr ⟨rfl, by show (5 : Int) < 6; omega, .inl ⟨rfl, by rw [sec_down, show downQ.cl = 0 from rfl, sum5, sum6]; omega⟩⟩)⟩
theorem in_does (a t : Option Addr) : BreaksP (runsM a t) inQ (atP 6) 0 := ⟨in_right a t, .inl ⟨rfl, by rw [show inQ.cl = 0 from rfl, sum6, show inQ.hi = 20 from rfl]; omega⟩⟩
theorem start_up : startI upQ = ⟨⟨0, 9⟩, ⟨0, 0⟩, ⟨0, 0⟩, ⟨0, 0⟩, ⟨0, 9⟩⟩ := by
  simp only [startI, if_pos (show pairP upQ from ⟨rfl, Int.le_refl 0, by show (0 : Int) < 4; omega⟩)]
  rfl

end Go.Proofs.Ytkkbeobocbgmeaa
