/- The queries of chapter 10's and 12's runs: what breaks them. No program's code is spoken of here.
   Chapter 12's runs in plain words: the cuts, the cells, what holds. No program's code is spoken of here. -/
import Derived.Test.YtkkbeobocbgmeaaGreatQueryE
import Derived.Test.YtkkbeobocbgmeaaGreatRunsM
import Derived.Test.YtkkbeobocbgmeaaGreatGridM
namespace Go.Proofs.YtkkbeobocbgmeaaGreat
open Go.RowKit M

/-- the queries of the runs -/
def upQ : Qy := ⟨3, 0, ⟨⟨0, 9⟩, ⟨0, 0⟩, ⟨0, 0⟩, ⟨0, 0⟩, ⟨0, 0⟩⟩, 0, 0, 0, false, 0⟩
def downQ : Qy := ⟨3, 0, ⟨⟨0, 9⟩, ⟨0, 0⟩, ⟨0, 0⟩, ⟨0, 0⟩, ⟨0, 0⟩⟩, 0, 0, 0, true, 0⟩
def inQ : Qy := ⟨1, 0, ⟨⟨0, 9⟩, ⟨0, 0⟩, ⟨0, 0⟩, ⟨0, 0⟩, ⟨0, 0⟩⟩, 0, 20, 0, false, 0⟩
def atP (x : Int) : Int → Int := fun i => if i = 0 then x else 0
theorem runs_region : spansR 1 ⟨⟨0, 9⟩, ⟨0, 0⟩, ⟨0, 0⟩, ⟨0, 0⟩, ⟨0, 0⟩⟩ := by
  have h : ∀ i : Int, 1 ≤ i → placeR 1 i ⟨0, 0⟩ := fun i hi => ⟨fun h => by omega, fun _ => ⟨rfl, rfl⟩⟩
  exact ⟨⟨fun _ => ⟨by show (0 : Int) ≤ 9; omega, by decide, by decide⟩, fun h => by omega⟩, h 1 (by omega), h 2 (by omega), h 3 (by omega), h 4 (by omega)⟩
theorem up_right (a t : Option Addr) : RightQ (runsM a t) upQ := ⟨runs_right a t, Int.le_refl 0, by show (0 : Int) < 1; omega, Int.le_refl 0, by show (0 : Int) ≤ 65536; omega, runs_region, .inr (.inr ⟨rfl, Int.le_refl 0, by show (0 : Int) < 1; omega, rfl, rfl⟩)⟩
theorem down_right (a t : Option Addr) : RightQ (runsM a t) downQ := ⟨runs_right a t, Int.le_refl 0, by show (0 : Int) < 1; omega, Int.le_refl 0, by show (0 : Int) ≤ 65536; omega, runs_region, .inr (.inr ⟨rfl, Int.le_refl 0, by show (0 : Int) < 1; omega, rfl, rfl⟩)⟩
theorem in_right (a t : Option Addr) : RightQ (runsM a t) inQ := ⟨runs_right a t, Int.le_refl 0, by show (0 : Int) < 1; omega, Int.le_refl 0, by show (0 : Int) ≤ 65536; omega, runs_region, .inl ⟨rfl, by show (0 : Int) ≤ 20; omega, rfl, rfl⟩⟩
theorem sum5 (a t : Option Addr) : (runsM a t).sum (atP 5) 0 = 13 := by
  rw [runs_sum, show atP 5 = (fun i => if i = 0 then 5 else 0) from rfl, runs_val5]; rfl
theorem sum6 (a t : Option Addr) : (runsM a t).sum (atP 6) 0 = 23 := by
  rw [runs_sum, show atP 6 = (fun i => if i = 0 then 6 else 0) from rfl, runs_val6]; rfl
theorem put5 : putP (atP 5) 0 6 = atP 6 := by
  funext i
  simp only [putP, atP]
  split <;> rfl
theorem sec_up : secondI upQ (atP 5) 6 = atP 6 := (secondI_yes ⟨rfl, Int.le_refl 0, by show (0 : Int) < 4; omega⟩).trans put5
theorem sec_down : secondI downQ (atP 5) 6 = atP 6 := (secondI_yes ⟨rfl, Int.le_refl 0, by show (0 : Int) < 4; omega⟩).trans put5
theorem up_not (a t : Option Addr) : ¬ BreaksP (runsM a t) upQ (atP 5) 6 := by
  rintro ⟨_, ⟨h, _⟩ | ⟨h, _⟩ | ⟨_, _, h⟩⟩
  · cases h
  · cases h
  · unfold turnP at h
    rw [sec_up] at h
    rw [show upQ.cl = 0 from rfl, sum5, sum6] at h
    rcases h with ⟨h, _⟩ | ⟨_, h⟩
    · cases h
    · omega
theorem down_does (a t : Option Addr) : BreaksP (runsM a t) downQ (atP 5) 6 := ⟨down_right a t, .inr (.inr ⟨rfl, by show (5 : Int) < 6; omega, .inl ⟨rfl, by rw [sec_down, show downQ.cl = 0 from rfl, sum5, sum6]; omega⟩⟩)⟩
theorem in_does (a t : Option Addr) : BreaksP (runsM a t) inQ (atP 6) 0 := ⟨in_right a t, .inl ⟨rfl, by rw [show inQ.cl = 0 from rfl, sum6, show inQ.hi = 20 from rfl]; omega⟩⟩
theorem start_up : startI upQ = ⟨⟨0, 9⟩, ⟨0, 0⟩, ⟨0, 0⟩, ⟨0, 0⟩, ⟨0, 9⟩⟩ := by
  simp only [startI, if_pos (show pairP upQ from ⟨rfl, Int.le_refl 0, by show (0 : Int) < 4; omega⟩)]
  rfl

end Go.Proofs.YtkkbeobocbgmeaaGreat

namespace Go.Proofs.YtkkbeobocbgmeaaGreat
open Go.RowKit M

theorem thr_lone (x : Int) : thr [x] = [x] := by
  have h1 : (sortI [x]) = [x] := by simp [sortI]
  rw [thr, h1]
  simp [Lib.compact, Lib.compactUpTo, Lib.keeps, List.range_succ]
theorem runs_atsW : atsW (threeW 5 10 20) 0 3 = [5] := by decide +kernel
theorem runs_thr0 (a t : Option Addr) : thrM (runsM a t) 0 = [5] := by
  unfold thrM
  have e2 : atsT (runsM a t).ts 0 (runsM a t).ts.length = [5] := runs_atsW
  rw [e2, thr_lone]
theorem runs_thr (a t : Option Addr) {f : Int} (h : 1 ≤ f) : thrM (runsM a t) f = [] := thr_none (runs_right a t) (.inr h)
def runB : Bx := ⟨⟨0, 9⟩, ⟨0, 0⟩, ⟨0, 0⟩, ⟨0, 0⟩, ⟨0, 9⟩⟩
theorem start_down : startI downQ = runB := by
  simp only [startI, if_pos (show pairP downQ from ⟨rfl, Int.le_refl 0, by show (0 : Int) < 4; omega⟩)]
  rfl
theorem start_upB : startI upQ = runB := start_up
theorem runs_cuts0 (a t : Option Addr) (q : Qy) : cutsI (runsM a t) q runB 0 = [5] := by
  unfold cutsI
  rw [show featB q 0 = true from rfl, if_pos rfl, show featF q 0 = 0 from rfl, runs_thr0]
  rfl
theorem runs_cutsK (a t : Option Addr) (q : Qy) {k : Int} (h1 : 1 ≤ k) (h3 : k ≤ 3) : cutsI (runsM a t) q runB k = [] := by
  unfold cutsI
  split
  · unfold featF
    rw [if_neg (by omega), runs_thr a t h1]
    rfl
  · rfl
theorem runs_cuts4 (a t : Option Addr) {q : Qy} (hk : q.kd = 3) (hf : q.f = 0) : cutsI (runsM a t) q runB 4 = [5] := by
  unfold cutsI featB featF
  rw [if_pos rfl, if_pos rfl, hf, runs_thr0, hk]
  rfl
theorem runs_cnt (a t : Option Addr) {q : Qy} (hk : q.kd = 3) (hf : q.f = 0) : cntX (cutsI (runsM a t) q runB) = 4 := by
  unfold cntX
  rw [runs_cuts0, runs_cutsK a t q (by omega) (by omega), runs_cutsK a t q (by omega) (by omega), runs_cutsK a t q (by omega) (by omega), runs_cuts4 a t hk hf]
  rfl
theorem runs_sums (a t : Option Addr) (p : Int → Int) : (runsM a t).sum p 0 = if p 0 ≤ 5 then 13 else 23 := by
  split
  · rename_i h
    rw [← sum5 a t]
    refine sum_same (runs_right a t) (fun f hf u hu => ?_) 0
    have hf1 : (f : Int) < 1 := hf
    obtain rfl : f = 0 := by omega
    have hu2 : u ∈ thrM (runsM a t) 0 := hu
    rw [runs_thr0] at hu2
    obtain rfl : u = 5 := by simpa using hu2
    show p 0 ≤ 5 ↔ (5 : Int) ≤ 5
    omega
  · rename_i h
    rw [← sum6 a t]
    refine sum_same (runs_right a t) (fun f hf u hu => ?_) 0
    have hf1 : (f : Int) < 1 := hf
    obtain rfl : f = 0 := by omega
    have hu2 : u ∈ thrM (runsM a t) 0 := hu
    rw [runs_thr0] at hu2
    obtain rfl : u = 5 := by simpa using hu2
    show p 0 ≤ 5 ↔ (6 : Int) ≤ 5
    omega
theorem up_holds (a t : Option Addr) : CellsHold (runsM a t) upQ := by
  refine (holds_iff (start_full (up_right a t))).2 fun p u _ => ?_
  rintro ⟨_, ⟨h, _⟩ | ⟨h, _⟩ | ⟨_, h1, h⟩⟩
  · cases h
  · cases h
  · unfold turnP at h
    rcases h with ⟨h, _⟩ | ⟨_, h⟩
    · cases h
    · rw [show upQ.cl = 0 from rfl, runs_sums, runs_sums] at h
      have h1' : p 0 < u := h1
      have e : secondI upQ p u 0 = u := by
        rw [secondI_yes ⟨rfl, Int.le_refl 0, by show (0 : Int) < 4; omega⟩]
        rfl
      rw [e] at h
      split at h <;> split at h <;> omega
theorem down_not (a t : Option Addr) : ¬ CellsHold (runsM a t) downQ := fun h =>
  (holds_iff (start_full (down_right a t))).1 h (atP 5) 6 (by
    rw [start_down]
    simp only [HasX, runB, atP]
    refine ⟨⟨?_, ?_⟩, ⟨?_, ?_⟩, ⟨?_, ?_⟩, ⟨?_, ?_⟩, ?_, ?_⟩ <;> decide) (down_does a t)

end Go.Proofs.YtkkbeobocbgmeaaGreat
