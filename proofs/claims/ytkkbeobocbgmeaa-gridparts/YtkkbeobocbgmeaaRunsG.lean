/- Chapter 12's runs in plain words: the cuts, the cells, what holds. No program's code is spoken of here. -/
import Derived.Test.YtkkbeobocbgmeaaGridM
import Derived.Test.YtkkbeobocbgmeaaRunsQ
namespace Go.Proofs.Ytkkbeobocbgmeaa
open Go.RowKit M

theorem thr_lone (x : Int) : thr [x] = [x] := by
  have h1 : (sortI [x]) = [x] := by simp [sortI]
  rw [thr, h1]
  simp [Lib.compact, Lib.compactUpTo, Lib.keeps, List.range_succ]
theorem runs_atsW : atsW (threeW 5 10 20) 0 3 = [5] := by decide +kernel
theorem runs_thr0 (a t : Option Addr) : thrM (runsM a t) 0 = [5] := by
  unfold thrM
  have e2 : atsT (runsM a t).ts 0 (runsM a t).ts.length = [5] := runs_atsW
  rw [e2, thr_lone]
theorem runs_thr (a t : Option Addr) {f : Int} (h : 1 ≤ f) : thrM (runsM a t) f = [] := thr_none (runs_right a t) (.inr h)
def runB : Bx := ⟨⟨0, 9⟩, ⟨0, 0⟩, ⟨0, 0⟩, ⟨0, 0⟩, ⟨0, 9⟩⟩
theorem start_down : startI downQ = runB := by
  simp only [startI, if_pos (show pairP downQ from ⟨rfl, Int.le_refl 0, by show (0 : Int) < 4; omega⟩)]
  rfl
theorem start_upB : startI upQ = runB := start_up
theorem runs_cuts0 (a t : Option Addr) (q : Qy) : cutsI (runsM a t) q runB 0 = [5] := by
  unfold cutsI
  rw [show featB q 0 = true from rfl, if_pos rfl, show featF q 0 = 0 from rfl, runs_thr0]
  rfl
theorem runs_cutsK (a t : Option Addr) (q : Qy) {k : Int} (h1 : 1 ≤ k) (h3 : k ≤ 3) : cutsI (runsM a t) q runB k = [] := by
  unfold cutsI
  split
  · unfold featF
    rw [if_neg (by omega), runs_thr a t h1]
    rfl
  · rfl
theorem runs_cuts4 (a t : Option Addr) {q : Qy} (hk : q.kd = 3) (hf : q.f = 0) : cutsI (runsM a t) q runB 4 = [5] := by
  unfold cutsI featB featF
  rw [if_pos rfl, if_pos rfl, hf, runs_thr0, hk]
  rfl
theorem runs_cnt (a t : Option Addr) {q : Qy} (hk : q.kd = 3) (hf : q.f = 0) : cntX (cutsI (runsM a t) q runB) = 4 := by
  unfold cntX
  rw [runs_cuts0, runs_cutsK a t q (by omega) (by omega), runs_cutsK a t q (by omega) (by omega), runs_cutsK a t q (by omega) (by omega), runs_cuts4 a t hk hf]
  rfl
theorem runs_sums (a t : Option Addr) (p : Int → Int) : (runsM a t).sum p 0 = if p 0 ≤ 5 then 13 else 23 := by
  split
  · rename_i h
    rw [← sum5 a t]
    refine sum_same (runs_right a t) (fun f hf u hu => ?_) 0
    have hf1 : (f : Int) < 1 := hf
    obtain rfl : f = 0 := by omega
    have hu2 : u ∈ thrM (runsM a t) 0 := hu
    rw [runs_thr0] at hu2
    obtain rfl : u = 5 := by simpa using hu2
    show p 0 ≤ 5 ↔ (5 : Int) ≤ 5
    omega
  · rename_i h
    rw [← sum6 a t]
    refine sum_same (runs_right a t) (fun f hf u hu => ?_) 0
    have hf1 : (f : Int) < 1 := hf
    obtain rfl : f = 0 := by omega
    have hu2 : u ∈ thrM (runsM a t) 0 := hu
    rw [runs_thr0] at hu2
    obtain rfl : u = 5 := by simpa using hu2
    show p 0 ≤ 5 ↔ (6 : Int) ≤ 5
    omega
theorem up_holds (a t : Option Addr) : CellsHold (runsM a t) upQ := by
  refine (holds_iff (start_full (up_right a t))).2 fun p u _ => ?_
  rintro ⟨_, ⟨h, _⟩ | ⟨h, _⟩ | ⟨_, h1, h⟩⟩
  · cases h
  · cases h
  · unfold turnP at h
    rcases h with ⟨h, _⟩ | ⟨_, h⟩
    · cases h
    · rw [show upQ.cl = 0 from rfl, runs_sums, runs_sums] at h
      have h1' : p 0 < u := h1
      have e : secondI upQ p u 0 = u := by
        rw [secondI_yes ⟨rfl, Int.le_refl 0, by show (0 : Int) < 4; omega⟩]
        rfl
      rw [e] at h
      split at h <;> split at h <;> omega
theorem down_not (a t : Option Addr) : ¬ CellsHold (runsM a t) downQ := fun h =>
  (holds_iff (start_full (down_right a t))).1 h (atP 5) 6 (by
    rw [start_down]
    simp only [HasX, runB, atP]
    refine ⟨⟨?_, ?_⟩, ⟨?_, ?_⟩, ⟨?_, ?_⟩, ⟨?_, ?_⟩, ?_, ?_⟩ <;> decide) (down_does a t)

end Go.Proofs.Ytkkbeobocbgmeaa
