/- What package ask answers of the queries that numbers make: their texts, and what is parsed of these. No conditions but what is written. -/
import Derived.Test.YtjpffempmlfoeaaDoorLawAskRuns
import Derived.Test.YtjpffempmlfoeaaDoorQueryM
namespace Go.Proofs.YtjpffempmlfoeaaDoor
open Go.RowKit M

theorem parse_print {q : Qy} {d : Int} (h : TellsQ q d) (ho : q.ok) : parseF (printQ q d) = (q, d, true) := by
  have hb := print_back h ho
  have hn : printQ q d ≠ [] := printQ_ne.2 h
  unfold parseF
  rw [hb.1, hb.2, if_neg (fun e => e.elim hn fun e => e rfl)]
theorem print_short {q : Qy} {d : Int} (h : TellsQ q d) (ho : q.ok) : (printQ q d).length ≤ 2000000 := by
  rw [printQ_yes h]
  obtain ⟨k, rfl⟩ := Int.eq_ofNat_of_zero_le (show 0 ≤ d by have := h.d1; omega)
  have := ask_len h ho
  simp only [Int.toNat_natCast]
  omega
theorem same_text {q r : Qy} {d e : Int} (h : TellsQ q d) (ho : q.ok) (hr : r.ok) : (printQ q d == printQ r e) = (q.eqB r && (d == e)) := by
  by_cases hs : printQ q d = printQ r e
  · obtain ⟨e1, e2⟩ := printQ_inj h ho hr hs
    subst e1 e2
    rw [show q.eqB q = true from Qy.eqB_iff.2 rfl]
    simp
  · rw [beq_false_of_ne hs]
    cases hq : q.eqB r
    · rfl
    · have := Qy.eqB_iff.1 hq
      subst this
      have hd : d ≠ e := fun h => hs (by rw [h])
      simp [hd]
theorem fit32_i64 {x : Int} (h : fit32 x = true) : I64 x := by
  have := fit32_of h
  unfold I64
  omega
theorem placeR_ok {d i : Int} {s : Sp} (h : placeR d i s) : s.ok := by
  by_cases hi : i < d
  · obtain ⟨_, h1, h2⟩ := h.1 hi
    exact ⟨fit32_i64 h1, fit32_i64 h2⟩
  · obtain ⟨h1, h2⟩ := h.2 (by omega)
    unfold Sp.ok
    rw [h1, h2]
    exact ⟨i64_0, i64_0⟩
/-- the numbers of a query that numbers make fit -/
theorem queryI_ok (a : Ak) {m : Md} (hm : RightM m) : (queryI a m.d m.k).ok := by
  have hq := query_right a hm
  obtain ⟨s1, s2, s3, s4, s5⟩ := hq.sp
  have hd := hm.d4
  have hk3 := hm.k3
  have hsz := within_bd a.sz 0 18000 (by omega)
  have hlo := within_bd a.lo (-9000) 9000 (by omega)
  have c0 := hq.c0
  have c1 := hq.c1
  have b0 := hq.b0
  have b1 := hq.b1
  refine ⟨?_, ⟨by omega, by omega⟩, ⟨placeR_ok s1, placeR_ok s2, placeR_ok s3, placeR_ok s4, placeR_ok s5⟩, ?_, ?_, ?_, ⟨by omega, by omega⟩⟩
  · rcases hq.kd with ⟨h, _⟩ | ⟨h, _⟩ | ⟨h, _⟩ <;> rw [h] <;> exact ⟨by decide, by decide⟩
  · simp only [queryI]
    split
    · exact ⟨by omega, by omega⟩
    · exact ⟨by decide, by decide⟩
  · simp only [queryI]
    split
    · exact ⟨by omega, by omega⟩
    · exact ⟨by decide, by decide⟩
  · rcases hq.kd with ⟨_, _, h, _⟩ | ⟨_, _, _, _, h, _⟩ | ⟨_, h1, h2, _⟩
    · rw [h]; exact ⟨by decide, by decide⟩
    · rw [h]; exact ⟨by decide, by decide⟩
    · exact ⟨by omega, by omega⟩
end Go.Proofs.YtjpffempmlfoeaaDoor
