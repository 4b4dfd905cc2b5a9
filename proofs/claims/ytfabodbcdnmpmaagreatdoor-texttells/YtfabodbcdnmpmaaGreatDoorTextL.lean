/- The functions that package text calls beyond its own package answer as its texts ask ('LibP'). Conditions: what the statement itself says of the library's variables ('Env'). -/
import Derived.Test.YtfabodbcdnmpmaaGreatDoorDec3
import Derived.Test.YtfabodbcdnmpmaaGreatDoorTextK
namespace Go.Proofs.YtfabodbcdnmpmaaGreatDoor
open Go.RowKit M

theorem lib_p {w : World} (hE : Env w) : LibP w where
  cut p l := fun w1 => Tryz.strings_CutPrefix ⟨l.toArray⟩ ⟨p.toArray⟩ w1
  has p l := fun w1 => Tryz.strings_HasPrefix ⟨l.toArray⟩ ⟨p.toArray⟩ w1
  itoa n h0 h1 := fun w1 => by
    obtain ⟨k, rfl⟩ := Int.eq_ofNat_of_zero_le h0
    have := Tryz.strconv_Itoa_small k (by omega) w1
    rwa [show tx (dg (k : Int)) = .string ⟨(Lib.decDigits k).toArray⟩ from rfl]
  join w1 g o n c L hS hg hn hc h8 hl := by
    have e : (L.map fun t : Txt => (⟨t.toArray⟩ : ByteArray)).map (·.data.toList) = L := by
      rw [List.map_map]
      exact (List.map_congr_left fun t _ => (by simp : ((fun x : ByteArray => x.data.toList) ∘ fun t : Txt => (⟨t.toArray⟩ : ByteArray)) t = id t)).trans (List.map_id L)
    have h := Tryz.strings_Join g o c (L.map fun t : Txt => (⟨t.toArray⟩ : ByteArray)) ⟨#[32]⟩ w1 (fun j x hx => by
      have hj : j < L.length := by
        have := (List.getElem?_eq_some_iff.1 hx).1
        simpa using this
      rw [hS j hj]
      simp [hj] at hx
      simp [xA, hj, hx]) hg (by simp; omega) (by simp; omega) (by rw [e]; show (Lib.join L [32]).length ≤ _; omega)
    rw [e] at h
    simp only [List.length_map, hn] at h
    exact h.mono fun _ _ ⟨a, b⟩ => ⟨a, Jk.of_below b⟩
  print n h1 h2 := fun w1 hj => (print_any n w1 h1 h2 (hE.on hj.below).1).mono fun _ _ ⟨a, b⟩ => ⟨a, Jk.of_below b⟩
  scan l hl := fun w1 hj => (scan_any l w1 (by omega) (hE.on hj.below).2 (hE.on hj.below).1).mono fun _ _ ⟨a, b⟩ => ⟨a, Jk.of_below b⟩

end Go.Proofs.YtfabodbcdnmpmaaGreatDoor
