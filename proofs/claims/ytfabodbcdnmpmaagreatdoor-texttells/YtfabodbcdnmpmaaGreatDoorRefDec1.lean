/- What the document's own 'digits' answers: the digits of a number, so many at least; nothing that was there is written. -/
import Derived.Test.YtfabodbcdnmpmaaGreatDoorDec1
import Derived.Below
import Derived.Laws.IdiomStrings
import Derived.Lib.Strings
namespace Go.Proofs.YtfabodbcdnmpmaaGreatDoor
open Go.RowKit M

theorem text_app (a b : Txt) : ((⟨a.toArray⟩ : ByteArray) ++ (⟨b.toArray⟩ : ByteArray)) = ⟨(a ++ b).toArray⟩ := by
  apply ByteArray.ext
  rw [ByteArray.data_append]
  simp

theorem digits_any (u0 l0 : Nat) (t : Txt) (w : World) (hu : u0 < 18446744073709551616) (hl : l0 ≤ 8) (hD : Digs u0 l0 t) (ht : t.length ≤ 20) :
    Calls Tryz.prog 44 #[.int .u64 (u0 : Int), .int .i64 (l0 : Int)] w fun e w' => e = .returned (.string ⟨t.toArray⟩) ∧ Below w.heap.size w w' := by
  go_enter Tryz.func44, Tryz.ntmps44
  go_wp2
  go_loopg [0, 1, 5] t.length (fun k uv lv sv wr => ∃ (u : Nat) (L : Int) (q r : Txt), uv = .int .u64 (u : Int) ∧ lv = .int .i64 L ∧ sv = .string ⟨r.toArray⟩ ∧ Digs u L.toNat q ∧ q ++ r = t ∧ k = q.length ∧ u < 18446744073709551616 ∧ -100 ≤ L - (q.length : Int) ∧ L ≤ 100 ∧ Below w.heap.size w wr)
  case atStart => exact ⟨u0, l0, t, [], rfl, rfl, rfl, hD, by simp, rfl, hu, by omega, by omega, Below.refl _ _⟩
  case round =>
    obtain ⟨u, L, q, r, rfl, rfl, rfl, hd, hq, hk, hu1, hL1, hL2, hb⟩ := hrel
    by_cases h0 : u = 0 ∧ L.toNat = 0
    · obtain ⟨h01, h02⟩ := h0
      subst h01
      rw [h02] at hd
      obtain rfl := hd.zero
      rw [List.nil_append] at hq
      subst hq
      have h03 : ¬ 0 < L := by omega
      go_wp2
      go_ret
      exact ⟨rfl, hb⟩
    · obtain ⟨q', rfl, hd'⟩ := hd.more h0
      have hl1 : (q' ++ [UInt8.ofNat (48 + u % 10)]).length = q'.length + 1 := by simp
      rw [hl1] at hk hL1
      obtain ⟨c, hc⟩ : ∃ c, UInt8.ofNat (48 + u % 10) = c := ⟨_, rfl⟩
      have HC : Hid (48 + u % 10 = c.toNat) := by
        rw [← hc, UInt8.toNat_ofNat']; show _ = _; omega
      rw [hc] at hq
      have HQ : Hid (q' ++ [c] ++ r = t) := hq
      have HD : Hid (Digs (u / 10) (L.toNat - 1) q') := hd'
      have HB : Hid (Below w.heap.size w wr) := hb
      have HK : Hid (gk = q'.length + 1) := hk
      have HL : Hid (-100 ≤ L - ((q'.length + 1 : Nat) : Int)) := hL1
      have hL3 : -100 ≤ L := by omega
      have hcv : (convert 58 9 (.slice (some ⟨wr.heap.size, 0, none⟩) 1 1)).run Tryz.prog (wr.alloc (.cells #[.int .u8 (48 + (u : Int) % 10)] 5)) = .ok (.string ⟨#[c]⟩) (wr.alloc (.cells #[.int .u8 (48 + (u : Int) % 10)] 5)) := by
        refine run_convert_bytes_back _ 58 9 5 ⟨wr.heap.size, 0, none⟩ 1 [c] Tryz.underlying58 Tryz.underlying5 Tryz.underlying9 fun j hj => ?_
        obtain rfl : j = 0 := by simpa using hj
        rw [show (⟨wr.heap.size, 0, none⟩ : Addr).add 0 = ⟨wr.heap.size, 0, none⟩ from rfl, World.cell?_alloc_at _ _ _ _ rfl]
        have := HC.out
        simp
        omega
      have hr : r.length ≤ 20 := by
        have := congrArg List.length hq
        simp at this
        omega
      have hp : (0 < u) ∨ (u = 0 ∧ 0 < L) := by omega
      clear hd hd' hq hb hk hL1 hl1 hc h0 hD
      rcases hp with hp | ⟨rfl, hp2⟩
      · go_wp2
        go_roundg (gk - 1)
        case measure => have := HK.out; omega
        case rel =>
          refine ⟨u / 10, L - 1, q', c :: r, by go_num, rfl, ?_, ?_, ?_, ?_, ?_, ?_, ?_, HB.out.alloc HB.out.size _⟩
          · exact congrArg Value.string (text_app [c] r)
          · rw [show (L - 1).toNat = L.toNat - 1 by omega]; exact HD.out
          · rw [← HQ.out]; simp
          · have := HK.out; omega
          · omega
          · have := HL.out; omega
          · omega
      · rw [show (48 + ((0 : Nat) : Int) % 10) = 48 from rfl] at hcv
        go_wp2
        go_roundg (gk - 1)
        case measure => have := HK.out; omega
        case rel =>
          refine ⟨0, L - 1, q', c :: r, by go_num, rfl, ?_, ?_, ?_, ?_, ?_, ?_, ?_, HB.out.alloc HB.out.size _⟩
          · exact congrArg Value.string (text_app [c] r)
          · rw [show (L - 1).toNat = L.toNat - 1 by omega]; exact HD.out
          · rw [← HQ.out]; simp
          · have := HK.out; omega
          · omega
          · have := HL.out; omega
          · omega

end Go.Proofs.YtfabodbcdnmpmaaGreatDoor
