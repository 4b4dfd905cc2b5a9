/- What each function of package node answers, for every argument: the contracts of chapter 6's code. A node comes as a value and is laid into memory by the code: nothing that was there before is changed.
   What Right, Pack, read and Unpack of package node answer, for every argument: the contracts of chapter 6's code.
   What Pack of package node answers, for every node: its word, or 0.
   What read and Unpack of package node answer, for every word: the right node that Pack makes it of, or none. -/
import Derived.Test.YtjpffempmlfoeaaDoorBits
import Derived.Test.YtjpffempmlfoeaaDoorMathN
import Derived.Test.YtjpffempmlfoeaaDoorJunk
import Derived.ChangeKeysEq
import Derived.Deep.RegionWith
import Derived.Deep.DeepCutAuto
namespace Go.Proofs.YtjpffempmlfoeaaDoor
open Go.RowKit M

theorem hid {p : Prop} (h : p) : Hid p := h
abbrev nodeV (n : Nd) : Value := .agg #[.bool n.leaf, .int .i64 n.v, .int .i64 n.f, .int .i64 n.a, .int .i64 n.l, .int .i64 n.r]

theorem Jk.drewN {a w : World} (h : Jk a w) (n : Nat) : Jk a (w.drewN n) := h.trans ⟨⟨#[], (w.drewN n).drawn⟩, by simp [Go.Proofs.YtjpffempmlfoeaaDoor.junk, World.drewN]⟩





/-! '==' of two nodes -/
theorem nodeBits (n m : Nd) (w : World) : (Op.equalIn 10000 88 (nodeV n) (nodeV m)).run Tryd.prog w = .ok (n.eqB m) w := by
  have hb : ∀ (x : Nd) (w : World), (part 4 #[.bool x.leaf, .int .i64 x.v, .int .i64 x.f, .int .i64 x.a, .int .i64 x.l, .int .i64 x.r] 0).run Tryd.prog w = .ok (.bool x.leaf) w := fun x w => by kernel_rfl
  have h1 : ∀ (x : Nd) (w : World), (part 3 #[.bool x.leaf, .int .i64 x.v, .int .i64 x.f, .int .i64 x.a, .int .i64 x.l, .int .i64 x.r] 1).run Tryd.prog w = .ok (.int .i64 x.v) w := fun x w => by kernel_rfl
  have h2 : ∀ (x : Nd) (w : World), (part 3 #[.bool x.leaf, .int .i64 x.v, .int .i64 x.f, .int .i64 x.a, .int .i64 x.l, .int .i64 x.r] 2).run Tryd.prog w = .ok (.int .i64 x.f) w := fun x w => by kernel_rfl
  have h3 : ∀ (x : Nd) (w : World), (part 3 #[.bool x.leaf, .int .i64 x.v, .int .i64 x.f, .int .i64 x.a, .int .i64 x.l, .int .i64 x.r] 3).run Tryd.prog w = .ok (.int .i64 x.a) w := fun x w => by kernel_rfl
  have h4 : ∀ (x : Nd) (w : World), (part 3 #[.bool x.leaf, .int .i64 x.v, .int .i64 x.f, .int .i64 x.a, .int .i64 x.l, .int .i64 x.r] 4).run Tryd.prog w = .ok (.int .i64 x.l) w := fun x w => by kernel_rfl
  have h5 : ∀ (x : Nd) (w : World), (part 3 #[.bool x.leaf, .int .i64 x.v, .int .i64 x.f, .int .i64 x.a, .int .i64 x.l, .int .i64 x.r] 5).run Tryd.prog w = .ok (.int .i64 x.r) w := fun x w => by kernel_rfl
  have e0 : ∀ (a b : Bool) (w : World), (Op.equalIn 9999 4 (.bool a) (.bool b)).run Tryd.prog w = .ok (a == b) w := fun a b w => by
    cases a <;> cases b <;> kernel_rfl
  have e1 := fun (a b : Int) (w : World) => run_equalIn_int (P := Tryd.prog) w 9998 3 .i64 .i64 a b Tryd.underlying3
  have hf : (Tryd.prog.fieldsOf 88).toList.map (fun f => (f.name != "_", f.type, f.offset)) = [(true, 4, 0), (true, 3, 1), (true, 3, 2), (true, 3, 3), (true, 3, 4), (true, 3, 5)] := by kernel_rfl
  rw [run_equalIn_struct w 9999 88 _ _ (by kernel_rfl) (by kernel_rfl)]
  match hl : (Tryd.prog.fieldsOf 88).toList with
  | [] | [_] | [_, _] | [_, _, _] | [_, _, _, _] | [_, _, _, _, _] | _ :: _ :: _ :: _ :: _ :: _ :: _ :: _ => rw [hl] at hf; simp at hf
  | [f0, f1, f2, f3, f4, f5] =>
    rw [hl] at hf
    simp at hf
    obtain ⟨⟨a1, a2, a3⟩, ⟨b1, b2, b3⟩, ⟨c1, c2, c3⟩, ⟨d1, d2, d3⟩, ⟨i1, i2, i3⟩, j1, j2, j3⟩ := hf
    simp [Op.eqFields, a1, a2, a3, b1, b2, b3, c1, c2, c3, d1, d2, d3, i1, i2, i3, j1, j2, j3, hb, h1, h2, h3, h4, h5, e0, e1, Nd.eqB]
    clear hb h1 h2 h3 h4 h5 e0 e1 a1 a2 a3 b1 b2 b3 c1 c2 c3 d1 d2 d3 i1 i2 i3 j1 j2 j3 hl
    by_cases k0 : n.leaf = m.leaf
    · by_cases k1 : n.v = m.v
      · by_cases k2 : n.f = m.f
        · by_cases k3 : n.a = m.a
          · by_cases k4 : n.l = m.l
            · by_cases k5 : n.r = m.r <;> simp [k0, k1, k2, k3, k4, k5]
            · simp [k0, k1, k2, k3, k4]
          · simp [k0, k1, k2, k3]
        · simp [k0, k1, k2]
      · simp [k0, k1]
    · simp [k0]

/-! Right -/



end Go.Proofs.YtjpffempmlfoeaaDoor

namespace Go.Proofs.YtjpffempmlfoeaaDoor
open Go.RowKit M




end Go.Proofs.YtjpffempmlfoeaaDoor

namespace Go.Proofs.YtjpffempmlfoeaaDoor
open Go.RowKit M



theorem word_other (v f a l r : Int) : Nd.word ⟨false, v, f, a, l, r⟩ = a % 4294967296 + f * 4294967296 + l * 1099511627776 + r * 281474976710656 := rfl




end Go.Proofs.YtjpffempmlfoeaaDoor

namespace Go.Proofs.YtjpffempmlfoeaaDoor
open Go.RowKit M

theorem wrap64_low {x : Int} (h0 : 0 ≤ x) (h : x ≤ 255) : wrap64 x = x := IntWalk.wrap64_in _ ⟨by omega, by omega⟩



/-! the contracts once more, the node's numbers spelt out -/


end Go.Proofs.YtjpffempmlfoeaaDoor
