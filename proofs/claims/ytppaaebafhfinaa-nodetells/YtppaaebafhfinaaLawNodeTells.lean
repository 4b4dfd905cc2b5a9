/- The law NodeTells of chapter 6 answers true for every node and every word: Right, Pack and Unpack answer as the document's own do. -/
import Derived.Test.YtppaaebafhfinaaLawNodeRuns
import Derived.Test.YtppaaebafhfinaaRefNode3
import Derived.Deep.DeepCutAuto
namespace Go.Proofs.Ytppaaebafhfinaa
open Go.RowKit M

set_option maxRecDepth 100000 in
set_option maxHeartbeats 4000000 in
theorem tells_core (l1 l2 R O : Bool) (v1 f1 a1 e1 r1 v2 f2 a2 e2 r2 x p : Int) (w : World)
    (HU : Hid (Ans 8 #[.int .u64 x] (.tuple #[nodeV ⟨l2, v2, f2, a2, e2, r2⟩, .bool O])))
    (HV : Hid (Ans 10 #[.int .u64 x] (.tuple #[nodeV ⟨l2, v2, f2, a2, e2, r2⟩, .bool O])))
    (HR : Hid (Ans 11 #[nodeV ⟨l1, v1, f1, a1, e1, r1⟩] (.bool R)))
    (HS : Hid (Ans 12 #[nodeV ⟨l1, v1, f1, a1, e1, r1⟩] (.bool R)))
    (HP : Hid (Ans 9 #[nodeV ⟨l1, v1, f1, a1, e1, r1⟩] (.int .u64 p)))
    (HQ : Hid (Ans 13 #[nodeV ⟨l1, v1, f1, a1, e1, r1⟩] (.int .u64 p))) :
    Calls Try.prog 4 #[nodeV ⟨l1, v1, f1, a1, e1, r1⟩, .int .u64 x] w fun e w' => e = .returned (.bool true) ∧ Jk w w' := by
  have J := rules8
  have E : ∀ w : World, (Op.equalIn 10000 23 (.agg #[.bool l2, .int .i64 v2, .int .i64 f2, .int .i64 a2, .int .i64 e2, .int .i64 r2]) (.agg #[.bool l2, .int .i64 v2, .int .i64 f2, .int .i64 a2, .int .i64 e2, .int .i64 r2])).run Try.prog w = .ok true w := fun w => by
    have := nodeBits ⟨l2, v2, f2, a2, e2, r2⟩ ⟨l2, v2, f2, a2, e2, r2⟩ w
    rw [Nd.eqB_self] at this
    exact this
  go_enter Try.func4, Try.ntmps4
  go_upto_region 3 with (first | (go_at_call 8; refine (HU.out.on _).mono ?_; rintro e w1 ⟨rfl, X1, rfl⟩) | (go_at_call 10; refine (HV.out.on _).mono ?_; rintro e w1 ⟨rfl, X2, rfl⟩))
  refine region_junk (by kernel_rfl) (by kernel_rfl) ?_
  repeat (go_big_quiet_step (first | (go_at_call 11; exact HR.out.junk _) | (go_at_call 12; exact HS.out.junk _) | (go_at_call 9; exact HP.out.junk _) | (go_at_call 13; exact HQ.out.junk _) | (go_at_call 3; exact nodeRuns_ans.junk _) | exact rfl))
  refine wpQuiet_nil ?_
  rintro _ ⟨X, rfl⟩
  go_wp2_with fail
  go_ret
  exact ⟨rfl, by repeat (with_reducible first | exact Jk.refl _ | apply Jk.junk | apply Jk.alloc)⟩

theorem nodeTells_walk (n : Nd) (x : Int) (wx : (Lit.int .u64 x).wf = true) (w : World) :
    Calls Try.prog 4 #[nodeV n, .int .u64 x] w fun e w' => e = .returned (.bool true) ∧ Jk w w' := by
  have hx := bdu wx
  have HU := hid (unpack_ans x hx.1 hx.2)
  have HV := hid (runpack_ans x hx.1 hx.2)
  have HR := hid (right_ans n)
  have HS := hid (rright_ans n)
  have HP := hid (pack_ans n)
  have HQ := hid (rpack_ans n)
  generalize unI x = u at HU HV
  generalize unB x = O at HU HV
  generalize n.rightB = R at HR HS
  generalize n.pack = p at HP HQ
  obtain ⟨l1, v1, f1, a1, e1, r1⟩ := n
  obtain ⟨l2, v2, f2, a2, e2, r2⟩ := u
  exact tells_core l1 l2 R O v1 f1 a1 e1 r1 v2 f2 a2 e2 r2 x p w HU HV HR HS HP HQ

end Go.Proofs.Ytppaaebafhfinaa
