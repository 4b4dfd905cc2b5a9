/- What the walks of chapter 10's statements begin with: the model and the query that numbers made, each in a block of its own. -/
import Derived.Test.YtkkbeobocbgmeaaGreatAskQ
import Derived.Test.YtkkbeobocbgmeaaGreatSteps
import Derived.Test.YtkkbeobocbgmeaaGreatStart
import Derived.Test.YtkkbeobocbgmeaaGreatForestA
namespace Go.Proofs.YtkkbeobocbgmeaaGreat
open Go.RowKit M

/-- the model that numbers made was made when w1 was the world, and lies in block h of wc; a query lies in block g -/
structure MadeQ (w0 w1 wc : World) (h g : Nat) (m : Md) (q : Qy) : Prop where
  mb : MdB wc h m
  qb : QyB wc g q
  mh : w1.heap.size ≤ h
  gh : w1.heap.size ≤ g
  ne : h ≠ g
  mr : RightM m
  ok : m.ok w1
  d3 : m.d ≤ 3
  j0 : Jk w0 w1
  j1 : Jk w1 wc
theorem Made.q {w0 w1 wc wz : World} {h g : Nat} {m : Md} {q : Qy} (H : Made w0 w1 wc h m) (hj : Jk wc wz) (hq : QyB wz g q) (hg : wc.heap.size ≤ g) : MadeQ w0 w1 wz h g m q := by
  obtain ⟨h1, h2, h3, h4, h5, h6, h7, h8⟩ := H
  refine ⟨h1.jk hj, hq, h2, Nat.le_trans h8.below.size hg, ?_, h3, h3.mdok h6, h4, h7, h8.trans hj⟩
  have := h1.lt
  omega
/-- the query's block is written anew -/
theorem MadeQ.put {w0 w1 wc wz : World} {h g : Nat} {m : Md} {q q' : Qy} (H : MadeQ w0 w1 wc h g m q) (hg : wc.grownBy wz (some g)) (hq : QyB wz g q') : MadeQ w0 w1 wz h g m q' :=
  ⟨(hg.block h H.mb.lt (by simpa using H.ne)).trans H.mb, hq, H.mh, H.gh, H.ne, H.mr, H.ok, H.d3, H.j0, H.j1.grown hg (fun k hk => by cases hk; exact H.gh)⟩
theorem MadeQ.jk {w0 w1 wc wz : World} {h g : Nat} {m : Md} {q : Qy} (H : MadeQ w0 w1 wc h g m q) (hj : Jk wc wz) : MadeQ w0 w1 wz h g m q :=
  ⟨H.mb.jk hj, H.qb.jk hj, H.mh, H.gh, H.ne, H.mr, H.ok, H.d3, H.j0, H.j1.trans hj⟩
/-- a block that is older than the row's is written -/
theorem FRow.keepB {B : Nat} {w w' : World} {v : Value} {n b : Nat} {ts : List Tr} (h : FRow B w v n ts) (hg : w.grownBy w' (some b)) (hb : b < B) : FRow B w' v n ts := by
  refine ⟨h.own.kept hg (.inr fun e => ?_), fun i hi => ?_, fun i hi => ?_, h.small⟩
  · have := h.own.base b e
    omega
  · obtain ⟨g, q1, q2, q3, q4⟩ := h.each i hi
    exact ⟨g, q1, q2, Nat.lt_of_lt_of_le q3 hg.size, q4⟩
  · obtain ⟨g, q1, q2, q3, q4⟩ := h.each i hi
    refine ⟨(h.ok i hi).fit, (h.ok i hi).is.kept hg fun g' o e => ?_⟩
    rw [q1] at e
    simp at e
    intro e2
    simp at e2
    omega

end Go.Proofs.YtkkbeobocbgmeaaGreat
