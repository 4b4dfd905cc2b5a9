/- 'm[b]++' on a map of boxes to ints that lies in memory: the entry's own place, and the store into it. -/
import Derived.Test.YtdmkaaehpcnpfaaBoxH
import Derived.WideKeyEntry
namespace Go.Proofs.Ytdmkaaehpcnpfaa
open Go.RowKit Go.Maps M
open Go.ChangeMaps (setBlock)

theorem lawKey : Go.WideMaps.KeyLaw Try.prog 25 := deep_law_laid laidB (m := 4) (by omega) (by decide +kernel) (by kernel_rfl) (by kernel_rfl)
theorem set_set (w : World) (b : Nat) (o o' : Obj) : setBlock (setBlock w b o) b o' = setBlock w b o' := by
  simp [setBlock]
theorem ok_inj {α : Type} {a b : α} {w w' : World} (h : Result.ok a w = Result.ok b w') : a = b ∧ w = w' := by
  cases h; exact ⟨rfl, rfl⟩
theorem entry_own {w : World} {b n : Nat} {D : DataW Unit} {key : Value} {kl : Lit} {c : Int} (hown : Cnt w b n D) (hn : n < 1000000) (hkey : keyOf Try.prog 25 key = some kl) (hat : D.atKey kl (.lit (.int .i64 0)) = .lit (.int .i64 c)) :
    ∃ (v0 : Value) (st : Nat) (w1 : World) (D1 : DataW Unit), (Instr.mapEntry 29 (.map (some b)) key).run Try.prog w = .ok (.tuple #[v0, goInt st]) w1 ∧ Cnt w1 b (n + 1) D1 ∧ D1.atKey kl (.lit (.int .i64 0)) = .lit (.int .i64 c) ∧ w.grownBy w1 (some b) ∧
      ∀ d : Int, (Lit.int .i64 d).wf = true → ∃ w2, (Instr.entryStore 29 (.map (some b)) (goInt st) (.int .i64 d)).run Try.prog w1 = .ok () w2 ∧ Cnt w2 b (n + 1) (D.put kl (.lit (.int .i64 d))) ∧ w.grownBy w2 (some b) := by
  have hup := fun (d : Int) (hd : (Lit.int .i64 d).wf = true) => World.ownsMap.update (t := 29) (e := 3) hown lawBox Try.underlying29 (by unfold maxLen; omega) hkey (plainElem_int Try.underlying3 hd)
  have hown' := hown
  obtain ⟨es, clock, hb, F, hs, hD⟩ := hown
  obtain ⟨v0, st, es1, clock1, hrun, _, hst⟩ := Go.WideElems.entry_then_store (t := 29) (e := 3) lawKey Try.underlying29 zeroInt hb F hkey
  have hb1 : (setBlock w b (.map es1 clock1)).heap[b]? = some (.map es1 clock1) := Go.ChangeMaps.heap_setBlock_same hb _
  have hg1 : w.grownBy (setBlock w b (.map es1 clock1)) (some b) := ⟨rfl, rfl, rfl, by simp [setBlock], fun i _ hi => Go.ChangeMaps.heap_setBlock_other hb _ (fun e => hi (by rw [e]))⟩
  have hstore : ∀ d : Int, (Lit.int .i64 d).wf = true → ∃ w2, (Instr.entryStore 29 (.map (some b)) (goInt st) (.int .i64 d)).run Try.prog (setBlock w b (.map es1 clock1)) = .ok () w2 ∧ Cnt w2 b (n + 1) (D.put kl (.lit (.int .i64 d))) ∧ w.grownBy w2 (some b) := by
    intro d hd
    obtain ⟨es', clock', h1, h2⟩ := hst (setBlock w b (.map es1 clock1)) (.int .i64 d) hb1
    obtain ⟨w', h3, h4, h5⟩ := hup d hd
    rw [h2] at h3
    obtain ⟨_, rfl⟩ := ok_inj h3
    rw [set_set] at h1
    exact ⟨_, h1, h4, h5⟩
  refine ⟨v0, st, setBlock w b (.map es1 clock1), ?_⟩
  rcases lawKey.find w hkey es.toList F.keys with ⟨h1, h2⟩ | ⟨j, e0, h1, h2, h3⟩
  · have hrun' : (Instr.mapEntry 29 (.map (some b)) key).run Try.prog w = .ok (.tuple #[.int .i64 0, goInt clock]) (setBlock w b (.map (es.push ⟨key, .int .i64 0, clock⟩) (clock + 1))) := by
      simp [Instr.mapEntry, run_underlying Try.underlying29, MapKept.run_getObj_map hb, lawKey.check w false hkey, h1, MapKept.run_setObj_map _ hb, Result.andThen, setBlock]
    have hupd : (Instr.mapUpdate 29 (.map (some b)) key (.int .i64 0)).run Try.prog w = .ok () (setBlock w b (.map (es.push ⟨key, .int .i64 0, clock⟩) (clock + 1))) := by
      simp [Instr.mapUpdate, run_underlying Try.underlying29, MapKept.run_getObj_map hb, lawKey.check w false hkey, h1, MapKept.run_setObj_map _ hb, Result.andThen, setBlock]
    rw [hrun] at hrun'
    obtain ⟨_, e2⟩ := ok_inj hrun'
    obtain ⟨w', h3, h4, h5⟩ := hup 0 (by decide)
    rw [hupd, ← e2] at h3
    obtain ⟨_, rfl⟩ := ok_inj h3
    have hno : Maps.has D kl = false := by
      cases hh : Maps.has D kl
      · rfl
      · rw [hD] at hh
        obtain ⟨p, hp, hpk⟩ := List.any_eq_true.1 hh
        obtain ⟨x, hx, rfl⟩ := List.mem_map.1 (mem_sorted.1 hp)
        obtain ⟨y, hy⟩ := F.reads x hx
        have e := WideAt.sameKey_eq hpk
        rw [Go.WideElems.rg_of hy] at e
        exact absurd (lawBox.inj (e ▸ Go.WideElems.rd_key hy) hkey) (h2 x hx)
    refine ⟨_, hrun, h4, ?_, hg1, hstore⟩
    rw [atKey_put_same (hown'.tidy lawBox).isMap (lawBox.key hkey), ← hat, atKey_of_not_has hno]
  · have hj : es[j]? = some e0 := by simpa using h2
    have hsame : es.modify j (fun e => { e with key := key }) = es := by
      apply Array.ext'
      rw [Array.toList_modify, Go.ChangeMaps.modify_eq_set _ _ _ _ h2]
      have : ({ e0 with key := key } : MapEntry) = e0 := by rw [← h3]
      rw [this]
      exact Go.WideElems.set_self _ _ _ h2
    have hrun' : (Instr.mapEntry 29 (.map (some b)) key).run Try.prog w = .ok (.tuple #[e0.val, goInt e0.born]) (setBlock w b (.map es clock)) := by
      simp [Instr.mapEntry, run_underlying Try.underlying29, MapKept.run_getObj_map hb, lawKey.check w false hkey, h1, hj, h3, lawKey.stays w hkey, hsame, MapKept.run_setObj_map _ hb, Result.andThen, setBlock]
    have hr2 := hrun
    rw [hrun'] at hr2
    obtain ⟨_, e2⟩ := ok_inj hr2
    refine ⟨D, hrun, ?_, hat, hg1, hstore⟩
    rw [← e2]
    exact ⟨es, clock, Go.ChangeMaps.heap_setBlock_same hb _, F, Nat.le_succ_of_le hs, hD⟩

end Go.Proofs.Ytdmkaaehpcnpfaa
