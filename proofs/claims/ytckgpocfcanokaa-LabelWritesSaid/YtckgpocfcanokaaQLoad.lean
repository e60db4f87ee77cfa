/- A load of an array, or a struct, in a walk over a region that only reads. No condition of its own. -/
import Derived.Test.YtckgpocfcanokaaGen
import Derived.Deep.MidRow
import Derived.Deep.QuietTactic
import Derived.BigQuiet
namespace Go.Proofs.Ytckgpocfcanokaa
open Go.RowKit

theorem wpQuiet_load_mid {P : Program} {ops : Array Oper} {C : World → Prop} {Q : Act → Prop} {rest : List Oper} {op : Oper} {T : List Value} {ds : List Deferred} (hw : Region.wanted op (yielded ops T.toArray) = true) (e : Nat) (he : op.dst = some e) (ty : TypeId) (x : Operand) (ho : op.op = .load ty x)
    (b o : Nat) (hx : (⟨T.toArray, ds⟩ : Act).eval x = .pointer (some ⟨b, o, none⟩)) (cs : List Value) (d : TypeDesc) (hS : ∀ w, C w → w.rangeAt b o cs)
    (hu : P.underlying ty = some d) (hd : d.isRow = true) (hi : (P.info? ty).map (·.size) = some cs.length)
    (h : wpQuiet P ops C Q rest ⟨(T.set e (.agg cs.toArray)).toArray, ds⟩) : wpQuiet P ops C Q (op :: rest) ⟨T.toArray, ds⟩ := by
  refine wpQuiet_step fun K hK => ?_
  rw [if_pos hw]
  refine ⟨.agg cs.toArray, fun w hC => ?_, hK _ ?_⟩
  · unfold Oper.quietAt execOp
    simp only [ho, hx, Instr.loadAt, Instr.sureAddr, Sem.run_bind, Sem.run_pure, Result.andThen_ok, run_loadVar_mid w b o ty cs d (hS w hC) hu hd hi]
    exact ⟨rfl, rfl⟩
  · rw [he]
    simpa [Act.put] using h
theorem range_drewN {w : World} {b o : Nat} {cs : List Value} (h : w.rangeAt b o cs) : ∀ W, (∃ n, W = w.drewN n) → W.rangeAt b o cs := fun W hW => by
  obtain ⟨n, rfl⟩ := hW
  exact h
theorem Blk.range {w : World} {B : Nat} {t : TypeId} {cs : List Value} (h : Blk w B t cs) (o : Nat) : w.rangeAt B o (cs.drop o) := fun j v hv => by
  rw [h.cell, ← hv, List.getElem?_drop]
end Go.Proofs.Ytckgpocfcanokaa
