/- A slice as a pointer to an array; a result that is an array beside one that is a slot. Condition: the slice is long enough. -/
import Derived.Test.YtckgpocfcanokaaGen
import Derived.Deep.MidRow
namespace Go.Proofs.Ytckgpocfcanokaa
open Go.RowKit

/-- A slice as a pointer to an array: it is long enough. -/
theorem wpList_to_arr {P : Program} {ops : Array Oper} {rest : List Oper} {o : Oper} {a : Act} {w : World} {Q : Exit → Act → World → Prop} (hgd : o.guard = none) (ty : TypeId) (x : Operand) (ho : o.op = .sliceToArrayPointer ty x)
    (b off n l c : Nat) (e : TypeId) (hx : a.eval x = .slice (some ⟨b, off, none⟩) l c) (hu : P.underlying ty = some (.array n e)) (hl : n ≤ l)
    (h : wpList P ops Q rest (a.put o.dst (.pointer (some ⟨b, off, none⟩))) w) : wpList P ops Q (o :: rest) a w :=
  wpList_plain hgd fun K hK => by
    unfold Oper.wp execOp
    have e1 : ¬ l < n := by omega
    simp [ho, hx, Instr.arrayAt, underlying, hu, e1]
    exact hK _ _ h
/-- Two results: an array out of a block that is known whole, and a slot. -/
theorem results_blk_tmp {P : Program} {fn : Func} {p q : Tmp} {ty : TypeId} (h : fn.results = #[.cell p ty, .tmp q]) (tmps : Array Value) (w : World) (B : Nat) (t : TypeId) (cs : List Value) (d : TypeDesc) (v : Value)
    (hp : tmps.getD p undef = .pointer (some ⟨B, 0, none⟩)) (hq : tmps.getD q undef = v) (hb : Blk w B t cs) (hu : P.underlying ty = some d) (hd : (match d with | .struct _ | .array _ _ => true | _ => false) = true) (hi : (P.info? ty).map (·.size) = some cs.length) :
    (results fn tmps).run P w = .ok (.tuple #[.agg cs.toArray, v]) w := by
  have hp' : tmps[p]?.getD undef = .pointer (some ⟨B, 0, none⟩) := by simpa using hp
  have hq' : tmps[q]?.getD undef = v := by simpa using hq
  simp [results, h, hp', hq', asAddr, run_loadVar_row w B t ty cs.toArray (0, 0) d hb hu hd (by simpa using hi)]
end Go.Proofs.Ytckgpocfcanokaa
