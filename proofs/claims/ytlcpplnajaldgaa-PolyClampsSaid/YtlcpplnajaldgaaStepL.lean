/- Steps of a drawn region: a list of one row of bytes, and a call, each into a slot that is named. Condition: the row reads as bytes. -/
import Derived.Test.YtlcpplnajaldgaaInv
import Derived.Test.YtlcpplnajaldgaaRsMore
namespace Go.Proofs.Ytlcpplnajaldgaa
open Go.RowKit

theorem step_lit1 {P : Program} {ops : Array Oper} {o : Oper} {a : Act} {w : World} {K : Act → World → Prop} {Q : Exit → Act → World → Prop} {E : Prop} (hgd : o.guard = none) (d : Nat) (hd : o.dst = some d) (t e : TypeId) (x : Operand) (ho : o.op = .buildSlice t 1 #[(0, x)]) (ie : TypeInfo) (z v : Value) (ht : P.underlying t = some (.slice e)) (hi : P.info? e = some ie) (hz : ie.zero = some z) (hs : ie.size = 1) (hzc : z.cells.size = 1) (hx : a.eval x = v) (hv : v.cells = #[v])
    (xs : List UInt8) (hr : Rd w v xs) (h : ∀ u w', Rs w' u [xs] → Below w.heap.size w w' → K ⟨a.tmps.setIfInBounds d u, a.defers⟩ w') : if Region.wanted o (yielded ops a.tmps) = true then Oper.wp P o a w K Q else E :=
  step_build1 hgd t e x ho ie z v ht hi hz hs hzc hx hv (by rw [hd]; exact h _ _ (rs_lit1 hr) ((Below.refl _ _).alloc (Nat.le_refl _) _))
theorem step_callD {P : Program} {ops : Array Oper} {o : Oper} {a : Act} {w : World} {K : Act → World → Prop} {Q : Exit → Act → World → Prop} {E : Prop} (hgd : o.guard = none) (d : Nat) (hd : o.dst = some d) (f : FuncId) (args : Array Operand) (argTypes : Array TypeId) (ho : o.op = .call { callee := .value (.func f), args := args, argTypes := argTypes }) (eg : ∀ args w, (callFunc f args).run P w = .ok (.enter f args) w) (vals : Array Value) (hv : args.map a.eval = vals)
    (v : Value) (C : World → Prop) (hc : Calls P f vals w fun e w' => e = .returned v ∧ C w') (h : ∀ w', C w' → K ⟨a.tmps.setIfInBounds d v, a.defers⟩ w') : if Region.wanted o (yielded ops a.tmps) = true then Oper.wp P o a w K Q else E := by
  refine step_call hgd f args argTypes ho eg vals hv (hc.mono ?_)
  rintro e w' ⟨rfl, hC⟩
  show K (a.put o.dst v) w'
  rw [hd]
  exact h w' hC
end Go.Proofs.Ytlcpplnajaldgaa
