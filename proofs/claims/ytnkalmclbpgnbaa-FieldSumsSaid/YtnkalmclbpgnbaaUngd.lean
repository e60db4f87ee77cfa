/- An operation behind a guard that is met is as one without a guard. No condition of its own. -/
import Derived.Test.YtnkalmclbpgnbaaBlk
namespace Go.Proofs.Ytnkalmclbpgnbaa
open Go.RowKit

theorem wpList_unguard {P : Program} {ops : Array Oper} {rest : List Oper} {o : Oper} {a : Act} {w : World} {Q : Exit → Act → World → Prop} (hw : Region.wanted o (yielded ops a.tmps) = true) (h : wpList P ops Q ({ o with guard := none } :: rest) a w) : wpList P ops Q (o :: rest) a w := by
  show (if Region.wanted o (yielded ops a.tmps) then o.wp P a w (wpList P ops Q rest) Q ∨ (o.asks P a w ∧ LetsOut Q) else wpList P ops Q rest (a.put o.dst undef) w)
  rw [if_pos hw]
  have h2 : (if Region.wanted { o with guard := none } (yielded ops a.tmps) then Oper.wp P { o with guard := none } a w (wpList P ops Q rest) Q ∨ (Oper.asks P { o with guard := none } a w ∧ LetsOut Q) else wpList P ops Q rest (a.put o.dst undef) w) := h
  rw [if_pos (by rfl)] at h2
  exact h2
end Go.Proofs.Ytnkalmclbpgnbaa
