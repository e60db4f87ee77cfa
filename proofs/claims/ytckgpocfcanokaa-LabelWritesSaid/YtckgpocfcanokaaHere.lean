/- Guards of a walk's arms: each changes nothing, and fits one operation alone (use: with_reducible refine here_store ?_, ahead of a law for a store). No condition of its own. -/
import Derived.Test.YtckgpocfcanokaaMem
namespace Go.Proofs.Ytckgpocfcanokaa
open Go.RowKit

section
variable {P : Program} {ops : Array Oper} {rest : List Oper} {a : Act} {w : World} {Q : Exit → Act → World → Prop} {d : Option Tmp} {t : TypeId} {p : String} {f : Array Edge} {g : Option (Tmp × Bool)}
theorem here_store {ty : TypeId} {x y : Operand} (h : wpList P ops Q (⟨d, .store ty x y, t, p, f, g⟩ :: rest) a w) : wpList P ops Q (⟨d, .store ty x y, t, p, f, g⟩ :: rest) a w := h
theorem here_load {ty : TypeId} {x : Operand} (h : wpList P ops Q (⟨d, .load ty x, t, p, f, g⟩ :: rest) a w) : wpList P ops Q (⟨d, .load ty x, t, p, f, g⟩ :: rest) a w := h
theorem here_alloc {ty : TypeId} (h : wpList P ops Q (⟨d, .alloc ty, t, p, f, g⟩ :: rest) a w) : wpList P ops Q (⟨d, .alloc ty, t, p, f, g⟩ :: rest) a w := h
theorem here_build {ty : TypeId} {l : Array (Nat × Operand)} (h : wpList P ops Q (⟨d, .build ty l, t, p, f, g⟩ :: rest) a w) : wpList P ops Q (⟨d, .build ty l, t, p, f, g⟩ :: rest) a w := h
theorem here_slices {ty : TypeId} {n : Nat} {l : Array (Nat × Operand)} (h : wpList P ops Q (⟨d, .buildSlice ty n l, t, p, f, g⟩ :: rest) a w) : wpList P ops Q (⟨d, .buildSlice ty n l, t, p, f, g⟩ :: rest) a w := h
theorem here_look {ty : TypeId} {x y : Operand} {b : Bool} (h : wpList P ops Q (⟨d, .lookup ty x y b, t, p, f, g⟩ :: rest) a w) : wpList P ops Q (⟨d, .lookup ty x y b, t, p, f, g⟩ :: rest) a w := h
theorem here_upd {ty : TypeId} {x y z : Operand} (h : wpList P ops Q (⟨d, .mapUpdate ty x y z, t, p, f, g⟩ :: rest) a w) : wpList P ops Q (⟨d, .mapUpdate ty x y z, t, p, f, g⟩ :: rest) a w := h
theorem here_map {ty : TypeId} (h : wpList P ops Q (⟨d, .makeMap ty none, t, p, f, g⟩ :: rest) a w) : wpList P ops Q (⟨d, .makeMap ty none, t, p, f, g⟩ :: rest) a w := h
end
end Go.Proofs.Ytckgpocfcanokaa
