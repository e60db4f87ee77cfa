/- What a call leaves of a disk; a disk that has just been made. No condition of its own. -/
import Derived.Test.YtmdpoceadjdhmaaDPure
import Derived.Test.YtmdpoceadjdhmaaSrow
namespace Go.Proofs.Ytmdpoceadjdhmaa
open Go.RowKit

/-- What a call leaves of a disk: it stands, its blocks are among the elder ones or new; nothing else has changed. -/
structure DLeft (Is : World → Value → DS → (Nat → Prop) → Prop) (w w' : World) (p : Value) (S : DS) (F : Nat → Prop) : Prop where
  disk : ∃ F', Is w' p S F' ∧ ∀ j, F' j → F j ∨ w.heap.size ≤ j
  chg : Chg F w w'
/-- A disk that has just been made: all its blocks are new. -/
def DNew (Is : World → Value → DS → (Nat → Prop) → Prop) (w w' : World) (p : Value) (S : DS) : Prop := (∃ F, Is w' p S F ∧ ∀ k, F k → w.heap.size ≤ k) ∧ Below w.heap.size w w'
theorem chg_below {F : Nat → Prop} {w w' : World} (h : Below w.heap.size w w') : Chg F w w' := ⟨h.os, h.tape, h.output, h.size, fun k hk _ => h.block k hk⟩
theorem chg_none {w w' : World} (h : Below w.heap.size w w') : Chg (fun _ => False) w w' := chg_below h
theorem chg_join {F : Nat → Prop} {a b c : World} (h : Chg F a b) (k : Chg F b c) : Chg F a c := h.trans (k.mono fun _ h => .inl h)
end Go.Proofs.Ytmdpoceadjdhmaa
