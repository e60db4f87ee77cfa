/- What the fifteenth layer's laws need of the developers' label. Premises: the contracts themselves. -/
import Derived.Test.YtckgpocfcanokaaLbRow
namespace Go.Proofs.Ytckgpocfcanokaa
open Go.RowKit

/-- What a text is read as. -/
def SerAns (t : ByteArray) (s : Se) (k : Int) : Prop := (k = 0 ∧ MayS s ∧ textB s = t.toList) ∨ (k ≠ 0 ∧ ¬ ∃ s, MayS s ∧ textB s = t.toList)
def SelAns (t : ByteArray) (s : Se) (k : Int) : Prop := (k = 0 ∧ MayQ s ∧ textB s = t.toList) ∨ (k ≠ 0 ∧ ¬ ∃ s, MayQ s ∧ textB s = t.toList)
structure LabelC : Prop where
  check : ∀ (n : ByteArray) (v : Value) (ls : List Qu) (w : World), RsLb w v ls → n.size ≤ maxLen →
    Calls Try.prog 7 #[.agg #[.string n, v]] w fun e w' => ∃ k : Int, e = .returned (.int .i64 k) ∧ ((k = 0 ∧ MayS ⟨n, ls⟩) ∨ (k = 1 ∧ ¬ MayS ⟨n, ls⟩)) ∧ Below w.heap.size w w'
  text : ∀ (n : ByteArray) (v : Value) (ls : List Qu) (w : World), RsLb w v ls → MayS ⟨n, ls⟩ →
    Calls Try.prog 9 #[.agg #[.string n, v]] w fun e w' => ∃ b : ByteArray, e = .returned (.string b) ∧ b.toList = textB ⟨n, ls⟩ ∧ Below w.heap.size w w'
  parse : ∀ (t : ByteArray) (w : World), t.size ≤ 100000 →
    Calls Try.prog 10 #[.string t] w fun e w' => ∃ (n : ByteArray) (v : Value) (ls : List Qu) (k : Int), e = .returned (.tuple #[.agg #[.string n, v], .int .i64 k]) ∧ RsLb w' v ls ∧ n.size ≤ maxLen ∧ SerAns t ⟨n, ls⟩ k ∧ Below w.heap.size w w'
  selector : ∀ (t : ByteArray) (w : World), t.size ≤ 100000 →
    Calls Try.prog 15 #[.string t] w fun e w' => ∃ (n : ByteArray) (v : Value) (qs : List Qu) (k : Int), e = .returned (.tuple #[.agg #[.string n, v], .int .i64 k]) ∧ RsQu w' v qs ∧ n.size ≤ maxLen ∧ SelAns t ⟨n, qs⟩ k ∧ Below w.heap.size w w'
  chooses : ∀ (m : ByteArray) (vq : Value) (qs : List Qu) (n : ByteArray) (vs : Value) (ls : List Qu) (w : World), RsQu w vq qs → RsLb w vs ls → m.size ≤ maxLen → n.size ≤ maxLen → ls.length ≤ 20 → qs.length ≤ 20 →
    Calls Try.prog 13 #[.agg #[.string m, vq], .agg #[.string n, vs]] w fun e w' => e = .returned (.bool (choosesB ⟨m, qs⟩ ⟨n, ls⟩)) ∧ Below w.heap.size w w'
theorem rsQu_none (w : World) : RsQu w (.slice none 0 0) [] := ⟨⟨⟨none, 0, rfl, Nat.zero_le _, fun i h => by cases h⟩, fun n c e => by injection e with _ _ e; exact e.symm⟩, fun q h => (List.not_mem_nil h).elim⟩
end Go.Proofs.Ytckgpocfcanokaa
