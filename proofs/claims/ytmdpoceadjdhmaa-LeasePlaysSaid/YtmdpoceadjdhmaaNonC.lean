/- What a layer needs of aead's NonceOf. Premise: the contract itself. -/
import Derived.Test.YtmdpoceadjdhmaaNonB
import Derived.Test.YtmdpoceadjdhmaaGen
namespace Go.Proofs.Ytmdpoceadjdhmaa
open Go.RowKit

/-- A node's nonce of a count. -/
def NonceC : Prop := ∀ (node count : Nat) (w : World), node < 65536 → count < 18446744073709551616 →
  Calls Try.prog 18 #[.int .u16 (node : Int), .int .u64 (count : Int)] w fun e w' => e = .returned (.tuple #[arrV (if 4611686018427387904 < count then List.replicate 12 0 else nonceB node count), .int .i64 (if 4611686018427387904 < count then 12 else 0)]) ∧ Below w.heap.size w w'
end Go.Proofs.Ytmdpoceadjdhmaa
