/- A nonce's bytes. No program in sight, no condition. -/
import Derived.Test.YtmdpoceadjdhmaaBytes
namespace Go.Proofs.Ytmdpoceadjdhmaa
open Go.RowKit

/-- A node's nonce of a count. -/
def nonceB (node count : Nat) : List UInt8 := leB 8 count ++ leB 2 node ++ [0, 0]
theorem nonceB_length (node count : Nat) : (nonceB node count).length = 12 := by simp [nonceB, leB_length]
end Go.Proofs.Ytmdpoceadjdhmaa
