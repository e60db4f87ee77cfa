/- The fifth layer's example, reckoned: no program in sight, no condition. -/
import Derived.Test.YtlcpplnajaldgaaPolMath
import Derived.KernelRfl
namespace Go.Proofs.Ytlcpplnajaldgaa
open Go.RowKit

def exKey : List UInt8 := [133, 214, 190, 120, 87, 85, 109, 51, 127, 68, 82, 254, 66, 213, 6, 168, 1, 3, 128, 138, 251, 13, 178, 253, 74, 191, 246, 175, 65, 73, 245, 27]
def exTxt : List UInt8 := [67, 114, 121, 112, 116, 111, 103, 114, 97, 112, 104, 105, 99, 32, 70, 111, 114, 117, 109, 32, 82, 101, 115, 101, 97, 114, 99, 104, 32, 71, 114, 111, 117, 112]
def exTag : List UInt8 := [168, 6, 29, 193, 48, 81, 54, 198, 194, 43, 139, 175, 12, 1, 39, 169]
/-- The tag of the document's example. -/
theorem tag_example : tagB exKey exTxt = exTag := by kernel_rfl
end Go.Proofs.Ytlcpplnajaldgaa
