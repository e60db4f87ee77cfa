/- Bytes as a text. No program in sight, no condition. -/
import Derived.Test.YtckgpocfcanokaaPcSpec
namespace Go.Proofs.Ytckgpocfcanokaa
open Go.RowKit

def strOf (l : List UInt8) : ByteArray := ⟨l.toArray⟩
theorem strOf_list (l : List UInt8) : (strOf l).toList = l := by rw [ByteArray.toList_eq]; rfl
theorem strOf_str (t : ByteArray) : strOf t.toList = t := str_inj (strOf_list _)
theorem strOf_size (l : List UInt8) : (strOf l).size = l.length := rfl
end Go.Proofs.Ytckgpocfcanokaa
