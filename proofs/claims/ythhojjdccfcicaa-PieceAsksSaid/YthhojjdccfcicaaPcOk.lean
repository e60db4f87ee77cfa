/- Pieces that came out of a program, as values. No condition. -/
import Derived.Test.YthhojjdccfcicaaPcSpec
namespace Go.Proofs.Ythhojjdccfcicaa
open Go.RowKit

/-- A piece that came out of a program. -/
def PcO : Type := {p : Pc // p.Ok}
instance : Inhabited PcO := ⟨⟨⟨ByteArray.empty, 0, 0, 0, 0⟩, ⟨by decide, by decide, by decide, by decide, by decide⟩⟩⟩
def encP (p : PcO) : List Value := p.1.vs
theorem encP_len (p : PcO) : (encP p).length = 5 := rfl
def pcV (p : PcO) : Value := .agg (encP p).toArray
end Go.Proofs.Ythhojjdccfcicaa
