/- The developers' label keeps what the laws need of it. No condition of its own. -/
import Derived.Test.YtckgpocfcanokaaLkCho
import Derived.Test.YtckgpocfcanokaaLkParM
import Derived.Test.YtckgpocfcanokaaLkSelB
namespace Go.Proofs.Ytckgpocfcanokaa
open Go.RowKit

theorem labelc : LabelC where
  check := checkK_any
  text := textL_any
  parse := parseL_any
  selector := selectorL_any
  chooses := fun m vq qs n vs ls w hq hr _ _ hl hlq => choosesK_any m vq qs n vs ls w hq hr hl hlq
end Go.Proofs.Ytckgpocfcanokaa
