/- A block of bytes that is known whole, read as a slice. No condition of its own. -/
import Derived.Test.YtpjidfcbckndfaaDoorBlk
namespace Go.Proofs.YtpjidfcbckndfaaDoor
open Go.RowKit

theorem Blk.rd {w : World} {B : Nat} {t : TypeId} {xs : List UInt8} (h : Blk w B t (xs.map bv)) (n c : Nat) (hn : n ≤ xs.length) (hc : n ≤ c) (hm : c ≤ maxLen) : Rd w (.slice (some ⟨B, 0, none⟩) n c) (xs.take n) := by
  have hl : (xs.take n).length = n := by simp; omega
  refine .inr ⟨B, 0, c, by rw [hl], h.lt, by omega, hm, fun i hi => ?_⟩
  rw [hl] at hi
  rw [Nat.zero_add, h.cell i, List.getElem?_map, List.getElem?_eq_getElem (by omega)]
  simp [bv]
end Go.Proofs.YtpjidfcbckndfaaDoor
