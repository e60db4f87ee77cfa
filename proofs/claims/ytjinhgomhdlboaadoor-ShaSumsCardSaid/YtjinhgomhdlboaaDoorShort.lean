/- The contract of sha.Short: the number whose form a fingerprint's first eight bytes are. Condition: 32 bytes. -/
import Derived.Test.YtjinhgomhdlboaaDoorGet
import Derived.Test.YtjinhgomhdlboaaDoorRefSum
namespace Go.Proofs.YtjinhgomhdlboaaDoor
open Go.RowKit

theorem Blk.rd {w : World} {B : Nat} {t : TypeId} {xs : List UInt8} (h : Blk w B t (xs.map bv)) (n c : Nat) (hn : n ≤ xs.length) (hc : n ≤ c) (hm : c ≤ maxLen) : Rd w (.slice (some ⟨B, 0, none⟩) n c) (xs.take n) := by
  have hl : (xs.take n).length = n := by simp; omega
  refine .inr ⟨B, 0, c, by rw [hl], h.lt, by omega, hm, fun i hi => ?_⟩
  rw [hl] at hi
  rw [Nat.zero_add, h.cell i, List.getElem?_map, List.getElem?_eq_getElem (by omega)]
  simp [bv]
set_option maxRecDepth 100000 in
set_option maxHeartbeats 400000 in
theorem short_any (xs : List UInt8) (w : World) (hl : xs.length = 32) :
    Calls Tryd.prog 11 #[arrV xs] w fun e w' => e = .returned (.int .u64 (numB (xs.take 8) : Nat)) ∧ Below w.heap.size w w' := by
  have HB := Lib.hid (Blk.made w 27 (xs.map bv))
  have HR := Lib.hid (HB.out.rd 8 32 (by omega) (by omega) (by unfold maxLen; omega))
  have HL := Lib.hid hl
  clear hl
  unfold arrV
  go_enter Tryd.func11, Tryd.ntmps11
  go_wp2_with (fail)
  refine (get_yes _ (xs.take 8) 8 _ HR.out (by omega) (by omega) (by rw [List.length_take, HL.out]; omega)).mono ?_
  rintro e w1 ⟨rfl, rfl⟩
  rw [List.take_take]
  go_wp2_with (fail)
  go_ret
  exact ⟨rfl, (Below.refl _ _).alloc (Nat.le_refl _) _⟩
end Go.Proofs.YtjinhgomhdlboaaDoor
