/- The contract of the law's awake: the document's examples stand. No condition. -/
import Derived.Test.YtenmdogalnhbjaaFloor
import Derived.Test.YtenmdogalnhbjaaSame
import Derived.Test.YtenmdogalnhbjaaPutShort
import Derived.Test.YtenmdogalnhbjaaTextB
namespace Go.Proofs.Ytenmdogalnhbjaa
open Go.RowKit

theorem rd_two {w : World} {t : TypeId} {y z : Int} {b c : UInt8} (hy : y = (b.toNat : Int)) (hz : z = (c.toNat : Int)) : Rd (w.alloc (.cells #[.int .u8 y, .int .u8 z] t)) (.slice (some ⟨w.heap.size, 0, none⟩) 2 2) [b, c] := by
  subst hy hz
  refine .inr ⟨w.heap.size, 0, 2, rfl, by simp, by simp, by unfold maxLen; omega, fun i hi => ?_⟩
  have h : i = 0 ∨ i = 1 := by simp at hi; omega
  rcases h with rfl | rfl <;> simp
theorem short_300 : shortB 9 300 = [172, 2] := by decide
theorem fl_m7 : flQ (-7) 2 = -4 ∧ flE (-7) 2 = 0 := by decide
theorem dec_64 : sgn (-1) (decB 39 18446744073709551616) = [45, 49, 56, 52, 52, 54, 55, 52, 52, 48, 55, 51, 55, 48, 57, 53, 53, 49, 54, 49, 54] := by decide +kernel

set_option maxHeartbeats 400000 in
theorem awake_any (w : World) :
    Calls Try.prog 7 #[] w fun e w' => e = .returned (.bool true) ∧ Below w.heap.size w w' := by
  have hf := floor_any (-7) 2 w (by omega)
  rw [fl_m7.1, fl_m7.2] at hf
  have HF := Lib.hid hf
  clear hf
  go_enter Try.func7, Try.ntmps7
  go_wp2_with (fail)
  refine HF.out.mono ?_
  rintro e w1 ⟨rfl, rfl⟩
  go_wp2_with (fail)
  have hp := putShort_any (.slice none 0 0) [] 300 w (Rd.nil w) (by simp) (by omega)
  rw [short_300] at hp
  refine hp.mono ?_
  rintro e w2 ⟨v2, rfl, own2, hb2⟩
  go_wp2_with (fail)
  refine (same_any _ _ [172, 2] [172, 2] _ ((Rd.of_own own2).alloc _) (rd_two rfl rfl)).mono ?_
  rintro e w3 ⟨rfl, n3, rfl⟩
  go_wp2_with (fail)
  have ht := fun W => text_any (-1) 0 W (by omega) (by omega) (by omega) (by omega) 18446744073709551616 (by decide)
  rw [dec_64] at ht
  refine (ht _).mono ?_
  rintro e w4 ⟨rfl, hb4⟩
  go_wp2_with (fail)
  go_ret
  exact ⟨rfl, (below_drewN (hb2.alloc hb2.size _) _).trans (hb4.mono (by have := hb2.size; simp; omega))⟩
end Go.Proofs.Ytenmdogalnhbjaa
