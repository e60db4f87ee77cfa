/- The walk of 'FieldAny' (law 7): tables of any bytes answer; none answer 0. Premises: the contracts of field's functions over any tables, and over none. -/
import Derived.Test.YtnkalmclbpgnbaaFieldC
namespace Go.Proofs.Ytnkalmclbpgnbaa.fieldAny
open Go.RowKit

set_option maxRecDepth 100000 in
set_option maxHeartbeats 2000000 in
theorem walkC (HB : BuildC) (HM : MulC) (mA : MulA) (iA : InvA) (dA : DivA) (eA : EvalA) (mN : MulN) (iN : InvN) (dN : DivN) (eN : EvalN) (bs : List UInt8) (a1 a2 : Int) (v3 : Value) (l : List UInt8) (w : World) (k0 : bs.length = 512) (k1 : (Lit.int .u8 a1).wf = true) (k2 : (Lit.int .u8 a2).wf = true) (k3 : Rd w v3 l) :
    Calls Try.prog 6 #[.agg (bs.map bv).toArray, .int .u8 a1, .int .u8 a2, v3] w fun e w' => e = .returned (.bool true) ∧ Below w.heap.size w w' := by
  have b1 := bounds_u8 k1
  have b2 := bounds_u8 k2
  obtain ⟨a, rfl⟩ : ∃ m : Nat, a1 = (m : Int) := ⟨a1.toNat, by omega⟩
  obtain ⟨b, rfl⟩ : ∃ m : Nat, a2 = (m : Int) := ⟨a2.toNat, by omega⟩
  have HAB : Hid (a < 256 ∧ b < 256) := Lib.hid (by omega)
  obtain ⟨A3, c3, rfl, _, hc3, _⟩ := k3.form
  have R := Lib.hid k3
  have LN : Hid (l.length ≤ 300 ∨ 300 < l.length) := Lib.hid (by omega)
  unfold maxLen at hc3
  obtain ⟨W0, hW0⟩ : ∃ W : World, W = w.alloc (.cells (bs.map bv).toArray 26) := ⟨_, rfl⟩
  have D0 : Hid (Below w.heap.size w W0) := Lib.hid (by rw [hW0]; exact (Below.refl _ _).alloc (Nat.le_refl _) _)
  have T0 : Hid (AnyT W0 w.heap.size) := Lib.hid (by rw [hW0]; exact ⟨bs, k0, Blk.made w _ _⟩)
  clear k0 k1 k2 k3
  by_cases hl : 300 < l.length
  · have lI : (300 : Int) < l.length := by omega
    go_enter Try.func6, Try.ntmps6
    go_wp2_with (refine Go.Great.wpList_boxTo rfl _ _ rfl _ rfl w.heap.size rfl ((bs.map bv).toArray) rfl ?_)
    rw [← hW0]
    refine (fieldAwake_any HB HM _).mono ?_
    rintro e w9 ⟨rfl, hb9⟩
    go_wp2_with (fail)
    go_ret
    exact ⟨rfl, D0.out.trans (hb9.mono D0.out.size)⟩
  have lI : (l.length : Int) ≤ 300 := by omega
  have L3 : Hid (l.length ≤ 300) := Lib.hid (by omega)
  clear hl LN
  go_enter Try.func6, Try.ntmps6
  go_wp2_with (refine Go.Great.wpList_boxTo rfl _ _ rfl _ rfl w.heap.size rfl ((bs.map bv).toArray) rfl ?_)
  rw [← hW0]
  clear hW0
  refine (mA w.heap.size a b W0 T0.out HAB.out.1 HAB.out.2).mono ?_
  rintro e W1 ⟨⟨v0, rfl⟩, hb⟩
  have D1 : Hid (Below w.heap.size w W1) := Lib.hid (D0.out.trans (hb.mono D0.out.size))
  have T1 : Hid (AnyT W1 w.heap.size) := Lib.hid (T0.out.below hb)
  clear hb D0 T0
  go_wp2_with (fail)
  refine (iA w.heap.size a W1 T1.out HAB.out.1).mono ?_
  rintro e W2 ⟨⟨v1, rfl⟩, hb⟩
  have D2 : Hid (Below w.heap.size w W2) := Lib.hid (D1.out.trans (hb.mono D1.out.size))
  have T2 : Hid (AnyT W2 w.heap.size) := Lib.hid (T1.out.below hb)
  clear hb D1 T1
  go_wp2_with (fail)
  refine (dA w.heap.size a b W2 T2.out HAB.out.1 HAB.out.2).mono ?_
  rintro e W3 ⟨⟨v2, rfl⟩, hb⟩
  have D3 : Hid (Below w.heap.size w W3) := Lib.hid (D2.out.trans (hb.mono D2.out.size))
  have T3 : Hid (AnyT W3 w.heap.size) := Lib.hid (T2.out.below hb)
  clear hb D2 T2
  go_wp2_with (fail)
  refine (eA w.heap.size _ l a W3 T3.out (R.out.below D3.out) (by have := L3.out; omega) HAB.out.1).mono ?_
  rintro e W4 ⟨⟨v3, rfl⟩, hb⟩
  have D4 : Hid (Below w.heap.size w W4) := Lib.hid (D3.out.trans (hb.mono D3.out.size))
  have T4 : Hid (AnyT W4 w.heap.size) := Lib.hid (T3.out.below hb)
  clear hb D3 T3
  go_wp2_with (fail)
  refine (iN a W4 HAB.out.1).mono ?_
  rintro e W5 ⟨rfl, hb⟩
  have D5 : Hid (Below w.heap.size w W5) := Lib.hid (D4.out.trans (hb.mono D4.out.size))
  have T5 : Hid (AnyT W5 w.heap.size) := Lib.hid (T4.out.below hb)
  clear hb D4 T4
  go_wp2_with (fail)
  refine (dN a b W5 HAB.out.1 HAB.out.2).mono ?_
  rintro e W6 ⟨rfl, hb⟩
  have D6 : Hid (Below w.heap.size w W6) := Lib.hid (D5.out.trans (hb.mono D5.out.size))
  have T6 : Hid (AnyT W6 w.heap.size) := Lib.hid (T5.out.below hb)
  clear hb D5 T5
  go_wp2_with (fail)
  refine (mN a b W6 HAB.out.1 HAB.out.2).mono ?_
  rintro e W7 ⟨rfl, hb⟩
  have D7 : Hid (Below w.heap.size w W7) := Lib.hid (D6.out.trans (hb.mono D6.out.size))
  have T7 : Hid (AnyT W7 w.heap.size) := Lib.hid (T6.out.below hb)
  clear hb D6 T6
  go_wp2_with (fail)
  refine (eN _ l a W7 (R.out.below D7.out) (by have := L3.out; omega) HAB.out.1).mono ?_
  rintro e W8 ⟨rfl, hb⟩
  have D8 : Hid (Below w.heap.size w W8) := Lib.hid (D7.out.trans (hb.mono D7.out.size))
  have T8 : Hid (AnyT W8 w.heap.size) := Lib.hid (T7.out.below hb)
  clear hb D7 T7
  go_wp2_with (fail)
  refine (fieldAwake_any HB HM _).mono ?_
  rintro e w9 ⟨rfl, hb9⟩
  go_wp2_with (fail)
  go_ret
  exact ⟨rfl, D8.out.trans (hb9.mono D8.out.size)⟩
end Go.Proofs.Ytnkalmclbpgnbaa.fieldAny
