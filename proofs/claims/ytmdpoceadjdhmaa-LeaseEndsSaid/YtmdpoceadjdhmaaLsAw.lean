/- The twelfth law's example. Premise: the lease's contracts. -/
import Derived.Test.YtmdpoceadjdhmaaLsCon
namespace Go.Proofs.Ytmdpoceadjdhmaa
open Go.RowKit

set_option maxRecDepth 100000 in
set_option maxHeartbeats 2000000 in
theorem awakeL_any (LC : LeaseC) (w : World) : Calls Try.prog 17 #[] w fun e w' => e = .returned (.bool true) ∧ Below w.heap.size w w' := by
  have HNW : Hid (Calls Try.prog 6 #[.int .u16 3, .int .u64 10] w fun e w' => ∃ p, e = .returned p ∧ LKeep LC w p ⟨3, 10, 10⟩ w') := Lib.hid ((lk_new (Below.refl _ w) (node := 3) (b := 10) (by omega) (by omega)).mono fun _ _ ⟨p, h1, h2, _⟩ => ⟨p, h1, h2⟩)
  have HG : Hid (∀ W p, LKeep LC w p ⟨3, 10, 10⟩ W → Calls Try.prog 12 #[p, .int .u64 12] W fun e w' => e = .returned (.int .i64 0) ∧ LKeep LC w p ⟨3, 10, 12⟩ w') := Lib.hid fun W p h => lk_grant h (b := 12) (by omega)
  have HT1 : Hid (∀ W p, LKeep LC w p ⟨3, 10, 12⟩ W → Calls Try.prog 8 #[p] W fun e w' => e = .returned (.tuple #[.int .u64 10, .int .i64 0]) ∧ LKeep LC w p ⟨3, 11, 12⟩ w') := Lib.hid fun W p h => lk_take h
  have HT2 : Hid (∀ W p, LKeep LC w p ⟨3, 11, 12⟩ W → Calls Try.prog 8 #[p] W fun e w' => e = .returned (.tuple #[.int .u64 11, .int .i64 0]) ∧ LKeep LC w p ⟨3, 12, 12⟩ w') := Lib.hid fun W p h => lk_take h
  have HT3 : Hid (∀ W p, LKeep LC w p ⟨3, 12, 12⟩ W → Calls Try.prog 8 #[p] W fun e w' => e = .returned (.tuple #[.int .u64 0, .int .i64 14]) ∧ LKeep LC w p ⟨3, 12, 12⟩ w') := Lib.hid fun W p h => lk_take h
  go_enter Try.func17, Try.ntmps17
  go_wp2_with (fail)
  refine HNW.out.mono ?_
  rintro e w1 ⟨p, rfl, h⟩
  have K1 := Lib.hid h
  clear h
  go_wp2_with (fail)
  refine (HG.out w1 p K1.out).mono ?_
  rintro e w2 ⟨rfl, h⟩
  have K2 := Lib.hid h
  clear h
  go_wp2_with (fail)
  refine (HT1.out w2 p K2.out).mono ?_
  rintro e w3 ⟨rfl, h⟩
  have K3 := Lib.hid h
  clear h
  go_wp2_with (fail)
  refine (HT2.out w3 p K3.out).mono ?_
  rintro e w4 ⟨rfl, h⟩
  have K4 := Lib.hid h
  clear h
  go_wp2_with (fail)
  refine (HT3.out w4 p K4.out).mono ?_
  rintro e w5 ⟨rfl, h⟩
  have K5 := Lib.hid h
  clear h
  go_wp2_with (fail)
  go_ret
  exact ⟨rfl, K5.out.old⟩
end Go.Proofs.Ytmdpoceadjdhmaa
