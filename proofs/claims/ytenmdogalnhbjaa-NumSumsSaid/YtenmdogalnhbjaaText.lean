/- The contracts of num's apart, tenth and Text. Conditions: the halves of a wide number fit int64 and uint64. -/
import Derived.Test.YtenmdogalnhbjaaMem
import Derived.Laws.BitsAllLaws
import Derived.Laws.ResultCell
namespace Go.Proofs.Ytenmdogalnhbjaa
open Go.RowKit

def absH (hi lo : Int) : Int := if 0 ≤ hi then hi else if lo = 0 then -hi else -hi - 1
def absL (hi lo : Int) : Int := if 0 ≤ hi then lo else if lo = 0 then 0 else 18446744073709551616 - lo
def quarters (h l : Int) : Value := .agg #[.int .u32 (h / 4294967296), .int .u32 (h % 4294967296), .int .u32 (l / 4294967296), .int .u32 (l % 4294967296)]

theorem nat_not64 (k : Nat) (h : k < 18446744073709551616) : 18446744073709551615 ^^^ k = 18446744073709551615 - k := by
  have h1 : (BitVec.allOnes 64 ^^^ BitVec.ofNat 64 k) = ~~~ (BitVec.ofNat 64 k) := BitVec.allOnes_xor
  have h2 := congrArg BitVec.toNat h1
  rw [BitVec.toNat_xor, BitVec.toNat_not, BitVec.toNat_ofNat, BitVec.toNat_allOnes, Nat.mod_eq_of_lt (by omega)] at h2
  simpa using h2
theorem u64_not (hi : Int) (h1 : -9223372036854775808 ≤ hi) (h2 : hi < 0) : bits .xor .u64 IntKind.u64.max (IntKind.u64.wrap hi) = -hi - 1 := by
  have e : IntKind.u64.wrap hi = hi + 18446744073709551616 := by rw [IntKind.wrap_u64]; omega
  have e2 : IntKind.u64.max = ((18446744073709551615 : Nat) : Int) := by decide
  obtain ⟨k, hk⟩ : ∃ k : Nat, hi + 18446744073709551616 = (k : Int) := ⟨(hi + 18446744073709551616).toNat, by omega⟩
  rw [e, e2, hk]
  rw [u64_xor_nat _ _ (by omega) (by omega)]
  have e3 := nat_not64 k (by omega)
  rw [e3]
  omega
theorem u64_neg (lo : Int) (h1 : 0 < lo) (h2 : lo ≤ 18446744073709551615) : IntKind.u64.wrap (-lo) = 18446744073709551616 - lo := by rw [IntKind.wrap_u64]; omega
theorem ret_q {a b c d a' b' c' d' : Int} (ha : a = a') (hb : b = b') (hc : c = c') (hd : d = d') :
    Ending.returned (.agg #[.int .u32 a, .int .u32 b, .int .u32 c, .int .u32 d]) = .returned (.agg #[.int .u32 a', .int .u32 b', .int .u32 c', .int .u32 d']) := by rw [ha, hb, hc, hd]
theorem neg_zero_end (hi : Int) (h : hi < 0) (h1 : -9223372036854775808 ≤ hi) :
    Ending.returned (.agg #[.int .u32 (IntKind.u64.wrap (-hi - 1 + 1) / 4294967296 % 4294967296), .int .u32 (IntKind.u64.wrap (-hi - 1 + 1) % 4294967296), .int .u32 0, .int .u32 0]) = .returned (quarters (-hi) 0) := by
  have e : IntKind.u64.wrap (-hi - 1 + 1) = -hi := by rw [IntKind.wrap_u64]; omega
  rw [e]
  exact ret_q (by omega) rfl (by omega) (by omega)
theorem neg_end (hi lo : Int) (h : hi < 0) (h1 : -9223372036854775808 ≤ hi) (h2 : 0 < lo) (h3 : lo ≤ 18446744073709551615) :
    Ending.returned (.agg #[.int .u32 ((-hi - 1) / 4294967296 % 4294967296), .int .u32 ((-hi - 1) % 4294967296), .int .u32 ((18446744073709551616 - lo) / 4294967296 % 4294967296), .int .u32 ((18446744073709551616 - lo) % 4294967296)]) = .returned (quarters (-hi - 1) (18446744073709551616 - lo)) :=
  ret_q (by omega) rfl (by omega) rfl
set_option maxHeartbeats 400000 in
theorem apart_pos (hi lo : Int) (w : World) (hp : 0 ≤ hi) (h2 : hi ≤ 9223372036854775807) (h3 : 0 ≤ lo) (h4 : lo ≤ 18446744073709551615) :
    Calls Try.prog 28 #[.agg #[.int .i64 hi, .int .u64 lo]] w fun e w' => e = .returned (quarters (hi) (lo)) ∧ Below w.heap.size w w' := by
  go_enter Try.func28, Try.ntmps28
  go_wp2
  go_quiet (fail)
  go_wp2
  go_returns
  exact ⟨rfl, by repeat (first | exact Below.refl _ _ | (refine below_drewN ?_ _) | (refine Below.setCell ?_ (by simp) _) | (refine Below.alloc ?_ (by simp) _))⟩
set_option maxHeartbeats 400000 in
theorem apart_zero (hi : Int) (w : World) (h1 : -9223372036854775808 ≤ hi) (hp : hi < 0) :
    Calls Try.prog 28 #[.agg #[.int .i64 hi, .int .u64 0]] w fun e w' => e = .returned (quarters (-hi) (0)) ∧ Below w.heap.size w w' := by
  have k1 : Hid (bits .xor .u64 IntKind.u64.max (IntKind.u64.wrap hi) = -hi - 1) := u64_not hi h1 (by omega)
  go_enter Try.func28, Try.ntmps28
  go_wp2
  go_quiet (fail)
  go_wp2
  go_returns
  refine ⟨?_, by repeat (first | exact Below.refl _ _ | (refine below_drewN ?_ _) | (refine Below.setCell ?_ (by simp) _) | (refine Below.alloc ?_ (by simp) _))⟩
  rw [k1.out]
  exact neg_zero_end hi (by omega) h1
set_option maxHeartbeats 400000 in
theorem apart_neg (hi lo : Int) (w : World) (h1 : -9223372036854775808 ≤ hi) (hp : hi < 0) (h3 : 0 < lo) (h4 : lo ≤ 18446744073709551615) :
    Calls Try.prog 28 #[.agg #[.int .i64 hi, .int .u64 lo]] w fun e w' => e = .returned (quarters (-hi - 1) (18446744073709551616 - lo)) ∧ Below w.heap.size w w' := by
  have k1 : Hid (bits .xor .u64 IntKind.u64.max (IntKind.u64.wrap hi) = -hi - 1) := u64_not hi h1 (by omega)
  have k2 : Hid (IntKind.u64.wrap (-lo) = 18446744073709551616 - lo) := u64_neg lo (by omega) h4
  have k3 : (IntKind.u64.wrap (-lo) == 0) = false := by rw [k2.out]; simp; omega
  obtain ⟨R, hR⟩ : ∃ R, R = quarters (-hi - 1) (18446744073709551616 - lo) := ⟨_, rfl⟩
  rw [← hR]
  have HR := Lib.hid hR
  clear hR
  go_enter Try.func28, Try.ntmps28
  go_wp2
  go_quiet (fail)
  go_wp2
  go_returns
  refine ⟨?_, by repeat (first | exact Below.refl _ _ | (refine below_drewN ?_ _) | (refine Below.setCell ?_ (by simp) _) | (refine Below.alloc ?_ (by simp) _))⟩
  rw [HR.out, k1.out, k2.out]
  exact neg_end hi lo (by omega) h1 (by omega) h4

theorem apart_any (hi lo : Int) (w : World) (h1 : -9223372036854775808 ≤ hi) (h2 : hi ≤ 9223372036854775807) (h3 : 0 ≤ lo) (h4 : lo ≤ 18446744073709551615) :
    Calls Try.prog 28 #[.agg #[.int .i64 hi, .int .u64 lo]] w fun e w' => e = .returned (quarters (absH hi lo) (absL hi lo)) ∧ Below w.heap.size w w' := by
  by_cases hp : 0 ≤ hi
  · have e1 : absH hi lo = hi := if_pos hp
    have e2 : absL hi lo = lo := if_pos hp
    rw [e1, e2]
    exact apart_pos hi lo w hp h2 h3 h4
  · by_cases hz : lo = 0
    · subst hz
      have e1 : absH hi 0 = -hi := by unfold absH; rw [if_neg hp, if_pos rfl]
      have e2 : absL hi 0 = 0 := by unfold absL; rw [if_neg hp, if_pos rfl]
      rw [e1, e2]
      exact apart_zero hi w h1 (by omega)
    · have e1 : absH hi lo = -hi - 1 := by unfold absH; rw [if_neg hp, if_neg hz]
      have e2 : absL hi lo = 18446744073709551616 - lo := by unfold absL; rw [if_neg hp, if_neg hz]
      rw [e1, e2]
      exact apart_neg hi lo w h1 (by omega) (by omega) h4
end Go.Proofs.Ytenmdogalnhbjaa
