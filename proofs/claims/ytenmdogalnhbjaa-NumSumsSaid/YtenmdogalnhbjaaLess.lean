/- The contracts of num's Wide and Less, and of the reference's Less. Conditions: none (Wide: its number fits int64). -/
import Derived.Test.YtenmdogalnhbjaaMem
namespace Go.Proofs.Ytenmdogalnhbjaa
open Go.RowKit

def ltW (a b c d : Int) : Bool := if a = c then decide (b < d) else decide (a < c)
def wideH (n : Int) : Int := if n < 0 then -1 else 0
def wideL (n : Int) : Int := if n < 0 then n + 18446744073709551616 else n
theorem wide_in (n : Int) (h : -9223372036854775808 ≤ n ∧ n ≤ 9223372036854775807) : (-9223372036854775808 ≤ wideH n ∧ wideH n ≤ 9223372036854775807) ∧ 0 ≤ wideL n ∧ wideL n ≤ 18446744073709551615 := by
  unfold wideH wideL
  split <;> omega
theorem wide_h (n : Int) (h : -9223372036854775808 ≤ n ∧ n ≤ 9223372036854775807) : n / 9223372036854775808 = wideH n := by
  unfold wideH
  split <;> omega
theorem wide_l (n : Int) (h : -9223372036854775808 ≤ n ∧ n ≤ 9223372036854775807) : IntKind.u64.wrap n = wideL n := by
  unfold wideL
  rw [IntKind.wrap_u64]
  split <;> omega
theorem ret_w {a b c d : Int} (h : a = c) (h' : b = d) : Ending.returned (.agg #[.int .i64 a, .int .u64 b]) = .returned (.agg #[.int .i64 c, .int .u64 d]) := by rw [h, h']

set_option maxHeartbeats 400000 in
theorem wide_any (n : Int) (w : World) (h : -9223372036854775808 ≤ n ∧ n ≤ 9223372036854775807) :
    Calls Try.prog 21 #[.int .i64 n] w fun e w' => e = .returned (.agg #[.int .i64 (wideH n), .int .u64 (wideL n)]) ∧ Below w.heap.size w w' := by
  obtain ⟨L, hL⟩ : ∃ L, IntKind.u64.wrap n = L := ⟨_, rfl⟩
  have HL := Lib.hid (hL.symm.trans (wide_l n h))
  have HH := Lib.hid h
  clear h
  go_enter Try.func21, Try.ntmps21
  go_wp2
  go_returns
  exact ⟨ret_w (wide_h n HH.out) HL.out, by go_grown⟩

set_option maxHeartbeats 400000 in
theorem less_eq (a b d : Int) (w : World) :
    Calls Try.prog 17 #[.agg #[.int .i64 a, .int .u64 b], .agg #[.int .i64 a, .int .u64 d]] w fun e w' => e = .returned (.bool (decide (b < d))) ∧ Below w.heap.size w w' := by
  go_enter Try.func17, Try.ntmps17
  go_wp2
  go_returns
  exact ⟨rfl, by go_grown⟩

set_option maxHeartbeats 400000 in
theorem less_ne (a b c d : Int) (w : World) (h : (a != c) = true) :
    Calls Try.prog 17 #[.agg #[.int .i64 a, .int .u64 b], .agg #[.int .i64 c, .int .u64 d]] w fun e w' => e = .returned (.bool (decide (a < c))) ∧ Below w.heap.size w w' := by
  go_enter Try.func17, Try.ntmps17
  go_wp2
  go_returns
  exact ⟨rfl, by go_grown⟩

theorem less_any (a b c d : Int) (w : World) :
    Calls Try.prog 17 #[.agg #[.int .i64 a, .int .u64 b], .agg #[.int .i64 c, .int .u64 d]] w fun e w' => e = .returned (.bool (ltW a b c d)) ∧ Below w.heap.size w w' := by
  by_cases h : a = c
  · subst h
    have e : ltW a b a d = decide (b < d) := if_pos rfl
    rw [e]
    exact less_eq a b d w
  · have e : ltW a b c d = decide (a < c) := if_neg h
    rw [e]
    exact less_ne a b c d w (by simpa using h)
end Go.Proofs.Ytenmdogalnhbjaa
