/- The contracts of num's Wide, Add and Less. Conditions: the halves of a wide number fit int64 and uint64. -/
import Derived.Test.YtenmdogalnhbjaaMem
namespace Go.Proofs.Ytenmdogalnhbjaa
open Go.RowKit

def adH (a b c d : Int) : Int := a + c + (if 18446744073709551616 ≤ b + d then 1 else 0)
def adOk (a b c d : Int) : Bool := decide (-9223372036854775808 ≤ adH a b c d ∧ adH a b c d ≤ 9223372036854775807)
def adHi (a b c d : Int) : Int := if adOk a b c d then adH a b c d else 0
def adLo (a b c d : Int) : Int := if adOk a b c d then (if 18446744073709551616 ≤ b + d then b + d - 18446744073709551616 else b + d) else 0
def adE (a b c d : Int) : Int := if adOk a b c d then 0 else 19

/-- What the tests of Add say of a sum. -/
theorem ad_close {a b c d L S T : Int} (ha : -9223372036854775808 ≤ a ∧ a ≤ 9223372036854775807) (hb : 0 ≤ b ∧ b ≤ 18446744073709551615) (hc : -9223372036854775808 ≤ c ∧ c ≤ 9223372036854775807) (hd : 0 ≤ d ∧ d ≤ 18446744073709551615)
    (hL : IntKind.u64.wrap (b + d) = L) (hS : wrap64 (a + c) = S) (hT : T = if L < b then wrap64 (S + 1) else S) :
    (((a < 0 ↔ c < 0) ∧ ¬ (T < 0 ↔ a < 0)) → adHi a b c d = 0 ∧ adLo a b c d = 0 ∧ adE a b c d = 19) ∧ (¬ ((a < 0 ↔ c < 0) ∧ ¬ (T < 0 ↔ a < 0)) → adHi a b c d = T ∧ adLo a b c d = L ∧ adE a b c d = 0) := by
  rw [IntKind.wrap_u64] at hL
  unfold wrap64 at hS hT
  by_cases hcar : 18446744073709551616 ≤ b + d
  · have h1 : L < b := by omega
    rw [if_pos h1] at hT
    have eH : adH a b c d = a + c + 1 := by unfold adH; rw [if_pos hcar]
    by_cases hk : adOk a b c d = true
    · have hk' := hk
      unfold adOk at hk'
      rw [decide_eq_true_eq, eH] at hk'
      refine ⟨fun h => by omega, fun h => ⟨?_, ?_, ?_⟩⟩
      · unfold adHi; rw [if_pos hk, eH]; omega
      · unfold adLo; rw [if_pos hk, if_pos hcar]; omega
      · unfold adE; rw [if_pos hk]
    · have hk' := hk
      unfold adOk at hk'
      rw [decide_eq_true_eq, eH] at hk'
      refine ⟨fun h => ⟨?_, ?_, ?_⟩, fun h => by omega⟩
      · unfold adHi; rw [if_neg hk]
      · unfold adLo; rw [if_neg hk]
      · unfold adE; rw [if_neg hk]
  · have h1 : ¬ L < b := by omega
    rw [if_neg h1] at hT
    have eH : adH a b c d = a + c := by unfold adH; rw [if_neg hcar]; omega
    by_cases hk : adOk a b c d = true
    · have hk' := hk
      unfold adOk at hk'
      rw [decide_eq_true_eq, eH] at hk'
      refine ⟨fun h => by omega, fun h => ⟨?_, ?_, ?_⟩⟩
      · unfold adHi; rw [if_pos hk, eH]; omega
      · unfold adLo; rw [if_pos hk, if_neg hcar]; omega
      · unfold adE; rw [if_pos hk]
    · have hk' := hk
      unfold adOk at hk'
      rw [decide_eq_true_eq, eH] at hk'
      refine ⟨fun h => ⟨?_, ?_, ?_⟩, fun h => by omega⟩
      · unfold adHi; rw [if_neg hk]
      · unfold adLo; rw [if_neg hk]
      · unfold adE; rw [if_neg hk]

def WPost (w : World) (h l x : Int) (e : Ending) (w' : World) : Prop := e = .returned (.tuple #[.agg #[.int .i64 h, .int .u64 l], .int .i64 x]) ∧ Below w.heap.size w w'

set_option maxHeartbeats 400000 in
theorem add_d1 (a b c d L S T : Int) (w : World) (hL : IntKind.u64.wrap (b + d) = L) (hS : wrap64 (a + c) = S) (hT : wrap64 (S + 1) = T) (hcar : L < b) (k1 : (decide (a < 0) == decide (c < 0)) = false) :
    Calls Try.prog 15 #[.agg #[.int .i64 a, .int .u64 b], .agg #[.int .i64 c, .int .u64 d]] w (WPost w T L 0) := by
  go_enter Try.func15, Try.ntmps15
  go_wp2
  go_returns
  exact ⟨rfl, by go_grown⟩
set_option maxHeartbeats 400000 in
theorem add_s1 (a b c d L S T : Int) (w : World) (hL : IntKind.u64.wrap (b + d) = L) (hS : wrap64 (a + c) = S) (hT : wrap64 (S + 1) = T) (hcar : L < b) (k1 : (decide (a < 0) == decide (c < 0)) = true) (k2 : (!decide (T < 0) == decide (a < 0)) = false) :
    Calls Try.prog 15 #[.agg #[.int .i64 a, .int .u64 b], .agg #[.int .i64 c, .int .u64 d]] w (WPost w T L 0) := by
  go_enter Try.func15, Try.ntmps15
  go_wp2
  go_returns
  exact ⟨rfl, by go_grown⟩
set_option maxHeartbeats 400000 in
theorem add_o1 (a b c d L S T : Int) (w : World) (hL : IntKind.u64.wrap (b + d) = L) (hS : wrap64 (a + c) = S) (hT : wrap64 (S + 1) = T) (hcar : L < b) (k1 : (decide (a < 0) == decide (c < 0)) = true) (k2 : (!decide (T < 0) == decide (a < 0)) = true) :
    Calls Try.prog 15 #[.agg #[.int .i64 a, .int .u64 b], .agg #[.int .i64 c, .int .u64 d]] w (WPost w 0 0 19) := by
  go_enter Try.func15, Try.ntmps15
  go_wp2
  go_returns
  exact ⟨rfl, by go_grown⟩
set_option maxHeartbeats 400000 in
theorem add_d0 (a b c d L S : Int) (w : World) (hL : IntKind.u64.wrap (b + d) = L) (hS : wrap64 (a + c) = S) (hcar : b ≤ L) (k1 : (decide (a < 0) == decide (c < 0)) = false) :
    Calls Try.prog 15 #[.agg #[.int .i64 a, .int .u64 b], .agg #[.int .i64 c, .int .u64 d]] w (WPost w S L 0) := by
  go_enter Try.func15, Try.ntmps15
  go_wp2
  go_returns
  exact ⟨rfl, by go_grown⟩
set_option maxHeartbeats 400000 in
theorem add_s0 (a b c d L S : Int) (w : World) (hL : IntKind.u64.wrap (b + d) = L) (hS : wrap64 (a + c) = S) (hcar : b ≤ L) (k1 : (decide (a < 0) == decide (c < 0)) = true) (k2 : (!decide (S < 0) == decide (a < 0)) = false) :
    Calls Try.prog 15 #[.agg #[.int .i64 a, .int .u64 b], .agg #[.int .i64 c, .int .u64 d]] w (WPost w S L 0) := by
  go_enter Try.func15, Try.ntmps15
  go_wp2
  go_returns
  exact ⟨rfl, by go_grown⟩
set_option maxHeartbeats 400000 in
theorem add_o0 (a b c d L S : Int) (w : World) (hL : IntKind.u64.wrap (b + d) = L) (hS : wrap64 (a + c) = S) (hcar : b ≤ L) (k1 : (decide (a < 0) == decide (c < 0)) = true) (k2 : (!decide (S < 0) == decide (a < 0)) = true) :
    Calls Try.prog 15 #[.agg #[.int .i64 a, .int .u64 b], .agg #[.int .i64 c, .int .u64 d]] w (WPost w 0 0 19) := by
  go_enter Try.func15, Try.ntmps15
  go_wp2
  go_returns
  exact ⟨rfl, by go_grown⟩

theorem add_any (a b c d : Int) (w : World) (ha : -9223372036854775808 ≤ a ∧ a ≤ 9223372036854775807) (hb : 0 ≤ b ∧ b ≤ 18446744073709551615) (hc : -9223372036854775808 ≤ c ∧ c ≤ 9223372036854775807) (hd : 0 ≤ d ∧ d ≤ 18446744073709551615) :
    Calls Try.prog 15 #[.agg #[.int .i64 a, .int .u64 b], .agg #[.int .i64 c, .int .u64 d]] w (WPost w (adHi a b c d) (adLo a b c d) (adE a b c d)) := by
  have hcl := fun T hT => @ad_close a b c d _ _ T ha hb hc hd rfl rfl hT
  by_cases hcar : IntKind.u64.wrap (b + d) < b
  · obtain ⟨h1, h2⟩ := hcl _ (if_pos hcar).symm
    by_cases e1 : (a < 0 ↔ c < 0)
    · by_cases e2 : (wrap64 (wrap64 (a + c) + 1) < 0 ↔ a < 0)
      · obtain ⟨r1, r2, r3⟩ := h2 (fun h => h.2 e2)
        rw [r1, r2, r3]
        exact add_s1 a b c d _ _ _ w rfl rfl rfl hcar (by simpa using e1) (by simpa using e2)
      · obtain ⟨r1, r2, r3⟩ := h1 ⟨e1, e2⟩
        rw [r1, r2, r3]
        exact add_o1 a b c d _ _ _ w rfl rfl rfl hcar (by simpa using e1) (by simpa using e2)
    · obtain ⟨r1, r2, r3⟩ := h2 (fun h => e1 h.1)
      rw [r1, r2, r3]
      exact add_d1 a b c d _ _ _ w rfl rfl rfl hcar (by simpa using e1)
  · obtain ⟨h1, h2⟩ := hcl _ (if_neg hcar).symm
    by_cases e1 : (a < 0 ↔ c < 0)
    · by_cases e2 : (wrap64 (a + c) < 0 ↔ a < 0)
      · obtain ⟨r1, r2, r3⟩ := h2 (fun h => h.2 e2)
        rw [r1, r2, r3]
        exact add_s0 a b c d _ _ w rfl rfl (by omega) (by simpa using e1) (by simpa using e2)
      · obtain ⟨r1, r2, r3⟩ := h1 ⟨e1, e2⟩
        rw [r1, r2, r3]
        exact add_o0 a b c d _ _ w rfl rfl (by omega) (by simpa using e1) (by simpa using e2)
    · obtain ⟨r1, r2, r3⟩ := h2 (fun h => e1 h.1)
      rw [r1, r2, r3]
      exact add_d0 a b c d _ _ w rfl rfl (by omega) (by simpa using e1)
end Go.Proofs.Ytenmdogalnhbjaa
