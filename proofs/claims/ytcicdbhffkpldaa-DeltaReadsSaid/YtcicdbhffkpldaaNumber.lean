/- The contract of the reference's Number: the number whose form bytes are. Conditions: at most eight bytes. -/
import Derived.Test.YtcicdbhffkpldaaPart2
namespace Go.Proofs.Ytcicdbhffkpldaa
open Go.RowKit

def NumRel (xs : List UInt8) (s i : Value) : Prop := ∃ j : Nat, i = .int .i64 ((j : Int) - 1) ∧ j ≤ xs.length ∧ s = .int .u64 (numB (xs.drop j) : Nat)
set_option maxHeartbeats 400000 in
theorem number_any (v : Value) (xs : List UInt8) (w : World) (h : Rd w v xs) (h8 : xs.length ≤ 8) :
    Calls Try.prog 19 #[v] w fun e w' => e = .returned (.int .u64 (numB xs : Nat)) ∧ w = w' := by
  obtain ⟨A, c, rfl, hc1, hc2, hA⟩ := h.form
  unfold maxLen at hc2
  have HA := Lib.hid hA
  clear h hA
  go_enter Try.func19, Try.ntmps19
  go_wp2_with (fail)
  go_loop [3, 4] (fun s i => NumRel xs s i) (fun _ i => ((intOf i) + 1).toNat)
  case atStart => exact ⟨xs.length, rfl, by omega, by simp [numB]⟩
  case round =>
    obtain ⟨j, rfl, hj, rfl⟩ := hrel
    by_cases hlt : 0 < j
    · obtain ⟨b, off, rfl, hb1, hb2⟩ := HA.out (by omega)
      have hc := hb2 (j - 1) (by omega)
      obtain ⟨m, hm⟩ : ∃ m, m = numB (xs.drop j) := ⟨_, rfl⟩
      obtain ⟨x, hx⟩ : ∃ x, x = (xs[j - 1]'(by omega)).toNat := ⟨_, rfl⟩
      rw [← hm]
      rw [← hx] at hc
      have hxl : x < 256 := by rw [hx]; exact UInt8.toNat_lt _
      have hml : m * 256 + x ≤ 18446744073709551615 := by
        have h1 := numB_lt (xs.drop (j - 1))
        have h2 := numB_drop xs (j - 1) (by omega)
        rw [show j - 1 + 1 = j by omega] at h2
        have h3 : (256 : Nat) ^ (xs.drop (j - 1)).length ≤ 256 ^ 8 := Nat.pow_le_pow_right (by omega) (by simp; omega)
        omega
      have hml2 : (m : Int) * 256 + x ≤ 18446744073709551615 := by omega
      have HX := Lib.hid hx
      have HM := Lib.hid hm
      clear hx hm hml hb2
      go_wp2
      go_round
      case rel =>
        have e1 := numB_drop xs (j - 1) (by omega)
        have e2 : numB (xs.drop (j - 1)) = m * 256 + x := by
          rw [e1, show j - 1 + 1 = j by omega, HM.out, HX.out]
        refine ⟨j - 1, ?_, by omega, ?_⟩
        · rw [show ((j - 1 : Nat) : Int) = (j : Int) - 1 by omega]
        · rw [e2]
          exact congrArg (Value.int .u64) (by simp)
      case measure => simp [intOf]; omega
    · obtain rfl : j = 0 := by omega
      go_wp2
      go_ret
      exact ⟨rfl, rfl⟩
end Go.Proofs.Ytcicdbhffkpldaa
