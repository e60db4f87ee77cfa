/- The contract of num.Get at a width that may be, where there are bytes enough. No condition of its own. -/
import Derived.Test.YtlcpplnajaldgaaWidth
import Derived.Laws.BitsAllLaws
namespace Go.Proofs.Ytlcpplnajaldgaa
open Go.RowKit

theorem pow8g (j : Nat) : (2 : Int) ^ (8 * j) = ((256 ^ j : Nat) : Int) := by
  rw [Int.pow_mul]
  simp
/-- A number of fewer than j bytes, and a byte ahead of them. -/
theorem or_byte (n c j : Nat) (hn : n < 256 ^ j) (hc : c < 256) (hj : j < 8) : bits .or .u64 (n : Int) (IntKind.u64.wrap ((c : Int) * 2 ^ (8 * j))) = ((n + 256 ^ j * c : Nat) : Int) := by
  have h1 : (256 : Nat) ^ j * 256 ≤ 18446744073709551616 := by
    have : (256 : Nat) ^ (j + 1) ≤ 256 ^ 8 := Nat.pow_le_pow_right (by omega) (by omega)
    rw [Nat.pow_succ] at this
    omega
  have h2 : 256 ^ j * c < 256 ^ j * 256 := Nat.mul_lt_mul_of_pos_left hc (Nat.pow_pos (by omega))
  have e : (c : Int) * 2 ^ (8 * j) = ((256 ^ j * c : Nat) : Int) := by rw [pow8g, Int.natCast_mul, Int.mul_comm]
  have h3 : n < 2 ^ (8 * j) := by rw [Nat.pow_mul]; exact hn
  have h4 := Nat.two_pow_add_eq_or_of_lt h3 c
  have e2 : (2 : Nat) ^ (8 * j) = 256 ^ j := by rw [Nat.pow_mul]
  rw [e, IntWalk.u64_in _ (by omega), u64_or_nat n (256 ^ j * c) (by omega) (by omega)]
  rw [e2] at h4
  rw [Nat.or_comm, ← h4, Nat.add_comm]

def GetRel (xs : List UInt8) (k : Nat) (s i : Value) : Prop := ∃ j : Nat, i = .int .i64 j ∧ j ≤ k ∧ s = .int .u64 (numB (xs.take j) : Nat)
set_option maxHeartbeats 400000 in
theorem get_yes (v : Value) (xs : List UInt8) (k : Nat) (w : World) (h : Rd w v xs) (h1 : 1 ≤ k) (h8 : k ≤ 8) (hk : k ≤ xs.length) :
    Calls Try.prog 33 #[v, .int .i64 k] w fun e w' => e = .returned (.tuple #[.int .u64 (numB (xs.take k) : Nat), .int .i64 0]) ∧ w = w' := by
  have hw : isW (k : Int) = true := by simp [isW]; omega
  have HW := Lib.hid hw
  obtain ⟨A, c, rfl, hc1, hc2, hA⟩ := h.form
  unfold maxLen at hc2
  obtain ⟨b, off, rfl, hb1, hb2⟩ := hA (by omega)
  have HB := Lib.hid hb2
  clear hw h hA hb2
  go_enter Try.func33, Try.ntmps33
  go_wp2_with (fail)
  refine (isWidth_any _ _).mono ?_
  rintro e w1 ⟨rfl, rfl⟩
  rw [HW.out]
  go_wp2_with (fail)
  go_loop [6, 16] (fun s i => GetRel xs k s i) (fun _ i => k - (intOf i).toNat)
  case atStart => exact ⟨0, rfl, by omega, rfl⟩
  case round =>
    obtain ⟨j, rfl, hj, rfl⟩ := hrel
    by_cases hlt : j < k
    · have hc := HB.out j (by omega)
      obtain ⟨m, hm⟩ : ∃ m, m = numB (xs.take j) := ⟨_, rfl⟩
      obtain ⟨x, hx⟩ : ∃ x, x = (xs[j]'(by omega)).toNat := ⟨_, rfl⟩
      rw [← hm]
      rw [← hx] at hc
      have hxl : x < 256 := by rw [hx]; exact UInt8.toNat_lt _
      have hml : m < 256 ^ j := by
        have := numB_lt (xs.take j)
        rw [List.length_take, Nat.min_eq_left (by omega)] at this
        rw [hm]; exact this
      have HO := or_byte m x j hml hxl (by omega)
      have HX := Lib.hid hx
      have HM := Lib.hid hm
      have HML := Lib.hid hml
      clear hx hm hml
      go_wp2
      go_round
      case rel =>
        refine ⟨j + 1, by go_num, by omega, ?_⟩
        have e1 : j < xs.length := by omega
        have e2 : numB (xs.take (j + 1)) = m + 256 ^ j * x := by
          rw [List.take_succ_eq_append_getElem e1, numB_snoc, List.length_take, Nat.min_eq_left (by omega), HM.out, HX.out]
        rw [e2]
        exact congrArg (Value.int .u64) (by simp)
      case measure => simp [intOf]; omega
    · obtain rfl : j = k := by omega
      go_wp2
      go_ret2
      exact ⟨rfl, rfl⟩

end Go.Proofs.Ytlcpplnajaldgaa
