/- The contract of bits.RotateLeft32: a word turned to the left. Conditions: the word fits uint32; fewer than 32 places. -/
import Derived.Test.YtnpojhmcgohdlaaDoorChaMath
namespace Go.Proofs.YtnpojhmcgohdlaaDoor
open Go.RowKit

theorem rl1_sum {q d s : Nat} (h8 : q + s ≤ 2147483648) (h6 : d < s * 2) : ((q + 2147483648 * (d % 2) + d / 2) * 2 + (q + 2147483648 * (d % 2) + d / 2) / 2147483648) % 4294967296 = q * 2 + d := by
  have h : (q + 2147483648 * (d % 2) + d / 2) / 2147483648 = d % 2 := by omega
  rw [h]
  omega
theorem rlN_eq (n k : Nat) (hn : n < 4294967296) (hk : k ≤ 32) : rlN k n = n % 2 ^ (32 - k) * 2 ^ k + n / 2 ^ (32 - k) := by
  induction k with
  | zero => simp only [rlN, Nat.sub_zero, Nat.pow_zero, Nat.mul_one]; omega
  | succ k ih =>
    have e1 : (2 : Nat) ^ (32 - k) = 2 ^ (31 - k) * 2 := by rw [show 32 - k = (31 - k) + 1 by omega, Nat.pow_succ]
    have e2 : (2 : Nat) ^ (31 - k) * 2 ^ k = 2147483648 := by rw [← Nat.pow_add, show 31 - k + k = 31 by omega]
    have hp : 0 < (2 : Nat) ^ (31 - k) := Nat.two_pow_pos _
    have e3 : n / (2 ^ (31 - k) * 2) = n / 2 ^ (31 - k) / 2 := by rw [Nat.div_div_eq_div_mul]
    have e4 : n % (2 ^ (31 - k) * 2) = n % 2 ^ (31 - k) + 2 ^ (31 - k) * (n / 2 ^ (31 - k) % 2) := Nat.mod_mul
    have h5 : n % 2 ^ (31 - k) < 2 ^ (31 - k) := Nat.mod_lt _ hp
    rw [rlN, ih (by omega), e1, e3, e4, show 32 - (k + 1) = 31 - k by omega, Nat.pow_succ, rl1]
    obtain ⟨p, hpd⟩ : ∃ p, p = (2 : Nat) ^ (31 - k) := ⟨_, rfl⟩
    obtain ⟨s, hs⟩ : ∃ s, s = (2 : Nat) ^ k := ⟨_, rfl⟩
    rw [← hpd] at e2 hp h5 ⊢
    rw [← hs] at e2 ⊢
    have h6 : n / p < s * 2 := by
      rw [Nat.div_lt_iff_lt_mul hp]
      have : s * 2 * p = 4294967296 := by rw [Nat.mul_right_comm, Nat.mul_comm s p, e2]
      omega
    obtain ⟨d, hd⟩ : ∃ d, d = n / p := ⟨_, rfl⟩
    obtain ⟨r, hr⟩ : ∃ r, r = n % p := ⟨_, rfl⟩
    rw [← hd] at h6
    rw [← hr] at h5
    rw [← hd, ← hr]
    obtain ⟨q, hq⟩ : ∃ q, q = r * s := ⟨_, rfl⟩
    have e7 : (r + p * (d % 2)) * s = q + 2147483648 * (d % 2) := by
      rw [Nat.add_mul, hq, Nat.mul_right_comm, e2]
    have h8 : q + s ≤ 2147483648 := by
      have h9 := Nat.mul_le_mul_right s (show r + 1 ≤ p by omega)
      rw [Nat.add_mul, Nat.one_mul, ← hq, e2] at h9
      exact h9
    have e8 : r * (s * 2) = q * 2 := by rw [hq, Nat.mul_assoc]
    rw [e7, e8]
    exact rl1_sum h8 h6
theorem rotl_bits {n k : Nat} (hn : n < 4294967296) (hk : k ≤ 32) : bits .or .u32 ((n : Int) * 2 ^ k % 4294967296) ((n : Int) / 2 ^ (32 - k)) = ((rlN k n : Nat) : Int) := by
  have e0 : (4294967296 : Nat) = 2 ^ (32 - k) * 2 ^ k := by rw [← Nat.pow_add, show 32 - k + k = 32 by omega]
  have e1 : (n : Int) / 2 ^ (32 - k) = ((n / 2 ^ (32 - k) : Nat) : Int) := by simp
  have e2 : (n : Int) * 2 ^ k % 4294967296 = ((n % 2 ^ (32 - k) * 2 ^ k : Nat) : Int) := by
    rw [← Nat.mul_mod_mul_right, ← e0]
    simp
  have h1 : n / 2 ^ (32 - k) < 2 ^ k := Nat.div_lt_of_lt_mul (by rw [← e0]; exact hn)
  have h2 : n % 2 ^ (32 - k) * 2 ^ k < 4294967296 := by
    rw [e0]
    exact Nat.mul_lt_mul_of_pos_right (Nat.mod_lt _ (Nat.two_pow_pos _)) (Nat.two_pow_pos _)
  rw [e1, e2, u32_or_nat _ _ h2 (Nat.lt_of_le_of_lt (Nat.div_le_self _ _) hn), nat_join k _ _ (Nat.mul_mod_left _ _) h1, rlN_eq n k hn hk]
theorem and31 {k : Nat} (h : k < 32) : bits .and .u64 (k : Int) 31 = (k : Int) := by
  have h1 := u64_and_nat k 31 (by omega) (by omega)
  rw [show ((31 : Nat) : Int) = 31 from rfl] at h1
  rw [h1, Nat.and_two_pow_sub_one_eq_mod k 5, Nat.mod_eq_of_lt (by omega)]
set_option maxHeartbeats 400000 in
theorem rotl_any (n k : Nat) (w : World) (hn : n < 4294967296) (hk : k < 32) :
    Calls Tryd.prog 25 #[.int .u32 n, .int .i64 k] w fun e w' => e = .returned (.int .u32 (rlN k n : Nat)) ∧ w = w' := by
  have HN := Lib.hid hn
  have h1 : (n : Int) ≤ 4294967295 := by omega
  have h2 : (k : Int) < 32 := by omega
  have h3 := and31 hk
  have h4 : (0 : Int) ≤ 32 - (k : Int) := by omega
  clear hn
  go_enter Tryd.func25, Tryd.ntmps25
  go_wp2_with (fail)
  go_ret
  exact ⟨ret_i (rotl_bits HN.out (by omega)), rfl⟩
/-- The same, at a place that is written out. -/
theorem rotl_k (n k : Nat) (K : Int) (hK : K = (k : Int)) (w : World) (hn : n < 4294967296) (hk : k < 32) : Calls Tryd.prog 25 #[.int .u32 n, .int .i64 K] w fun e w' => e = .returned (.int .u32 (rlN k n : Nat)) ∧ w = w' := hK ▸ rotl_any n k w hn hk
end Go.Proofs.YtnpojhmcgohdlaaDoor
