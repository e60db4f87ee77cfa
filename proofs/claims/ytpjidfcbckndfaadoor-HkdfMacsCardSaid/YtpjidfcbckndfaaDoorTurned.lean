/- The contract of sha.turned: a word turned to the right. Conditions: the word fits uint32; at most 32 places. -/
import Derived.Test.YtpjidfcbckndfaaDoorRefWords
namespace Go.Proofs.YtpjidfcbckndfaaDoor
open Go.RowKit

theorem cutN_eq (n k : Nat) : cutN k n = n / 2 ^ k := by
  induction k with
  | zero => simp [cutN]
  | succ k ih => rw [cutN, ih, Nat.div_div_eq_div_mul, Nat.pow_succ]
theorem rotN_eq (n k : Nat) (hk : k ≤ 32) : rotN k n = n / 2 ^ k + n % 2 ^ k * 2 ^ (32 - k) := by
  induction k with
  | zero => simp [rotN, Nat.mod_one]
  | succ k ih =>
    have e1 : (2 : Nat) ^ (32 - k) = 2 * 2 ^ (31 - k) := by rw [show 32 - k = (31 - k) + 1 by omega, Nat.pow_succ]; omega
    have e2 : (2 : Nat) ^ k * 2 ^ (31 - k) = 2147483648 := by rw [← Nat.pow_add, show k + (31 - k) = 31 by omega]
    have e3 := Nat.mod_pow_succ (x := n) (b := 2) (k := k)
    have e4 : n / 2 ^ (k + 1) = n / 2 ^ k / 2 := by rw [Nat.div_div_eq_div_mul, Nat.pow_succ]
    rw [rotN, ih (by omega), e3, e4, show 32 - (k + 1) = 31 - k by omega, e1, rot1]
    obtain ⟨a, ha⟩ : ∃ a, a = n / 2 ^ k := ⟨_, rfl⟩
    obtain ⟨p, hp⟩ : ∃ p, p = (2 : Nat) ^ (31 - k) := ⟨_, rfl⟩
    obtain ⟨r, hr⟩ : ∃ r, r = n % 2 ^ k := ⟨_, rfl⟩
    obtain ⟨b, hb⟩ : ∃ b, b = r * p := ⟨_, rfl⟩
    rw [← ha, ← hp, ← hr]
    rw [← hp] at e2
    have e5 : (r + 2 ^ k * (a % 2)) * p = b + 2147483648 * (a % 2) := by
      rw [Nat.add_mul, hb, Nat.mul_right_comm, e2]
    have e6 : r * (2 * p) = 2 * b := by rw [hb]; simp [Nat.mul_left_comm]
    rw [e5, e6]
    omega
theorem turned_bits {n k : Nat} (hn : n < 4294967296) (hk : k ≤ 32) : bits .or .u32 ((n : Int) / 2 ^ k) ((n : Int) * 2 ^ (32 - k) % 4294967296) = ((rotN k n : Nat) : Int) := by
  have e0 : (4294967296 : Nat) = 2 ^ k * 2 ^ (32 - k) := by rw [← Nat.pow_add, show k + (32 - k) = 32 by omega]
  have e1 : (n : Int) / 2 ^ k = ((n / 2 ^ k : Nat) : Int) := by simp
  have e2 : (n : Int) * 2 ^ (32 - k) % 4294967296 = ((n % 2 ^ k * 2 ^ (32 - k) : Nat) : Int) := by
    rw [← Nat.mul_mod_mul_right, ← e0]
    simp
  have h1 : n / 2 ^ k < 2 ^ (32 - k) := Nat.div_lt_of_lt_mul (by rw [← e0]; exact hn)
  have h2 : n % 2 ^ k * 2 ^ (32 - k) < 4294967296 := by
    rw [e0]
    exact Nat.mul_lt_mul_of_pos_right (Nat.mod_lt _ (Nat.two_pow_pos k)) (Nat.two_pow_pos _)
  rw [e1, e2, u32_or_nat _ _ (Nat.lt_of_le_of_lt (Nat.div_le_self _ _) hn) h2, Nat.or_comm, nat_join (32 - k) _ _ (Nat.mul_mod_left _ _) h1, rotN_eq n k hk, Nat.add_comm]
set_option maxHeartbeats 400000 in
theorem turned_any (n k : Nat) (w : World) (hn : n < 4294967296) (hk : k ≤ 32) :
    Calls Tryd.prog 35 #[.int .u32 n, .int .i64 k] w fun e w' => e = .returned (.int .u32 (rotN k n : Nat)) ∧ ∃ m, w' = w.drewN m := by
  have HN := Lib.hid hn
  have h1 : (n : Int) ≤ 4294967295 := by omega
  have h2 : (k : Int) ≤ 32 := by omega
  have h3 : IntKind.i64.wrap (32 - (k : Int)) = 32 - (k : Int) := IntWalk.i64_in _ (by omega)
  have h4 : (0 : Int) ≤ 32 - (k : Int) := by omega
  go_enter Tryd.func35, Tryd.ntmps35
  go_wp2_with (fail)
  go_quiet (fail)
  go_wp2_with (fail)
  go_ret
  exact ⟨ret_i (turned_bits HN.out hk), _, rfl⟩
/-- The same, at a place that is written out. -/
theorem turned_k (n k : Nat) (K : Int) (hK : K = (k : Int)) (w : World) (hn : n < 4294967296) (hk : k ≤ 32) : Calls Tryd.prog 35 #[.int .u32 n, .int .i64 K] w fun e w' => e = .returned (.int .u32 (rotN k n : Nat)) ∧ ∃ m, w' = w.drewN m := hK ▸ turned_any n k w hn hk
end Go.Proofs.YtpjidfcbckndfaaDoor
