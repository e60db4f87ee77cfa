/- A nonce tells its node and its count. No program in sight; conditions: numbers of 16 and of 64 bits. -/
import Derived.Test.YtmoffodmbbkolaaDoorPart11
namespace Go.Proofs.YtmoffodmbbkolaaDoor
open Go.RowKit

theorem numB_leB8 : ∀ (k n : Nat), numB (leB k n) = n % 256 ^ k := by
  intro k
  induction k with
  | zero => intro n; simp [leB, numB, Nat.mod_one]
  | succ k ih =>
    intro n
    have h := ih (n / 256)
    rw [Nat.pow_succ, Nat.mul_comm (256 ^ k) 256, Nat.mod_mul]
    simp only [leB, numB]
    rw [h, UInt8.toNat_ofNat']
    omega
theorem leB_inj {k a b : Nat} (ha : a < 256 ^ k) (hb : b < 256 ^ k) (h : leB k a = leB k b) : a = b := by
  have h2 := congrArg numB h
  rw [numB_leB8, numB_leB8, Nat.mod_eq_of_lt ha, Nat.mod_eq_of_lt hb] at h2
  exact h2
theorem nonceB_inj {a b c d : Nat} (ha : a < 65536) (hb : b < 65536) (hc : c < 18446744073709551616) (hd : d < 18446744073709551616) : nonceB a c = nonceB b d ↔ a = b ∧ c = d := by
  constructor
  · intro h
    unfold nonceB at h
    have h1 := congrArg (List.take 8) h
    have h2 := congrArg (fun l => (l.drop 8).take 2) h
    simp only [List.append_assoc] at h1 h2
    rw [List.take_append_of_le_length (by rw [leB_length]; omega), List.take_append_of_le_length (by rw [leB_length]; omega), List.take_of_length_le (by rw [leB_length]; omega), List.take_of_length_le (by rw [leB_length]; omega)] at h1
    rw [List.drop_append_of_le_length (by rw [leB_length]; omega), List.drop_append_of_le_length (by rw [leB_length]; omega), List.drop_of_length_le (by rw [leB_length]; omega), List.drop_of_length_le (by rw [leB_length]; omega), List.nil_append, List.nil_append] at h2
    rw [List.take_append_of_le_length (by rw [leB_length]; omega), List.take_append_of_le_length (by rw [leB_length]; omega), List.take_of_length_le (by rw [leB_length]; omega), List.take_of_length_le (by rw [leB_length]; omega)] at h2
    exact ⟨leB_inj (by simpa using ha) (by simpa using hb) h2, leB_inj (by simpa using hc) (by simpa using hd) h1⟩
  · rintro ⟨rfl, rfl⟩
    rfl
end Go.Proofs.YtmoffodmbbkolaaDoor
