/- The fifteenth reference's letter. No condition of its own. -/
import Derived.Test.YtckgpocfcanokaaLbSpec
namespace Go.Proofs.Ytckgpocfcanokaa
open Go.RowKit

def letN (n : Nat) : Bool := decide (97 ≤ n ∧ n ≤ 122) || decide (65 ≤ n ∧ n ≤ 90) || decide (48 ≤ n ∧ n ≤ 57) || decide (n = 95) || decide (n = 45) || decide (n = 46) || decide (n = 47)
set_option maxRecDepth 100000 in
set_option maxHeartbeats 1000000 in
theorem let_0 (n : Nat) (h : 0 ≤ n ∧ n ≤ 44) (w : World) : Calls Try.prog 25 #[.int .u8 (n : Int)] w fun e w' => e = .returned (.bool false) ∧ w' = w := by
  have d0 : decide ((97 : Int) ≤ (n : Int)) = false := decide_eq_false (by omega)
  have d1 : decide ((n : Int) ≤ 122) = true := decide_eq_true (by omega)
  have d2 : decide ((65 : Int) ≤ (n : Int)) = false := decide_eq_false (by omega)
  have d3 : decide ((n : Int) ≤ 90) = true := decide_eq_true (by omega)
  have d4 : decide ((48 : Int) ≤ (n : Int)) = false := decide_eq_false (by omega)
  have d5 : decide ((n : Int) ≤ 57) = true := decide_eq_true (by omega)
  have e0 : ((n : Int) == 95) = false := by rw [beq_eq_false_iff_ne]; omega
  have e1 : ((n : Int) == 45) = false := by rw [beq_eq_false_iff_ne]; omega
  have e2 : ((n : Int) == 46) = false := by rw [beq_eq_false_iff_ne]; omega
  have e3 : ((n : Int) == 47) = false := by rw [beq_eq_false_iff_ne]; omega
  clear h
  go_enter Try.func25, Try.ntmps25
  go_wp2_with (fail)
  go_ret
  exact ⟨rfl, rfl⟩
set_option maxRecDepth 100000 in
set_option maxHeartbeats 1000000 in
theorem let_1 (n : Nat) (h : 45 ≤ n ∧ n ≤ 45) (w : World) : Calls Try.prog 25 #[.int .u8 (n : Int)] w fun e w' => e = .returned (.bool true) ∧ w' = w := by
  have d0 : decide ((97 : Int) ≤ (n : Int)) = false := decide_eq_false (by omega)
  have d1 : decide ((n : Int) ≤ 122) = true := decide_eq_true (by omega)
  have d2 : decide ((65 : Int) ≤ (n : Int)) = false := decide_eq_false (by omega)
  have d3 : decide ((n : Int) ≤ 90) = true := decide_eq_true (by omega)
  have d4 : decide ((48 : Int) ≤ (n : Int)) = false := decide_eq_false (by omega)
  have d5 : decide ((n : Int) ≤ 57) = true := decide_eq_true (by omega)
  have e0 : ((n : Int) == 95) = false := by rw [beq_eq_false_iff_ne]; omega
  have e1 : ((n : Int) == 45) = true := by rw [beq_iff_eq]; omega
  have e2 : ((n : Int) == 46) = false := by rw [beq_eq_false_iff_ne]; omega
  have e3 : ((n : Int) == 47) = false := by rw [beq_eq_false_iff_ne]; omega
  clear h
  go_enter Try.func25, Try.ntmps25
  go_wp2_with (fail)
  go_ret
  exact ⟨rfl, rfl⟩
set_option maxRecDepth 100000 in
set_option maxHeartbeats 1000000 in
theorem let_2 (n : Nat) (h : 46 ≤ n ∧ n ≤ 46) (w : World) : Calls Try.prog 25 #[.int .u8 (n : Int)] w fun e w' => e = .returned (.bool true) ∧ w' = w := by
  have d0 : decide ((97 : Int) ≤ (n : Int)) = false := decide_eq_false (by omega)
  have d1 : decide ((n : Int) ≤ 122) = true := decide_eq_true (by omega)
  have d2 : decide ((65 : Int) ≤ (n : Int)) = false := decide_eq_false (by omega)
  have d3 : decide ((n : Int) ≤ 90) = true := decide_eq_true (by omega)
  have d4 : decide ((48 : Int) ≤ (n : Int)) = false := decide_eq_false (by omega)
  have d5 : decide ((n : Int) ≤ 57) = true := decide_eq_true (by omega)
  have e0 : ((n : Int) == 95) = false := by rw [beq_eq_false_iff_ne]; omega
  have e1 : ((n : Int) == 45) = false := by rw [beq_eq_false_iff_ne]; omega
  have e2 : ((n : Int) == 46) = true := by rw [beq_iff_eq]; omega
  have e3 : ((n : Int) == 47) = false := by rw [beq_eq_false_iff_ne]; omega
  clear h
  go_enter Try.func25, Try.ntmps25
  go_wp2_with (fail)
  go_ret
  exact ⟨rfl, rfl⟩
set_option maxRecDepth 100000 in
set_option maxHeartbeats 1000000 in
theorem let_3 (n : Nat) (h : 47 ≤ n ∧ n ≤ 47) (w : World) : Calls Try.prog 25 #[.int .u8 (n : Int)] w fun e w' => e = .returned (.bool true) ∧ w' = w := by
  have d0 : decide ((97 : Int) ≤ (n : Int)) = false := decide_eq_false (by omega)
  have d1 : decide ((n : Int) ≤ 122) = true := decide_eq_true (by omega)
  have d2 : decide ((65 : Int) ≤ (n : Int)) = false := decide_eq_false (by omega)
  have d3 : decide ((n : Int) ≤ 90) = true := decide_eq_true (by omega)
  have d4 : decide ((48 : Int) ≤ (n : Int)) = false := decide_eq_false (by omega)
  have d5 : decide ((n : Int) ≤ 57) = true := decide_eq_true (by omega)
  have e0 : ((n : Int) == 95) = false := by rw [beq_eq_false_iff_ne]; omega
  have e1 : ((n : Int) == 45) = false := by rw [beq_eq_false_iff_ne]; omega
  have e2 : ((n : Int) == 46) = false := by rw [beq_eq_false_iff_ne]; omega
  have e3 : ((n : Int) == 47) = true := by rw [beq_iff_eq]; omega
  clear h
  go_enter Try.func25, Try.ntmps25
  go_wp2_with (fail)
  go_ret
  exact ⟨rfl, rfl⟩
set_option maxRecDepth 100000 in
set_option maxHeartbeats 1000000 in
theorem let_4 (n : Nat) (h : 48 ≤ n ∧ n ≤ 57) (w : World) : Calls Try.prog 25 #[.int .u8 (n : Int)] w fun e w' => e = .returned (.bool true) ∧ w' = w := by
  have d0 : decide ((97 : Int) ≤ (n : Int)) = false := decide_eq_false (by omega)
  have d1 : decide ((n : Int) ≤ 122) = true := decide_eq_true (by omega)
  have d2 : decide ((65 : Int) ≤ (n : Int)) = false := decide_eq_false (by omega)
  have d3 : decide ((n : Int) ≤ 90) = true := decide_eq_true (by omega)
  have d4 : decide ((48 : Int) ≤ (n : Int)) = true := decide_eq_true (by omega)
  have d5 : decide ((n : Int) ≤ 57) = true := decide_eq_true (by omega)
  have e0 : ((n : Int) == 95) = false := by rw [beq_eq_false_iff_ne]; omega
  have e1 : ((n : Int) == 45) = false := by rw [beq_eq_false_iff_ne]; omega
  have e2 : ((n : Int) == 46) = false := by rw [beq_eq_false_iff_ne]; omega
  have e3 : ((n : Int) == 47) = false := by rw [beq_eq_false_iff_ne]; omega
  clear h
  go_enter Try.func25, Try.ntmps25
  go_wp2_with (fail)
  go_ret
  exact ⟨rfl, rfl⟩
set_option maxRecDepth 100000 in
set_option maxHeartbeats 1000000 in
theorem let_5 (n : Nat) (h : 58 ≤ n ∧ n ≤ 64) (w : World) : Calls Try.prog 25 #[.int .u8 (n : Int)] w fun e w' => e = .returned (.bool false) ∧ w' = w := by
  have d0 : decide ((97 : Int) ≤ (n : Int)) = false := decide_eq_false (by omega)
  have d1 : decide ((n : Int) ≤ 122) = true := decide_eq_true (by omega)
  have d2 : decide ((65 : Int) ≤ (n : Int)) = false := decide_eq_false (by omega)
  have d3 : decide ((n : Int) ≤ 90) = true := decide_eq_true (by omega)
  have d4 : decide ((48 : Int) ≤ (n : Int)) = true := decide_eq_true (by omega)
  have d5 : decide ((n : Int) ≤ 57) = false := decide_eq_false (by omega)
  have e0 : ((n : Int) == 95) = false := by rw [beq_eq_false_iff_ne]; omega
  have e1 : ((n : Int) == 45) = false := by rw [beq_eq_false_iff_ne]; omega
  have e2 : ((n : Int) == 46) = false := by rw [beq_eq_false_iff_ne]; omega
  have e3 : ((n : Int) == 47) = false := by rw [beq_eq_false_iff_ne]; omega
  clear h
  go_enter Try.func25, Try.ntmps25
  go_wp2_with (fail)
  go_ret
  exact ⟨rfl, rfl⟩
set_option maxRecDepth 100000 in
set_option maxHeartbeats 1000000 in
theorem let_6 (n : Nat) (h : 65 ≤ n ∧ n ≤ 90) (w : World) : Calls Try.prog 25 #[.int .u8 (n : Int)] w fun e w' => e = .returned (.bool true) ∧ w' = w := by
  have d0 : decide ((97 : Int) ≤ (n : Int)) = false := decide_eq_false (by omega)
  have d1 : decide ((n : Int) ≤ 122) = true := decide_eq_true (by omega)
  have d2 : decide ((65 : Int) ≤ (n : Int)) = true := decide_eq_true (by omega)
  have d3 : decide ((n : Int) ≤ 90) = true := decide_eq_true (by omega)
  have d4 : decide ((48 : Int) ≤ (n : Int)) = true := decide_eq_true (by omega)
  have d5 : decide ((n : Int) ≤ 57) = false := decide_eq_false (by omega)
  have e0 : ((n : Int) == 95) = false := by rw [beq_eq_false_iff_ne]; omega
  have e1 : ((n : Int) == 45) = false := by rw [beq_eq_false_iff_ne]; omega
  have e2 : ((n : Int) == 46) = false := by rw [beq_eq_false_iff_ne]; omega
  have e3 : ((n : Int) == 47) = false := by rw [beq_eq_false_iff_ne]; omega
  clear h
  go_enter Try.func25, Try.ntmps25
  go_wp2_with (fail)
  go_ret
  exact ⟨rfl, rfl⟩
set_option maxRecDepth 100000 in
set_option maxHeartbeats 1000000 in
theorem let_7 (n : Nat) (h : 91 ≤ n ∧ n ≤ 94) (w : World) : Calls Try.prog 25 #[.int .u8 (n : Int)] w fun e w' => e = .returned (.bool false) ∧ w' = w := by
  have d0 : decide ((97 : Int) ≤ (n : Int)) = false := decide_eq_false (by omega)
  have d1 : decide ((n : Int) ≤ 122) = true := decide_eq_true (by omega)
  have d2 : decide ((65 : Int) ≤ (n : Int)) = true := decide_eq_true (by omega)
  have d3 : decide ((n : Int) ≤ 90) = false := decide_eq_false (by omega)
  have d4 : decide ((48 : Int) ≤ (n : Int)) = true := decide_eq_true (by omega)
  have d5 : decide ((n : Int) ≤ 57) = false := decide_eq_false (by omega)
  have e0 : ((n : Int) == 95) = false := by rw [beq_eq_false_iff_ne]; omega
  have e1 : ((n : Int) == 45) = false := by rw [beq_eq_false_iff_ne]; omega
  have e2 : ((n : Int) == 46) = false := by rw [beq_eq_false_iff_ne]; omega
  have e3 : ((n : Int) == 47) = false := by rw [beq_eq_false_iff_ne]; omega
  clear h
  go_enter Try.func25, Try.ntmps25
  go_wp2_with (fail)
  go_ret
  exact ⟨rfl, rfl⟩
set_option maxRecDepth 100000 in
set_option maxHeartbeats 1000000 in
theorem let_8 (n : Nat) (h : 95 ≤ n ∧ n ≤ 95) (w : World) : Calls Try.prog 25 #[.int .u8 (n : Int)] w fun e w' => e = .returned (.bool true) ∧ w' = w := by
  have d0 : decide ((97 : Int) ≤ (n : Int)) = false := decide_eq_false (by omega)
  have d1 : decide ((n : Int) ≤ 122) = true := decide_eq_true (by omega)
  have d2 : decide ((65 : Int) ≤ (n : Int)) = true := decide_eq_true (by omega)
  have d3 : decide ((n : Int) ≤ 90) = false := decide_eq_false (by omega)
  have d4 : decide ((48 : Int) ≤ (n : Int)) = true := decide_eq_true (by omega)
  have d5 : decide ((n : Int) ≤ 57) = false := decide_eq_false (by omega)
  have e0 : ((n : Int) == 95) = true := by rw [beq_iff_eq]; omega
  have e1 : ((n : Int) == 45) = false := by rw [beq_eq_false_iff_ne]; omega
  have e2 : ((n : Int) == 46) = false := by rw [beq_eq_false_iff_ne]; omega
  have e3 : ((n : Int) == 47) = false := by rw [beq_eq_false_iff_ne]; omega
  clear h
  go_enter Try.func25, Try.ntmps25
  go_wp2_with (fail)
  go_ret
  exact ⟨rfl, rfl⟩
set_option maxRecDepth 100000 in
set_option maxHeartbeats 1000000 in
theorem let_9 (n : Nat) (h : 96 ≤ n ∧ n ≤ 96) (w : World) : Calls Try.prog 25 #[.int .u8 (n : Int)] w fun e w' => e = .returned (.bool false) ∧ w' = w := by
  have d0 : decide ((97 : Int) ≤ (n : Int)) = false := decide_eq_false (by omega)
  have d1 : decide ((n : Int) ≤ 122) = true := decide_eq_true (by omega)
  have d2 : decide ((65 : Int) ≤ (n : Int)) = true := decide_eq_true (by omega)
  have d3 : decide ((n : Int) ≤ 90) = false := decide_eq_false (by omega)
  have d4 : decide ((48 : Int) ≤ (n : Int)) = true := decide_eq_true (by omega)
  have d5 : decide ((n : Int) ≤ 57) = false := decide_eq_false (by omega)
  have e0 : ((n : Int) == 95) = false := by rw [beq_eq_false_iff_ne]; omega
  have e1 : ((n : Int) == 45) = false := by rw [beq_eq_false_iff_ne]; omega
  have e2 : ((n : Int) == 46) = false := by rw [beq_eq_false_iff_ne]; omega
  have e3 : ((n : Int) == 47) = false := by rw [beq_eq_false_iff_ne]; omega
  clear h
  go_enter Try.func25, Try.ntmps25
  go_wp2_with (fail)
  go_ret
  exact ⟨rfl, rfl⟩
set_option maxRecDepth 100000 in
set_option maxHeartbeats 1000000 in
theorem let_10 (n : Nat) (h : 97 ≤ n ∧ n ≤ 122) (w : World) : Calls Try.prog 25 #[.int .u8 (n : Int)] w fun e w' => e = .returned (.bool true) ∧ w' = w := by
  have d0 : decide ((97 : Int) ≤ (n : Int)) = true := decide_eq_true (by omega)
  have d1 : decide ((n : Int) ≤ 122) = true := decide_eq_true (by omega)
  have d2 : decide ((65 : Int) ≤ (n : Int)) = true := decide_eq_true (by omega)
  have d3 : decide ((n : Int) ≤ 90) = false := decide_eq_false (by omega)
  have d4 : decide ((48 : Int) ≤ (n : Int)) = true := decide_eq_true (by omega)
  have d5 : decide ((n : Int) ≤ 57) = false := decide_eq_false (by omega)
  have e0 : ((n : Int) == 95) = false := by rw [beq_eq_false_iff_ne]; omega
  have e1 : ((n : Int) == 45) = false := by rw [beq_eq_false_iff_ne]; omega
  have e2 : ((n : Int) == 46) = false := by rw [beq_eq_false_iff_ne]; omega
  have e3 : ((n : Int) == 47) = false := by rw [beq_eq_false_iff_ne]; omega
  clear h
  go_enter Try.func25, Try.ntmps25
  go_wp2_with (fail)
  go_ret
  exact ⟨rfl, rfl⟩
set_option maxRecDepth 100000 in
set_option maxHeartbeats 1000000 in
theorem let_11 (n : Nat) (h : 123 ≤ n ∧ n ≤ 255) (w : World) : Calls Try.prog 25 #[.int .u8 (n : Int)] w fun e w' => e = .returned (.bool false) ∧ w' = w := by
  have d0 : decide ((97 : Int) ≤ (n : Int)) = true := decide_eq_true (by omega)
  have d1 : decide ((n : Int) ≤ 122) = false := decide_eq_false (by omega)
  have d2 : decide ((65 : Int) ≤ (n : Int)) = true := decide_eq_true (by omega)
  have d3 : decide ((n : Int) ≤ 90) = false := decide_eq_false (by omega)
  have d4 : decide ((48 : Int) ≤ (n : Int)) = true := decide_eq_true (by omega)
  have d5 : decide ((n : Int) ≤ 57) = false := decide_eq_false (by omega)
  have e0 : ((n : Int) == 95) = false := by rw [beq_eq_false_iff_ne]; omega
  have e1 : ((n : Int) == 45) = false := by rw [beq_eq_false_iff_ne]; omega
  have e2 : ((n : Int) == 46) = false := by rw [beq_eq_false_iff_ne]; omega
  have e3 : ((n : Int) == 47) = false := by rw [beq_eq_false_iff_ne]; omega
  clear h
  go_enter Try.func25, Try.ntmps25
  go_wp2_with (fail)
  go_ret
  exact ⟨rfl, rfl⟩
theorem refLetter_any (c : UInt8) (w : World) : Calls Try.prog 25 #[.int .u8 (c.toNat : Int)] w fun e w' => e = .returned (.bool (letterB c)) ∧ w' = w := by
  have hc := c.toNat_lt
  obtain ⟨n, hn⟩ : ∃ n, n = c.toNat := ⟨_, rfl⟩
  have hl : letterB c = letN n := by rw [hn]; rfl
  rw [hl, ← hn]
  rw [← hn] at hc
  clear hl hn
  have go : ∀ b, letN n = b → (Calls Try.prog 25 #[.int .u8 (n : Int)] w fun e w' => e = .returned (.bool b) ∧ w' = w) → Calls Try.prog 25 #[.int .u8 (n : Int)] w fun e w' => e = .returned (.bool (letN n)) ∧ w' = w := fun b hb h => by
    rw [hb]
    exact h
  by_cases h0 : 0 ≤ n ∧ n ≤ 44
  · exact go false (by unfold letN; simp; omega) (let_0 n h0 w)
  by_cases h1 : 45 ≤ n ∧ n ≤ 45
  · exact go true (by unfold letN; simp; omega) (let_1 n h1 w)
  by_cases h2 : 46 ≤ n ∧ n ≤ 46
  · exact go true (by unfold letN; simp; omega) (let_2 n h2 w)
  by_cases h3 : 47 ≤ n ∧ n ≤ 47
  · exact go true (by unfold letN; simp; omega) (let_3 n h3 w)
  by_cases h4 : 48 ≤ n ∧ n ≤ 57
  · exact go true (by unfold letN; simp; omega) (let_4 n h4 w)
  by_cases h5 : 58 ≤ n ∧ n ≤ 64
  · exact go false (by unfold letN; simp; omega) (let_5 n h5 w)
  by_cases h6 : 65 ≤ n ∧ n ≤ 90
  · exact go true (by unfold letN; simp; omega) (let_6 n h6 w)
  by_cases h7 : 91 ≤ n ∧ n ≤ 94
  · exact go false (by unfold letN; simp; omega) (let_7 n h7 w)
  by_cases h8 : 95 ≤ n ∧ n ≤ 95
  · exact go true (by unfold letN; simp; omega) (let_8 n h8 w)
  by_cases h9 : 96 ≤ n ∧ n ≤ 96
  · exact go false (by unfold letN; simp; omega) (let_9 n h9 w)
  by_cases h10 : 97 ≤ n ∧ n ≤ 122
  · exact go true (by unfold letN; simp; omega) (let_10 n h10 w)
  by_cases h11 : 123 ≤ n ∧ n ≤ 255
  · exact go false (by unfold letN; simp; omega) (let_11 n h11 w)
  exfalso
  omega
end Go.Proofs.Ytckgpocfcanokaa
