/- Plain arithmetic on quotients that go downwards, with no program in sight: what num.Floor and the reference's Floor come to. No condition of its own. -/
import Derived.IntWalk
import Derived.RowKit
namespace Go.Proofs.Ytenmdogalnhbjaa
open Go.RowKit

def flOver (a b : Int) : Bool := decide (b = -1) && decide (a ≤ -9223372036854775808)
def flDown (a b : Int) : Bool := decide (a.tmod b ≠ 0) && (decide (a < 0) != decide (b < 0))
def flQ (a b : Int) : Int := if b = 0 then 0 else if flOver a b then 0 else if flDown a b then a.tdiv b - 1 else a.tdiv b
def flE (a b : Int) : Int := if b = 0 then 1 else if flOver a b then 19 else 0

theorem fl_abs (a b : Int) : -a.natAbs ≤ a.tdiv b ∧ a.tdiv b ≤ a.natAbs := by
  have := Int.natAbs_tdiv_le_natAbs a b
  omega
theorem fl_half (a b : Int) (h : b ≤ -2 ∨ 2 ≤ b) : (a.tdiv b).natAbs * 2 ≤ a.natAbs := by
  have h1 : (a.tdiv b).natAbs = a.natAbs / b.natAbs := Int.natAbs_tdiv a b
  rw [h1]
  have h2 : a.natAbs / b.natAbs ≤ a.natAbs / 2 := Nat.div_le_div_left (by omega) (by omega)
  have h3 : a.natAbs / 2 * 2 ≤ a.natAbs := Nat.div_mul_le_self _ _
  omega
theorem fl_in (a b : Int) (ha : -9223372036854775808 ≤ a ∧ a ≤ 9223372036854775807) (h0 : ¬ b = 0) (ho : flOver a b = false) :
    -9223372036854775807 ≤ a.tdiv b - 1 + 0 ∧ a.tdiv b ≤ 9223372036854775807 ∨ a.tdiv b = -9223372036854775808 ∧ b = 1 ∨ a.tdiv b = -9223372036854775807 := by
  have h1 := fl_abs a b
  by_cases h2 : b ≤ -2 ∨ 2 ≤ b
  · have := fl_half a b h2
    omega
  · have h3 : b = 1 ∨ b = -1 := by omega
    rcases h3 with rfl | rfl
    · rw [Int.tdiv_one]
      omega
    · simp [flOver] at ho
      rw [Int.tdiv_neg, Int.tdiv_one]
      omega
theorem fl_tmod_one (a : Int) : a.tmod 1 = 0 := by simp
theorem fl_q_in (a b : Int) (ha : -9223372036854775808 ≤ a ∧ a ≤ 9223372036854775807) (h0 : ¬ b = 0) (ho : flOver a b = false) :
    -9223372036854775808 ≤ a.tdiv b ∧ a.tdiv b ≤ 9223372036854775807 := by
  have := fl_in a b ha h0 ho
  omega
theorem fl_q1_in (a b : Int) (ha : -9223372036854775808 ≤ a ∧ a ≤ 9223372036854775807) (h0 : ¬ b = 0) (ho : flOver a b = false) (hm : a.tmod b ≠ 0) :
    -9223372036854775808 ≤ a.tdiv b - 1 ∧ a.tdiv b - 1 ≤ 9223372036854775807 := by
  have h1 := fl_in a b ha h0 ho
  have h2 : ¬ b = 1 := by rintro rfl; exact hm (fl_tmod_one a)
  omega
theorem fl_wrap (a b : Int) (ha : -9223372036854775808 ≤ a ∧ a ≤ 9223372036854775807) (h0 : ¬ b = 0) (ho : flOver a b = false) : wrap64 (a.tdiv b) = a.tdiv b :=
  IntWalk.wrap64_in _ (fl_q_in a b ha h0 ho)
theorem fl_wrap1 (a b : Int) (ha : -9223372036854775808 ≤ a ∧ a ≤ 9223372036854775807) (h0 : ¬ b = 0) (ho : flOver a b = false) (hm : a.tmod b ≠ 0) : wrap64 (a.tdiv b - 1) = a.tdiv b - 1 :=
  IntWalk.wrap64_in _ (fl_q1_in a b ha h0 ho hm)
theorem fl_back (a b : Int) (ha : -9223372036854775808 ≤ a ∧ a ≤ 9223372036854775807) : wrap64 (a.tdiv b * b) = a.tdiv b * b := by
  have h := Int.tdiv_mul_add_tmod a b
  have h1 : (a.tmod b).natAbs ≤ a.natAbs := by
    have : (a.tmod b).natAbs = a.natAbs % b.natAbs := Int.natAbs_tmod a b
    rw [this]
    exact Nat.mod_le _ _
  have h2 : 0 ≤ a → 0 ≤ a.tmod b := Int.tmod_nonneg b
  have h3 : a ≤ 0 → a.tmod b ≤ 0 := fun hh => by
    have e : a = -(-a) := by omega
    rw [e, Int.neg_tmod]
    have := Int.tmod_nonneg (a := -a) b (by omega)
    omega
  exact IntWalk.wrap64_in _ (by omega)
theorem fl_q_over (a b : Int) (h0 : ¬ b = 0) (ho : flOver a b = true) : flQ a b = 0 ∧ flE a b = 19 := by simp [flQ, flE, h0, ho]
theorem fl_q_down (a b : Int) (h0 : ¬ b = 0) (ho : flOver a b = false) (hd : flDown a b = true) : flQ a b = a.tdiv b - 1 ∧ flE a b = 0 := by simp [flQ, flE, h0, ho, hd]
theorem fl_q_flat (a b : Int) (h0 : ¬ b = 0) (ho : flOver a b = false) (hd : flDown a b = false) : flQ a b = a.tdiv b ∧ flE a b = 0 := by simp [flQ, flE, h0, ho, hd]
/-- What the law's last test asks, at small numbers. -/
theorem fl_low_neg (a b : Int) (h0 : b < 0) (ho : flOver a b = false) : a - flQ a b * b ≤ 0 ∧ b < a - flQ a b * b := by
  have h := Int.tdiv_mul_add_tmod a b
  have hl : (a.tmod b).natAbs = a.natAbs % b.natAbs := Int.natAbs_tmod a b
  have hl2 : a.natAbs % b.natAbs < b.natAbs := Nat.mod_lt _ (by omega)
  have h2 : 0 ≤ a → 0 ≤ a.tmod b := Int.tmod_nonneg b
  have h3 : a ≤ 0 → a.tmod b ≤ 0 := fun hh => by
    have e : a = -(-a) := by omega
    rw [e, Int.neg_tmod]
    have := Int.tmod_nonneg (a := -a) b (by omega)
    omega
  by_cases hd : flDown a b = true
  · have e := (fl_q_down a b (by omega) ho hd).1
    simp only [flDown, Bool.and_eq_true, decide_eq_true_eq, bne_iff_ne, ne_eq, decide_eq_decide] at hd
    rw [e, Int.sub_mul]
    omega
  · have hd' : flDown a b = false := by simpa using hd
    have e := (fl_q_flat a b (by omega) ho hd').1
    simp only [flDown, Bool.and_eq_true, decide_eq_true_eq, bne_iff_ne, ne_eq, decide_eq_decide] at hd
    rw [e]
    omega
theorem fl_low_pos (a b : Int) (h0 : 0 < b) : 0 ≤ a - flQ a b * b ∧ a - flQ a b * b < b := by
  have ho : flOver a b = false := by simp [flOver]; omega
  have h := Int.tdiv_mul_add_tmod a b
  have hl : (a.tmod b).natAbs = a.natAbs % b.natAbs := Int.natAbs_tmod a b
  have hl2 : a.natAbs % b.natAbs < b.natAbs := Nat.mod_lt _ (by omega)
  have h2 : 0 ≤ a → 0 ≤ a.tmod b := Int.tmod_nonneg b
  have h3 : a ≤ 0 → a.tmod b ≤ 0 := fun hh => by
    have e : a = -(-a) := by omega
    rw [e, Int.neg_tmod]
    have := Int.tmod_nonneg (a := -a) b (by omega)
    omega
  by_cases hd : flDown a b = true
  · have e := (fl_q_down a b (by omega) ho hd).1
    simp only [flDown, Bool.and_eq_true, decide_eq_true_eq, bne_iff_ne, ne_eq, decide_eq_decide] at hd
    rw [e, Int.sub_mul]
    omega
  · have hd' : flDown a b = false := by simpa using hd
    have e := (fl_q_flat a b (by omega) ho hd').1
    simp only [flDown, Bool.and_eq_true, decide_eq_true_eq, bne_iff_ne, ne_eq, decide_eq_decide] at hd
    rw [e]
    omega
end Go.Proofs.Ytenmdogalnhbjaa
