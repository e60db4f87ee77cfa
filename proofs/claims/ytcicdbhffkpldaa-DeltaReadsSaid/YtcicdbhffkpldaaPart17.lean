/- Part 17 of the words that the laws share: GShort. No condition of its own: each theorem says its own. -/
import Derived.Test.YtcicdbhffkpldaaPart16
import Derived.Test.YtcicdbhffkpldaaPart9
import Derived.Laws.BitsAllLaws

/- The contract of num.GetShort: what a short form read makes of bytes. No condition of its own. -/
namespace Go.Proofs.Ytcicdbhffkpldaa
open Go.RowKit

theorem pow7g (j : Nat) : (2 : Int) ^ (7 * j) = ((128 ^ j : Nat) : Int) := by
  rw [Int.pow_mul]
  simp
theorem u8_low7 {x : Nat} (h : x < 256) : bits .and .u8 (x : Int) 127 = ((x % 128 : Nat) : Int) := by
  have h1 : ∀ a : Fin 256, a.val &&& 127 = a.val % 128 := by decide +kernel
  have h2 := u8_and_nat x 127 h (by omega)
  exact h2.trans (congrArg Nat.cast (h1 ⟨x, h⟩))
theorem pow128_le {j : Nat} (h : j ≤ 9) : (128 : Nat) ^ j ≤ 9223372036854775808 := Nat.le_trans (Nat.pow_le_pow_right (by omega) h) (by decide)
theorem or_short (n c j : Nat) (hn : n < 128 ^ j) (hb : n + 128 ^ j * c < 18446744073709551616) : bits .or .u64 (n : Int) (IntKind.u64.wrap ((c : Int) * 2 ^ (7 * j))) = ((n + 128 ^ j * c : Nat) : Int) := by
  have e : (c : Int) * 2 ^ (7 * j) = ((128 ^ j * c : Nat) : Int) := by rw [pow7g, Int.natCast_mul, Int.mul_comm]
  have h3 : n < 2 ^ (7 * j) := by rw [Nat.pow_mul]; exact hn
  have h4 := Nat.two_pow_add_eq_or_of_lt h3 c
  have e2 : (2 : Nat) ^ (7 * j) = 128 ^ j := by rw [Nat.pow_mul]
  rw [e, IntWalk.u64_in _ (by omega), u64_or_nat n (128 ^ j * c) (by omega) (by omega)]
  rw [e2] at h4
  rw [Nat.or_comm, ← h4, Nat.add_comm]

def GsRel (xs : List UInt8) (s i : Value) : Prop := ∃ j a : Nat, i = .int .i64 j ∧ j ≤ 10 ∧ s = .int .u64 a ∧ j ≤ xs.length ∧ (j ≤ 9 → a < 128 ^ j) ∧ gsL j a (xs.drop j) = getS xs
set_option maxRecDepth 100000 in
set_option maxHeartbeats 3000000 in
theorem getShort_any (v : Value) (xs : List UInt8) (w : World) (h : Rd w v xs) :
    Calls Try.prog 40 #[v] w fun e w' => e = .returned (.tuple #[.int .u64 ((getS xs).1 : Nat), .int .i64 ((getS xs).2.1 : Nat), .int .i64 ((getS xs).2.2 : Nat)]) ∧ w = w' := by
  obtain ⟨A, c, rfl, hc1, hc2, hA⟩ := h.form
  unfold maxLen at hc2
  have HA := Lib.hid hA
  clear h hA
  go_enter Try.func40, Try.ntmps40
  go_wp2_with (fail)
  go_loop [2, 7] (fun s i => GsRel xs s i) (fun _ i => 10 - (intOf i).toNat)
  case atStart => exact ⟨0, 0, rfl, by omega, rfl, by omega, by omega, rfl⟩
  case round =>
    obtain ⟨j, a, rfl, hj, rfl, hjl, ha, hg⟩ := hrel
    have HG := Lib.hid hg
    have HAJ := Lib.hid ha
    clear hg ha
    by_cases hten : j = 10
    · have hz : getS xs = (0, 0, 4) := by rw [← HG.out, hten]; exact gsL_ten _ _
      have HZ := Lib.hid hz
      clear hz
      go_wp2
      go_ret3
      rw [HZ.out]
      exact ⟨rfl, rfl⟩
    have h10 : decide ((j : Int) < 10) = true := decide_eq_true (by omega)
    by_cases hend : j = xs.length
    · have hz : getS xs = (0, 0, 2) := by
        rw [← HG.out, hend, List.drop_length, gsL, if_neg (by omega)]
      have HZ := Lib.hid hz
      clear hz
      go_wp2
      go_ret3
      rw [HZ.out]
      exact ⟨rfl, rfl⟩
    obtain ⟨b, off, rfl, hb1, hb2⟩ := HA.out (by omega)
    have hjx : j < xs.length := by omega
    have hc := hb2 j hjx
    obtain ⟨x, hx⟩ : ∃ x, x = (xs[j]'hjx).toNat := ⟨_, rfl⟩
    rw [← hx] at hc
    have hxl : x < 256 := by rw [hx]; exact UInt8.toNat_lt _
    have hstep : getS xs = if (j = 9 ∧ 1 < x) ∨ (0 < j ∧ x = 0) then (0, 0, 4) else if x < 128 then (a + 128 ^ j * (x % 128), j + 1, 0) else gsL (j + 1) (a + 128 ^ j * (x % 128)) (xs.drop (j + 1)) := by
      rw [← HG.out, List.drop_eq_getElem_cons hjx, gsL, if_neg (by omega), hx]
    have HS := Lib.hid hstep
    clear hstep hb2 hx
    have HX := Lib.hid hxl
    have hlen : ((j : Int) == (xs.length : Int)) = false := beq_eq_false_iff_ne.mpr (by omega)
    by_cases hbad : (j = 9 ∧ 1 < x) ∨ (0 < j ∧ x = 0)
    · have hz : getS xs = (0, 0, 4) := by rw [HS.out, if_pos hbad]
      have HZ := Lib.hid hz
      clear hz
      rcases hbad with ⟨rfl, h1⟩ | ⟨h1, rfl⟩
      · have hg1 : (1 : Int) < (x : Int) := by omega
        go_wp2
        go_ret3
        rw [HZ.out]
        exact ⟨rfl, rfl⟩
      · have hg1 : (0 : Int) < (j : Int) := by omega
        go_wp2
        all_goals
          go_ret3
          rw [HZ.out]
          exact ⟨rfl, rfl⟩
    have hz : getS xs = if x < 128 then (a + 128 ^ j * (x % 128), j + 1, 0) else gsL (j + 1) (a + 128 ^ j * (x % 128)) (xs.drop (j + 1)) := by rw [HS.out, if_neg hbad]
    have HZ := Lib.hid hz
    clear hz
    have hj9 : j ≤ 9 := by omega
    have haj := HAJ.out hj9
    have hsum : a + 128 ^ j * (x % 128) < 18446744073709551616 := by
      by_cases h9 : j = 9
      · subst h9
        have h1 : x % 128 ≤ 1 := by omega
        have h2 : 128 ^ 9 * (x % 128) ≤ 128 ^ 9 * 1 := Nat.mul_le_mul_left _ h1
        omega
      · have h1 : 128 ^ j * (x % 128) < 128 ^ j * 128 := Nat.mul_lt_mul_of_pos_left (by omega) (Nat.pow_pos (by omega))
        have h2 := pow128_le (j := j + 1) (by omega)
        rw [Nat.pow_succ] at h2
        omega
    have HO := or_short a (x % 128) j haj hsum
    have HL := u8_low7 hxl
    have HB := Lib.hid hbad
    clear hbad hsum haj
    obtain ⟨y, hy⟩ : ∃ y, y = x % 128 := ⟨_, rfl⟩
    obtain ⟨m, hm⟩ : ∃ m, m = a + 128 ^ j * y := ⟨_, rfl⟩
    have hz : getS xs = if x < 128 then (m, j + 1, 0) else gsL (j + 1) m (xs.drop (j + 1)) := by rw [HZ.out, hm, hy]
    rw [← hy] at HO HL
    rw [← hm] at HO
    have hml : j + 1 ≤ 9 → m < 128 ^ (j + 1) := by
      intro h8
      have h1 : 128 ^ j * y ≤ 128 ^ j * 127 := Nat.mul_le_mul_left _ (by omega)
      have h2 := HAJ.out hj9
      rw [Nat.pow_succ, hm]
      omega
    have HW := Lib.hid hz
    have HM := Lib.hid hml
    have hyl : y < 128 := by omega
    have HYX := Lib.hid hy
    clear hz hm hy hml HZ
    by_cases hlt : x < 128
    · have hz : getS xs = (m, j + 1, 0) := by rw [HW.out, if_pos hlt]
      have HY := Lib.hid hz
      clear hz
      by_cases h9 : j = 9
      · have hx1 : x = 1 := by have := HB.out; omega
        have hy1 : y = 1 := by have := HYX.out; omega
        subst h9 hx1 hy1
        have HO9 : bits .or .u64 (a : Int) 9223372036854775808 = (m : Int) := by
          have e : IntKind.u64.wrap (((1 : Nat) : Int) * 2 ^ (7 * 9)) = 9223372036854775808 := by decide
          rw [e] at HO
          exact HO
        have hl : ((9 : Int) == (xs.length : Int)) = false := hlen
        have HL1 : bits .and .u8 (1 : Int) 127 = 1 := HL
        have W1 : IntKind.u64.wrap 1 = 1 := by decide
        have W2 : IntKind.u64.wrap 9223372036854775808 = 9223372036854775808 := by decide
        clear HO hlen HYX HL
        go_wp2
        all_goals
          go_ret3
          rw [HY.out]
          exact ⟨rfl, rfl⟩
      · have d9 : ((j : Int) == 9) = false := beq_eq_false_iff_ne.mpr (by omega)
        have dl : decide ((x : Int) < 128) = true := decide_eq_true (by omega)
        have H9 := Lib.hid h9
        clear h9
        by_cases h0 : j = 0
        · have H0 := Lib.hid h0
          have d0 : decide ((0 : Int) < (j : Int)) = false := decide_eq_false (by omega)
          have d0n : decide (0 < j) = false := decide_eq_false (by omega)
          have d0p : ¬ 0 < j := by omega
          clear h0
          go_wp2
          all_goals
            go_ret3
            rw [HY.out]
            exact ⟨rfl, rfl⟩
        · have H0 := Lib.hid h0
          have d0 : decide ((0 : Int) < (j : Int)) = true := decide_eq_true (by omega)
          have d0n : decide (0 < j) = true := decide_eq_true (by omega)
          have d0p : 0 < j := by omega
          have dx0 : ((x : Int) == 0) = false := beq_eq_false_iff_ne.mpr (by have := HB.out; omega)
          clear h0
          go_wp2
          all_goals
            go_ret3
            rw [HY.out]
            exact ⟨rfl, rfl⟩
    · have hz : getS xs = gsL (j + 1) m (xs.drop (j + 1)) := by rw [HW.out, if_neg hlt]
      have HY := Lib.hid hz
      have h9 : j ≠ 9 := by have := HB.out; omega
      have d9 : ((j : Int) == 9) = false := beq_eq_false_iff_ne.mpr (by omega)
      have dl : decide ((x : Int) < 128) = false := decide_eq_false (by omega)
      have H9 := Lib.hid h9
      clear h9 hz
      by_cases h0 : j = 0
      · have H0 := Lib.hid h0
        have d0 : decide ((0 : Int) < (j : Int)) = false := decide_eq_false (by omega)
        have d0n : decide (0 < j) = false := decide_eq_false (by omega)
        have d0p : ¬ 0 < j := by omega
        clear h0
        go_wp2
        go_round
        case rel => exact ⟨j + 1, m, by go_num, by omega, rfl, by omega, fun h => HM.out h, HY.out.symm⟩
        case measure => simp [intOf]; omega
      · have H0 := Lib.hid h0
        have d0 : decide ((0 : Int) < (j : Int)) = true := decide_eq_true (by omega)
        have d0n : decide (0 < j) = true := decide_eq_true (by omega)
        have d0p : 0 < j := by omega
        have dx0 : ((x : Int) == 0) = false := beq_eq_false_iff_ne.mpr (by have := HB.out; omega)
        clear h0
        go_wp2
        go_round
        case rel => exact ⟨j + 1, m, by go_num, by omega, rfl, by omega, fun h => HM.out h, HY.out.symm⟩
        case measure => simp [intOf]; omega

end Go.Proofs.Ytcicdbhffkpldaa
