/- The contracts of num.Floor and of the reference's Floor: both answer the floor of a through b, or refuse. Conditions: a and b fit int64. -/
import Derived.Test.YtenmdogalnhbjaaRows
import Derived.Test.YtenmdogalnhbjaaFlMath
import Derived.WalkKit
import Derived.WalkSpells
import Derived.WalkLawsBesides
import Derived.BigGuardPart
import Derived.Lib.Hide
import Derived.Handy
namespace Go.Proofs.Ytenmdogalnhbjaa
open Go.RowKit

theorem ret_ii {k l : IntKind} {a b c d : Int} (h : a = c) (h' : b = d) : Ending.returned (.tuple #[.int k a, .int l b]) = .returned (.tuple #[.int k c, .int l d]) := by rw [h, h']

set_option maxHeartbeats 400000 in
theorem floor_any (a b : Int) (w : World) (ha : -9223372036854775808 ≤ a ∧ a ≤ 9223372036854775807) :
    Calls Try.prog 22 #[.int .i64 a, .int .i64 b] w fun e w' => e = .returned (.tuple #[.int .i64 (flQ a b), .int .i64 (flE a b)]) ∧ w = w' := by
  by_cases h0 : b = 0
  · subst h0
    go_enter Try.func22, Try.ntmps22
    go_wp2
    go_ret2
    exact ⟨ret_ii (by simp [flQ]) (by simp [flE]), rfl⟩
  · by_cases h1 : b = -1
    · subst h1
      by_cases ho : a ≤ -9223372036854775808
      · obtain rfl : a = -9223372036854775808 := by omega
        have hx : wrap64 9223372036854775808 < 0 := by unfold wrap64; omega
        go_enter Try.func22, Try.ntmps22
        go_wp2
        go_ret2
        exact ⟨ret_ii (by simp [flQ, flOver]) (by simp [flE, flOver]), rfl⟩
      · have hov : flOver a (-1) = false := by simp [flOver]; omega
        have hw := fl_wrap a (-1) ha (by omega) hov
        have hq : a.tdiv (-1) = -a := by rw [Int.tdiv_neg, Int.tdiv_one]
        have hm : a.tmod (-1) = 0 := by simp
        have hd : flDown a (-1) = false := by simp [flDown]
        have HQ := fl_q_flat a (-1) (by omega) hov hd
        rw [hq] at hw HQ
        have HW := Lib.hid HQ
        clear HQ hw hov hd hq hm
        by_cases hz : a < 0
        all_goals
          go_enter Try.func22, Try.ntmps22
          go_wp2
          go_ret2
          exact ⟨ret_ii (by rw [HW.out.1]) HW.out.2.symm, rfl⟩
    · have hov : flOver a b = false := by simp [flOver, h1]
      have hw := fl_wrap a b ha h0 hov
      have k1 : (b == -1) = false := by simpa using h1
      by_cases hd : flDown a b = true
      · have HQ := Lib.hid (fl_q_down a b h0 hov hd)
        have hd' : a.tmod b ≠ 0 ∧ ¬ (a < 0 ↔ b < 0) := by simpa [flDown] using hd
        have hm := hd'.1
        have k2 : (!decide (a < 0) == decide (b < 0)) = true := by simpa using hd'.2
        have hw1 := fl_wrap1 a b ha h0 hov hm
        clear hd hd' hov h1
        go_enter Try.func22, Try.ntmps22
        go_wp2
        go_ret2
        exact ⟨ret_ii (hw1.trans HQ.out.1.symm) HQ.out.2.symm, rfl⟩
      · have hd0 : flDown a b = false := by simpa using hd
        have HQ := Lib.hid (fl_q_flat a b h0 hov hd0)
        have hd' : a.tmod b ≠ 0 → (a < 0 ↔ b < 0) := by simpa [flDown] using hd
        clear hd hd0 hov h1
        by_cases hm : a.tmod b = 0
        · clear hd'
          go_enter Try.func22, Try.ntmps22
          go_wp2
          go_ret2
          exact ⟨ret_ii (hw.trans HQ.out.1.symm) HQ.out.2.symm, rfl⟩
        · have k2 : (!decide (a < 0) == decide (b < 0)) = false := by simpa using hd' hm
          clear hd'
          go_enter Try.func22, Try.ntmps22
          go_wp2
          go_ret2
          exact ⟨ret_ii (hw.trans HQ.out.1.symm) HQ.out.2.symm, rfl⟩

set_option maxHeartbeats 400000 in
theorem refFloor_any (a b : Int) (w : World) (ha : -9223372036854775808 ≤ a ∧ a ≤ 9223372036854775807) :
    Calls Try.prog 23 #[.int .i64 a, .int .i64 b] w fun e w' => e = .returned (.tuple #[.int .i64 (flQ a b), .int .i64 (flE a b)]) ∧ w = w' := by
  by_cases h0 : b = 0
  · subst h0
    go_enter Try.func23, Try.ntmps23
    go_wp2
    go_ret2
    exact ⟨ret_ii (by simp [flQ]) (by simp [flE]), rfl⟩
  · by_cases h1 : b = -1
    · subst h1
      by_cases ho : a ≤ -9223372036854775808
      · obtain rfl : a = -9223372036854775808 := by omega
        go_enter Try.func23, Try.ntmps23
        go_wp2
        go_ret2
        exact ⟨ret_ii (by simp [flQ, flOver]) (by simp [flE, flOver]), rfl⟩
      · have hov : flOver a (-1) = false := by simp [flOver]; omega
        have hq : a.tdiv (-1) = -a := by rw [Int.tdiv_neg, Int.tdiv_one]
        have hd : flDown a (-1) = false := by simp [flDown]
        have HQ := fl_q_flat a (-1) (by omega) hov hd
        rw [hq] at HQ
        have HW := Lib.hid HQ
        have k1 : (a == -9223372036854775808) = false := by simp; omega
        clear HQ hov hd hq
        go_enter Try.func23, Try.ntmps23
        go_wp2
        go_ret2
        exact ⟨ret_ii HW.out.1.symm HW.out.2.symm, rfl⟩
    · have hov : flOver a b = false := by simp [flOver, h1]
      have hw := fl_wrap a b ha h0 hov
      have hk := fl_back a b ha
      have hb := Int.tdiv_mul_add_tmod a b
      have k1 : (b == -1) = false := by simpa using h1
      have k0 : (b == 0) = false := by simpa using h0
      by_cases hd : flDown a b = true
      · have HQ := Lib.hid (fl_q_down a b h0 hov hd)
        have hd' : a.tmod b ≠ 0 ∧ ¬ (a < 0 ↔ b < 0) := by simpa [flDown] using hd
        have k2 : (!decide (a < 0) == decide (b < 0)) = true := by simpa using hd'.2
        have hw1 := fl_wrap1 a b ha h0 hov hd'.1
        have k3 : (a.tdiv b * b != a) = true := by have := hd'.1; rw [bne_iff_ne]; omega
        clear hd hd' hov h1 hb
        go_enter Try.func23, Try.ntmps23
        go_wp2
        go_ret2
        exact ⟨ret_ii (hw1.trans HQ.out.1.symm) HQ.out.2.symm, rfl⟩
      · have hd0 : flDown a b = false := by simpa using hd
        have HQ := Lib.hid (fl_q_flat a b h0 hov hd0)
        have hd' : a.tmod b ≠ 0 → (a < 0 ↔ b < 0) := by simpa [flDown] using hd
        clear hd hd0 hov h1
        by_cases hm : a.tmod b = 0
        · have k3 : (a.tdiv b * b != a) = false := by rw [bne_eq_false_iff_eq]; omega
          clear hd' hb hm
          go_enter Try.func23, Try.ntmps23
          go_wp2
          go_ret2
          exact ⟨ret_ii (hw.trans HQ.out.1.symm) HQ.out.2.symm, rfl⟩
        · have k2 : (!decide (a < 0) == decide (b < 0)) = false := by simpa using hd' hm
          have k3 : (a.tdiv b * b != a) = true := by rw [bne_iff_ne]; omega
          clear hd' hb hm
          go_enter Try.func23, Try.ntmps23
          go_wp2
          go_ret2
          exact ⟨ret_ii (hw.trans HQ.out.1.symm) HQ.out.2.symm, rfl⟩
end Go.Proofs.Ytenmdogalnhbjaa
