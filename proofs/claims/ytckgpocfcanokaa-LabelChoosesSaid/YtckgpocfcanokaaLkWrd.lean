/- The developers' inWord (label). No condition of its own. -/
import Derived.Test.YtckgpocfcanokaaLbLet
import Derived.Test.YtckgpocfcanokaaGen
import Derived.Lib.Bytealg
namespace Go.Proofs.Ytckgpocfcanokaa
open Go.RowKit

theorem ixb_any (s : ByteArray) (c : Int) (w : World) : Calls Try.prog 41 #[.string s, .int .u8 c] w fun e w' => e = .returned (.int .i64 (Lib.indexByte s.data.toList c.toNat.toUInt8)) ∧ w' = w := by
  have hx : Calls Try.prog 43 #[.string s, .int .u8 c] w fun e w' => e = .returned (.int .i64 (Lib.indexByte s.data.toList c.toNat.toUInt8)) ∧ w' = w := by
    go_enter Try.func43, Try.ntmps43
    go_wp2
    rw [run_callFunc_extern Try.func44 (by kernel_rfl) (by kernel_rfl) (by kernel_rfl) (e := Extern.BytealgIndexByte.indexByte) (by kernel_rfl), Lib.run_indexByteString]
    simp only [Result.andThen]
    rw [Oper.upon_value]
    go_wp2
    go_ret
    exact ⟨rfl, rfl⟩
  have HX := Lib.hid hx
  clear hx
  go_enter Try.func41, Try.ntmps41
  go_wp2_with (fail)
  refine HX.out.mono ?_
  rintro e w1 ⟨rfl, hw1⟩
  replace hw1 := hw1.symm
  subst hw1
  go_wp2_with (fail)
  go_ret
  exact ⟨rfl, rfl⟩
def ixN (n : Nat) : Int := if n = 95 then 0 else if n = 45 then 1 else if n = 46 then 2 else if n = 47 then 3 else -1
theorem ixN_is : ∀ n : Fin 256, Lib.indexByte [95, 45, 46, 47] (n.val : Int).toNat.toUInt8 = ixN n.val := by decide +kernel
set_option maxRecDepth 100000 in
set_option maxHeartbeats 1000000 in
theorem inw_0 (n : Nat) (h : 0 ≤ n ∧ n ≤ 44) (w : World) : Calls Try.prog 33 #[.int .u8 (n : Int)] w fun e w' => e = .returned (.bool false) ∧ w' = w := by
  have d0 : decide ((97 : Int) ≤ (n : Int)) = false := decide_eq_false (by omega)
  have d1 : decide ((n : Int) ≤ 122) = true := decide_eq_true (by omega)
  have d2 : decide ((65 : Int) ≤ (n : Int)) = false := decide_eq_false (by omega)
  have d3 : decide ((n : Int) ≤ 90) = true := decide_eq_true (by omega)
  have d4 : decide ((48 : Int) ≤ (n : Int)) = false := decide_eq_false (by omega)
  have d5 : decide ((n : Int) ≤ 57) = true := decide_eq_true (by omega)
  have hx : Lib.indexByte [95, 45, 46, 47] (n : Int).toNat.toUInt8 = -1 := by rw [ixN_is ⟨n, by omega⟩]; show ixN n = -1; unfold ixN; rw [if_neg (by omega), if_neg (by omega), if_neg (by omega), if_neg (by omega)]
  have hc : Calls Try.prog 41 #[.string ⟨#[95, 45, 46, 47]⟩, .int .u8 (n : Int)] w fun e w' => e = .returned (.int .i64 (-1)) ∧ w' = w := by
    have h1 := ixb_any ⟨#[95, 45, 46, 47]⟩ (n : Int) w
    rw [show (ByteArray.mk #[95, 45, 46, 47]).data.toList = [95, 45, 46, 47] from rfl, hx] at h1
    exact h1
  have HC := Lib.hid hc
  clear h hx hc
  go_enter Try.func33, Try.ntmps33
  go_wp2_with (fail)
  refine HC.out.mono ?_
  rintro e w1 ⟨rfl, hw1⟩
  replace hw1 := hw1.symm
  subst hw1
  go_wp2_with (fail)
  go_ret
  exact ⟨rfl, rfl⟩
set_option maxRecDepth 100000 in
set_option maxHeartbeats 1000000 in
theorem inw_1 (n : Nat) (h : 45 ≤ n ∧ n ≤ 45) (w : World) : Calls Try.prog 33 #[.int .u8 (n : Int)] w fun e w' => e = .returned (.bool true) ∧ w' = w := by
  have d0 : decide ((97 : Int) ≤ (n : Int)) = false := decide_eq_false (by omega)
  have d1 : decide ((n : Int) ≤ 122) = true := decide_eq_true (by omega)
  have d2 : decide ((65 : Int) ≤ (n : Int)) = false := decide_eq_false (by omega)
  have d3 : decide ((n : Int) ≤ 90) = true := decide_eq_true (by omega)
  have d4 : decide ((48 : Int) ≤ (n : Int)) = false := decide_eq_false (by omega)
  have d5 : decide ((n : Int) ≤ 57) = true := decide_eq_true (by omega)
  have hx : Lib.indexByte [95, 45, 46, 47] (n : Int).toNat.toUInt8 = 1 := by rw [ixN_is ⟨n, by omega⟩]; show ixN n = 1; rw [show n = 45 by omega]; rfl
  have hc : Calls Try.prog 41 #[.string ⟨#[95, 45, 46, 47]⟩, .int .u8 (n : Int)] w fun e w' => e = .returned (.int .i64 (1)) ∧ w' = w := by
    have h1 := ixb_any ⟨#[95, 45, 46, 47]⟩ (n : Int) w
    rw [show (ByteArray.mk #[95, 45, 46, 47]).data.toList = [95, 45, 46, 47] from rfl, hx] at h1
    exact h1
  have HC := Lib.hid hc
  clear h hx hc
  go_enter Try.func33, Try.ntmps33
  go_wp2_with (fail)
  refine HC.out.mono ?_
  rintro e w1 ⟨rfl, hw1⟩
  replace hw1 := hw1.symm
  subst hw1
  go_wp2_with (fail)
  go_ret
  exact ⟨rfl, rfl⟩
set_option maxRecDepth 100000 in
set_option maxHeartbeats 1000000 in
theorem inw_2 (n : Nat) (h : 46 ≤ n ∧ n ≤ 46) (w : World) : Calls Try.prog 33 #[.int .u8 (n : Int)] w fun e w' => e = .returned (.bool true) ∧ w' = w := by
  have d0 : decide ((97 : Int) ≤ (n : Int)) = false := decide_eq_false (by omega)
  have d1 : decide ((n : Int) ≤ 122) = true := decide_eq_true (by omega)
  have d2 : decide ((65 : Int) ≤ (n : Int)) = false := decide_eq_false (by omega)
  have d3 : decide ((n : Int) ≤ 90) = true := decide_eq_true (by omega)
  have d4 : decide ((48 : Int) ≤ (n : Int)) = false := decide_eq_false (by omega)
  have d5 : decide ((n : Int) ≤ 57) = true := decide_eq_true (by omega)
  have hx : Lib.indexByte [95, 45, 46, 47] (n : Int).toNat.toUInt8 = 2 := by rw [ixN_is ⟨n, by omega⟩]; show ixN n = 2; rw [show n = 46 by omega]; rfl
  have hc : Calls Try.prog 41 #[.string ⟨#[95, 45, 46, 47]⟩, .int .u8 (n : Int)] w fun e w' => e = .returned (.int .i64 (2)) ∧ w' = w := by
    have h1 := ixb_any ⟨#[95, 45, 46, 47]⟩ (n : Int) w
    rw [show (ByteArray.mk #[95, 45, 46, 47]).data.toList = [95, 45, 46, 47] from rfl, hx] at h1
    exact h1
  have HC := Lib.hid hc
  clear h hx hc
  go_enter Try.func33, Try.ntmps33
  go_wp2_with (fail)
  refine HC.out.mono ?_
  rintro e w1 ⟨rfl, hw1⟩
  replace hw1 := hw1.symm
  subst hw1
  go_wp2_with (fail)
  go_ret
  exact ⟨rfl, rfl⟩
set_option maxRecDepth 100000 in
set_option maxHeartbeats 1000000 in
theorem inw_3 (n : Nat) (h : 47 ≤ n ∧ n ≤ 47) (w : World) : Calls Try.prog 33 #[.int .u8 (n : Int)] w fun e w' => e = .returned (.bool true) ∧ w' = w := by
  have d0 : decide ((97 : Int) ≤ (n : Int)) = false := decide_eq_false (by omega)
  have d1 : decide ((n : Int) ≤ 122) = true := decide_eq_true (by omega)
  have d2 : decide ((65 : Int) ≤ (n : Int)) = false := decide_eq_false (by omega)
  have d3 : decide ((n : Int) ≤ 90) = true := decide_eq_true (by omega)
  have d4 : decide ((48 : Int) ≤ (n : Int)) = false := decide_eq_false (by omega)
  have d5 : decide ((n : Int) ≤ 57) = true := decide_eq_true (by omega)
  have hx : Lib.indexByte [95, 45, 46, 47] (n : Int).toNat.toUInt8 = 3 := by rw [ixN_is ⟨n, by omega⟩]; show ixN n = 3; rw [show n = 47 by omega]; rfl
  have hc : Calls Try.prog 41 #[.string ⟨#[95, 45, 46, 47]⟩, .int .u8 (n : Int)] w fun e w' => e = .returned (.int .i64 (3)) ∧ w' = w := by
    have h1 := ixb_any ⟨#[95, 45, 46, 47]⟩ (n : Int) w
    rw [show (ByteArray.mk #[95, 45, 46, 47]).data.toList = [95, 45, 46, 47] from rfl, hx] at h1
    exact h1
  have HC := Lib.hid hc
  clear h hx hc
  go_enter Try.func33, Try.ntmps33
  go_wp2_with (fail)
  refine HC.out.mono ?_
  rintro e w1 ⟨rfl, hw1⟩
  replace hw1 := hw1.symm
  subst hw1
  go_wp2_with (fail)
  go_ret
  exact ⟨rfl, rfl⟩
set_option maxRecDepth 100000 in
set_option maxHeartbeats 1000000 in
theorem inw_4 (n : Nat) (h : 48 ≤ n ∧ n ≤ 57) (w : World) : Calls Try.prog 33 #[.int .u8 (n : Int)] w fun e w' => e = .returned (.bool true) ∧ w' = w := by
  have d0 : decide ((97 : Int) ≤ (n : Int)) = false := decide_eq_false (by omega)
  have d1 : decide ((n : Int) ≤ 122) = true := decide_eq_true (by omega)
  have d2 : decide ((65 : Int) ≤ (n : Int)) = false := decide_eq_false (by omega)
  have d3 : decide ((n : Int) ≤ 90) = true := decide_eq_true (by omega)
  have d4 : decide ((48 : Int) ≤ (n : Int)) = true := decide_eq_true (by omega)
  have d5 : decide ((n : Int) ≤ 57) = true := decide_eq_true (by omega)
  clear h
  go_enter Try.func33, Try.ntmps33
  go_wp2_with (fail)
  go_ret
  exact ⟨rfl, rfl⟩
set_option maxRecDepth 100000 in
set_option maxHeartbeats 1000000 in
theorem inw_5 (n : Nat) (h : 58 ≤ n ∧ n ≤ 64) (w : World) : Calls Try.prog 33 #[.int .u8 (n : Int)] w fun e w' => e = .returned (.bool false) ∧ w' = w := by
  have d0 : decide ((97 : Int) ≤ (n : Int)) = false := decide_eq_false (by omega)
  have d1 : decide ((n : Int) ≤ 122) = true := decide_eq_true (by omega)
  have d2 : decide ((65 : Int) ≤ (n : Int)) = false := decide_eq_false (by omega)
  have d3 : decide ((n : Int) ≤ 90) = true := decide_eq_true (by omega)
  have d4 : decide ((48 : Int) ≤ (n : Int)) = true := decide_eq_true (by omega)
  have d5 : decide ((n : Int) ≤ 57) = false := decide_eq_false (by omega)
  have hx : Lib.indexByte [95, 45, 46, 47] (n : Int).toNat.toUInt8 = -1 := by rw [ixN_is ⟨n, by omega⟩]; show ixN n = -1; unfold ixN; rw [if_neg (by omega), if_neg (by omega), if_neg (by omega), if_neg (by omega)]
  have hc : Calls Try.prog 41 #[.string ⟨#[95, 45, 46, 47]⟩, .int .u8 (n : Int)] w fun e w' => e = .returned (.int .i64 (-1)) ∧ w' = w := by
    have h1 := ixb_any ⟨#[95, 45, 46, 47]⟩ (n : Int) w
    rw [show (ByteArray.mk #[95, 45, 46, 47]).data.toList = [95, 45, 46, 47] from rfl, hx] at h1
    exact h1
  have HC := Lib.hid hc
  clear h hx hc
  go_enter Try.func33, Try.ntmps33
  go_wp2_with (fail)
  refine HC.out.mono ?_
  rintro e w1 ⟨rfl, hw1⟩
  replace hw1 := hw1.symm
  subst hw1
  go_wp2_with (fail)
  go_ret
  exact ⟨rfl, rfl⟩
set_option maxRecDepth 100000 in
set_option maxHeartbeats 1000000 in
theorem inw_6 (n : Nat) (h : 65 ≤ n ∧ n ≤ 90) (w : World) : Calls Try.prog 33 #[.int .u8 (n : Int)] w fun e w' => e = .returned (.bool true) ∧ w' = w := by
  have d0 : decide ((97 : Int) ≤ (n : Int)) = false := decide_eq_false (by omega)
  have d1 : decide ((n : Int) ≤ 122) = true := decide_eq_true (by omega)
  have d2 : decide ((65 : Int) ≤ (n : Int)) = true := decide_eq_true (by omega)
  have d3 : decide ((n : Int) ≤ 90) = true := decide_eq_true (by omega)
  have d4 : decide ((48 : Int) ≤ (n : Int)) = true := decide_eq_true (by omega)
  have d5 : decide ((n : Int) ≤ 57) = false := decide_eq_false (by omega)
  clear h
  go_enter Try.func33, Try.ntmps33
  go_wp2_with (fail)
  go_ret
  exact ⟨rfl, rfl⟩
set_option maxRecDepth 100000 in
set_option maxHeartbeats 1000000 in
theorem inw_7 (n : Nat) (h : 91 ≤ n ∧ n ≤ 94) (w : World) : Calls Try.prog 33 #[.int .u8 (n : Int)] w fun e w' => e = .returned (.bool false) ∧ w' = w := by
  have d0 : decide ((97 : Int) ≤ (n : Int)) = false := decide_eq_false (by omega)
  have d1 : decide ((n : Int) ≤ 122) = true := decide_eq_true (by omega)
  have d2 : decide ((65 : Int) ≤ (n : Int)) = true := decide_eq_true (by omega)
  have d3 : decide ((n : Int) ≤ 90) = false := decide_eq_false (by omega)
  have d4 : decide ((48 : Int) ≤ (n : Int)) = true := decide_eq_true (by omega)
  have d5 : decide ((n : Int) ≤ 57) = false := decide_eq_false (by omega)
  have hx : Lib.indexByte [95, 45, 46, 47] (n : Int).toNat.toUInt8 = -1 := by rw [ixN_is ⟨n, by omega⟩]; show ixN n = -1; unfold ixN; rw [if_neg (by omega), if_neg (by omega), if_neg (by omega), if_neg (by omega)]
  have hc : Calls Try.prog 41 #[.string ⟨#[95, 45, 46, 47]⟩, .int .u8 (n : Int)] w fun e w' => e = .returned (.int .i64 (-1)) ∧ w' = w := by
    have h1 := ixb_any ⟨#[95, 45, 46, 47]⟩ (n : Int) w
    rw [show (ByteArray.mk #[95, 45, 46, 47]).data.toList = [95, 45, 46, 47] from rfl, hx] at h1
    exact h1
  have HC := Lib.hid hc
  clear h hx hc
  go_enter Try.func33, Try.ntmps33
  go_wp2_with (fail)
  refine HC.out.mono ?_
  rintro e w1 ⟨rfl, hw1⟩
  replace hw1 := hw1.symm
  subst hw1
  go_wp2_with (fail)
  go_ret
  exact ⟨rfl, rfl⟩
set_option maxRecDepth 100000 in
set_option maxHeartbeats 1000000 in
theorem inw_8 (n : Nat) (h : 95 ≤ n ∧ n ≤ 95) (w : World) : Calls Try.prog 33 #[.int .u8 (n : Int)] w fun e w' => e = .returned (.bool true) ∧ w' = w := by
  have d0 : decide ((97 : Int) ≤ (n : Int)) = false := decide_eq_false (by omega)
  have d1 : decide ((n : Int) ≤ 122) = true := decide_eq_true (by omega)
  have d2 : decide ((65 : Int) ≤ (n : Int)) = true := decide_eq_true (by omega)
  have d3 : decide ((n : Int) ≤ 90) = false := decide_eq_false (by omega)
  have d4 : decide ((48 : Int) ≤ (n : Int)) = true := decide_eq_true (by omega)
  have d5 : decide ((n : Int) ≤ 57) = false := decide_eq_false (by omega)
  have hx : Lib.indexByte [95, 45, 46, 47] (n : Int).toNat.toUInt8 = 0 := by rw [ixN_is ⟨n, by omega⟩]; show ixN n = 0; rw [show n = 95 by omega]; rfl
  have hc : Calls Try.prog 41 #[.string ⟨#[95, 45, 46, 47]⟩, .int .u8 (n : Int)] w fun e w' => e = .returned (.int .i64 (0)) ∧ w' = w := by
    have h1 := ixb_any ⟨#[95, 45, 46, 47]⟩ (n : Int) w
    rw [show (ByteArray.mk #[95, 45, 46, 47]).data.toList = [95, 45, 46, 47] from rfl, hx] at h1
    exact h1
  have HC := Lib.hid hc
  clear h hx hc
  go_enter Try.func33, Try.ntmps33
  go_wp2_with (fail)
  refine HC.out.mono ?_
  rintro e w1 ⟨rfl, hw1⟩
  replace hw1 := hw1.symm
  subst hw1
  go_wp2_with (fail)
  go_ret
  exact ⟨rfl, rfl⟩
set_option maxRecDepth 100000 in
set_option maxHeartbeats 1000000 in
theorem inw_9 (n : Nat) (h : 96 ≤ n ∧ n ≤ 96) (w : World) : Calls Try.prog 33 #[.int .u8 (n : Int)] w fun e w' => e = .returned (.bool false) ∧ w' = w := by
  have d0 : decide ((97 : Int) ≤ (n : Int)) = false := decide_eq_false (by omega)
  have d1 : decide ((n : Int) ≤ 122) = true := decide_eq_true (by omega)
  have d2 : decide ((65 : Int) ≤ (n : Int)) = true := decide_eq_true (by omega)
  have d3 : decide ((n : Int) ≤ 90) = false := decide_eq_false (by omega)
  have d4 : decide ((48 : Int) ≤ (n : Int)) = true := decide_eq_true (by omega)
  have d5 : decide ((n : Int) ≤ 57) = false := decide_eq_false (by omega)
  have hx : Lib.indexByte [95, 45, 46, 47] (n : Int).toNat.toUInt8 = -1 := by rw [ixN_is ⟨n, by omega⟩]; show ixN n = -1; unfold ixN; rw [if_neg (by omega), if_neg (by omega), if_neg (by omega), if_neg (by omega)]
  have hc : Calls Try.prog 41 #[.string ⟨#[95, 45, 46, 47]⟩, .int .u8 (n : Int)] w fun e w' => e = .returned (.int .i64 (-1)) ∧ w' = w := by
    have h1 := ixb_any ⟨#[95, 45, 46, 47]⟩ (n : Int) w
    rw [show (ByteArray.mk #[95, 45, 46, 47]).data.toList = [95, 45, 46, 47] from rfl, hx] at h1
    exact h1
  have HC := Lib.hid hc
  clear h hx hc
  go_enter Try.func33, Try.ntmps33
  go_wp2_with (fail)
  refine HC.out.mono ?_
  rintro e w1 ⟨rfl, hw1⟩
  replace hw1 := hw1.symm
  subst hw1
  go_wp2_with (fail)
  go_ret
  exact ⟨rfl, rfl⟩
set_option maxRecDepth 100000 in
set_option maxHeartbeats 1000000 in
theorem inw_10 (n : Nat) (h : 97 ≤ n ∧ n ≤ 122) (w : World) : Calls Try.prog 33 #[.int .u8 (n : Int)] w fun e w' => e = .returned (.bool true) ∧ w' = w := by
  have d0 : decide ((97 : Int) ≤ (n : Int)) = true := decide_eq_true (by omega)
  have d1 : decide ((n : Int) ≤ 122) = true := decide_eq_true (by omega)
  have d2 : decide ((65 : Int) ≤ (n : Int)) = true := decide_eq_true (by omega)
  have d3 : decide ((n : Int) ≤ 90) = false := decide_eq_false (by omega)
  have d4 : decide ((48 : Int) ≤ (n : Int)) = true := decide_eq_true (by omega)
  have d5 : decide ((n : Int) ≤ 57) = false := decide_eq_false (by omega)
  clear h
  go_enter Try.func33, Try.ntmps33
  go_wp2_with (fail)
  go_ret
  exact ⟨rfl, rfl⟩
set_option maxRecDepth 100000 in
set_option maxHeartbeats 1000000 in
theorem inw_11 (n : Nat) (h : 123 ≤ n ∧ n ≤ 255) (w : World) : Calls Try.prog 33 #[.int .u8 (n : Int)] w fun e w' => e = .returned (.bool false) ∧ w' = w := by
  have d0 : decide ((97 : Int) ≤ (n : Int)) = true := decide_eq_true (by omega)
  have d1 : decide ((n : Int) ≤ 122) = false := decide_eq_false (by omega)
  have d2 : decide ((65 : Int) ≤ (n : Int)) = true := decide_eq_true (by omega)
  have d3 : decide ((n : Int) ≤ 90) = false := decide_eq_false (by omega)
  have d4 : decide ((48 : Int) ≤ (n : Int)) = true := decide_eq_true (by omega)
  have d5 : decide ((n : Int) ≤ 57) = false := decide_eq_false (by omega)
  have hx : Lib.indexByte [95, 45, 46, 47] (n : Int).toNat.toUInt8 = -1 := by rw [ixN_is ⟨n, by omega⟩]; show ixN n = -1; unfold ixN; rw [if_neg (by omega), if_neg (by omega), if_neg (by omega), if_neg (by omega)]
  have hc : Calls Try.prog 41 #[.string ⟨#[95, 45, 46, 47]⟩, .int .u8 (n : Int)] w fun e w' => e = .returned (.int .i64 (-1)) ∧ w' = w := by
    have h1 := ixb_any ⟨#[95, 45, 46, 47]⟩ (n : Int) w
    rw [show (ByteArray.mk #[95, 45, 46, 47]).data.toList = [95, 45, 46, 47] from rfl, hx] at h1
    exact h1
  have HC := Lib.hid hc
  clear h hx hc
  go_enter Try.func33, Try.ntmps33
  go_wp2_with (fail)
  refine HC.out.mono ?_
  rintro e w1 ⟨rfl, hw1⟩
  replace hw1 := hw1.symm
  subst hw1
  go_wp2_with (fail)
  go_ret
  exact ⟨rfl, rfl⟩
theorem inWord_any (c : UInt8) (w : World) : Calls Try.prog 33 #[.int .u8 (c.toNat : Int)] w fun e w' => e = .returned (.bool (letterB c)) ∧ w' = w := by
  have hc := c.toNat_lt
  obtain ⟨n, hn⟩ : ∃ n, n = c.toNat := ⟨_, rfl⟩
  have hl : letterB c = letN n := by rw [hn]; rfl
  rw [hl, ← hn]
  rw [← hn] at hc
  clear hl hn
  have go : ∀ b, letN n = b → (Calls Try.prog 33 #[.int .u8 (n : Int)] w fun e w' => e = .returned (.bool b) ∧ w' = w) → Calls Try.prog 33 #[.int .u8 (n : Int)] w fun e w' => e = .returned (.bool (letN n)) ∧ w' = w := fun b hb h => by
    rw [hb]
    exact h
  by_cases h0 : 0 ≤ n ∧ n ≤ 44
  · exact go false (by unfold letN; simp; omega) (inw_0 n h0 w)
  by_cases h1 : 45 ≤ n ∧ n ≤ 45
  · exact go true (by unfold letN; simp; omega) (inw_1 n h1 w)
  by_cases h2 : 46 ≤ n ∧ n ≤ 46
  · exact go true (by unfold letN; simp; omega) (inw_2 n h2 w)
  by_cases h3 : 47 ≤ n ∧ n ≤ 47
  · exact go true (by unfold letN; simp; omega) (inw_3 n h3 w)
  by_cases h4 : 48 ≤ n ∧ n ≤ 57
  · exact go true (by unfold letN; simp; omega) (inw_4 n h4 w)
  by_cases h5 : 58 ≤ n ∧ n ≤ 64
  · exact go false (by unfold letN; simp; omega) (inw_5 n h5 w)
  by_cases h6 : 65 ≤ n ∧ n ≤ 90
  · exact go true (by unfold letN; simp; omega) (inw_6 n h6 w)
  by_cases h7 : 91 ≤ n ∧ n ≤ 94
  · exact go false (by unfold letN; simp; omega) (inw_7 n h7 w)
  by_cases h8 : 95 ≤ n ∧ n ≤ 95
  · exact go true (by unfold letN; simp; omega) (inw_8 n h8 w)
  by_cases h9 : 96 ≤ n ∧ n ≤ 96
  · exact go false (by unfold letN; simp; omega) (inw_9 n h9 w)
  by_cases h10 : 97 ≤ n ∧ n ≤ 122
  · exact go true (by unfold letN; simp; omega) (inw_10 n h10 w)
  by_cases h11 : 123 ≤ n ∧ n ≤ 255
  · exact go false (by unfold letN; simp; omega) (inw_11 n h11 w)
  exfalso
  omega
end Go.Proofs.Ytckgpocfcanokaa
