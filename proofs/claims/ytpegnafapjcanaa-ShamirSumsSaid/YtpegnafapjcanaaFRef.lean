/- The seventh reference's Mul: its two loops, and its contract. Conditions: bytes. -/
import Derived.Test.YtpegnafapjcanaaFExp
import Derived.Test.YtpegnafapjcanaaGen
import Derived.IntWalk
import Derived.Laws.BitsAllLaws
namespace Go.Proofs.Ytpegnafapjcanaa
open Go.RowKit

theorem wrapI_nat (n : Nat) (h : n < 9223372036854775808) : IntKind.i64.wrap (n : Int) = (n : Int) := IntWalk.i64_in _ (by omega)
theorem xorI_nat (a b : Nat) (ha : a < 2199023255552) (hb : b < 2199023255552) : bits .xor .i64 (a : Int) (b : Int) = ((a ^^^ b : Nat) : Int) := by
  have hx : a ^^^ b < 2 ^ 41 := Nat.xor_lt_two_pow ha hb
  show IntKind.i64.wrap ((BitVec.ofInt 64 (a : Int) ^^^ BitVec.ofInt 64 (b : Int)).toNat : Int) = _
  rw [BitVec.toNat_xor, ofInt_u64 a (by omega), ofInt_u64 b (by omega)]
  exact wrapI_nat _ (by omega)
/-- The product behind i rounds; what is left of it behind j. -/
def stepL (a b p i : Nat) : Nat := if b / 2 ^ i % 2 = 1 then p ^^^ (a * 2 ^ i) else p
def stepR (p i : Nat) : Nat := if p / 2 ^ i % 2 = 1 then p ^^^ (283 * 2 ^ (i - 8)) else p
def gpart (a b : Nat) : Nat → Nat
  | 0 => 0
  | i + 1 => stepL a b (gpart a b i) i
def gredN (p : Nat) : Nat → Nat
  | 0 => p
  | j + 1 => stepR (gredN p j) (14 - j)
theorem gpart_eq (a b : Nat) : gpart a b 8 = gprod a b := rfl
theorem gredN_eq (p : Nat) : gredN p 7 = gred p := rfl
theorem gpart_lt {a b : Nat} (ha : a < 256) : ∀ i, i ≤ 8 → gpart a b i < 2 ^ 16
  | 0, _ => by show 0 < 2 ^ 16; decide
  | i + 1, h => by
    have ih := gpart_lt (b := b) ha i (by omega)
    show stepL a b (gpart a b i) i < _
    unfold stepL
    split
    · refine Nat.xor_lt_two_pow ih ?_
      have h1 : 2 ^ i ≤ 2 ^ 7 := Nat.pow_le_pow_right (by decide) (by omega)
      have h2 : a * 2 ^ i ≤ 255 * 2 ^ 7 := Nat.mul_le_mul (by omega) h1
      omega
    · exact ih
theorem gredN_lt {p : Nat} (hp : p < 2 ^ 16) : ∀ j, j ≤ 7 → gredN p j < 2 ^ 16
  | 0, _ => hp
  | j + 1, h => by
    have ih := gredN_lt hp j (by omega)
    show stepR (gredN p j) (14 - j) < _
    unfold stepR
    split
    · refine Nat.xor_lt_two_pow ih ?_
      have h1 : 2 ^ (14 - j - 8) ≤ 2 ^ 6 := Nat.pow_le_pow_right (by decide) (by omega)
      have h2 : 283 * 2 ^ (14 - j - 8) ≤ 283 * 2 ^ 6 := Nat.mul_le_mul (by omega) h1
      omega
    · exact ih
def FmaRel (a b : Nat) (w : World) (p v : Value) (W : World) : Prop := ∃ i : Nat, v = .int .i64 (i : Int) ∧ i ≤ 8 ∧ p = .int .i64 (gpart a b i : Nat) ∧ W = w
def FmbRel (p0 : Nat) (w : World) (p v : Value) (W : World) : Prop := ∃ j : Nat, v = .int .i64 (14 - (j : Int)) ∧ j ≤ 7 ∧ p = .int .i64 (gredN p0 j : Nat) ∧ W = w
noncomputable def body_fma : Code := (((Try.f18.body.map loopsOf).getD [])[0]?).getD .skip
set_option maxRecDepth 100000 in
set_option maxHeartbeats 4000000 in
theorem fma_loop (c2 c3 c4 c7 c8 c9 c10 c11 c12 c13 c14 c15 c16 c17 c18 c19 c20 c21 c22 c23 c24 c25 c26 c27 c28 c29 c30 c31 c32 c33 c34 c35 c36 c37 c38 c39 c40 c41 c42 c43 : Value) (a b : Nat) (ha : a < 256) (hb : b < 256) (w : World) {Q : Exit → Act → World → Prop}
    (HQ : Hid (∀ (u6 u8 u9 u10 u11 u12 u13 u14 u15 u16 u17 u18 u19 u20 u21 u22 u23 u24 u25 : Value), Q (.exit 0) ⟨List.toArray ((.int .u8 (a : Int)) :: (.int .u8 (b : Int)) :: c2 :: c3 :: c4 :: (.int .i64 (gprod a b : Nat)) :: u6 :: c7 :: u8 :: u9 :: u10 :: u11 :: u12 :: u13 :: u14 :: u15 :: u16 :: u17 :: u18 :: u19 :: u20 :: u21 :: u22 :: u23 :: u24 :: u25 :: c26 :: c27 :: c28 :: c29 :: c30 :: c31 :: c32 :: c33 :: c34 :: c35 :: c36 :: c37 :: c38 :: c39 :: c40 :: c41 :: c42 :: c43 :: []), []⟩ w)) :
    (Code.loop body_fma).wp Try.prog Q ⟨List.toArray ((.int .u8 (a : Int)) :: (.int .u8 (b : Int)) :: c2 :: c3 :: c4 :: (.int .i64 0) :: (.int .i64 0) :: c7 :: c8 :: c9 :: c10 :: c11 :: c12 :: c13 :: c14 :: c15 :: c16 :: c17 :: c18 :: c19 :: c20 :: c21 :: c22 :: c23 :: c24 :: c25 :: c26 :: c27 :: c28 :: c29 :: c30 :: c31 :: c32 :: c33 :: c34 :: c35 :: c36 :: c37 :: c38 :: c39 :: c40 :: c41 :: c42 :: c43 :: []), []⟩ w := by
  unfold body_fma
  conv => arg 2; arg 1; whnf
  go_loopw [5, 6] (fun p v wx => FmaRel a b w p v wx) (fun _ v _ => 8 - (intOf v).toNat)
  case atStart => exact ⟨0, rfl, by omega, rfl, rfl⟩
  case round =>
    obtain ⟨i, rfl, hi, rfl, rfl⟩ := hrel
    have aI : (a : Int) ≤ 255 := by omega
    have bI : (b : Int) ≤ 255 := by omega
    by_cases hlt : i < 8
    · obtain ⟨p, hp⟩ : ∃ p, p = gpart a b i := ⟨_, rfl⟩
      have hpl : p < 2 ^ 16 := by rw [hp]; exact gpart_lt ha i (by omega)
      have HP := Lib.hid hp
      rw [← hp]
      clear hp
      have pI : (p : Int) ≤ 65535 := by omega
      have hcase : i = 0 ∨ i = 1 ∨ i = 2 ∨ i = 3 ∨ i = 4 ∨ i = 5 ∨ i = 6 ∨ i = 7 := by omega
      clear hlt hi
      rcases hcase with rfl | rfl | rfl | rfl | rfl | rfl | rfl | rfl
      · by_cases hbit : b / 2 ^ 0 % 2 = 1
        · have hbI : (b : Int) % 2 = 1 := by omega
          have hx : bits .xor .i64 (p : Int) ((a : Int)) = ((p ^^^ (a) : Nat) : Int) := xorI_nat p (a) (by omega) (by omega)
          go_wp2_with (fail)
          refine ⟨⟨1, rfl, by omega, ?_, rfl⟩, by simp [intOf]⟩
          show _ = Value.int .i64 ((stepL a b (gpart a b 0) 0 : Nat) : Int)
          rw [stepL, if_pos hbit, ← HP.out]
          try simp
        · have hbI : (b : Int) % 2 ≠ 1 := by omega
          go_wp2_with (fail)
          refine ⟨⟨1, rfl, by omega, ?_, rfl⟩, by simp [intOf]⟩
          show _ = Value.int .i64 ((stepL a b (gpart a b 0) 0 : Nat) : Int)
          rw [stepL, if_neg hbit, ← HP.out]
      · by_cases hbit : b / 2 ^ 1 % 2 = 1
        · have hbI : (b : Int) / 2 % 2 = 1 := by omega
          have hx : bits .xor .i64 (p : Int) ((a : Int) * 2) = ((p ^^^ (a * 2) : Nat) : Int) := xorI_nat p (a * 2) (by omega) (by omega)
          go_wp2_with (fail)
          refine ⟨⟨2, rfl, by omega, ?_, rfl⟩, by simp [intOf]⟩
          show _ = Value.int .i64 ((stepL a b (gpart a b 1) 1 : Nat) : Int)
          rw [stepL, if_pos hbit, ← HP.out]
          try simp
        · have hbI : (b : Int) / 2 % 2 ≠ 1 := by omega
          go_wp2_with (fail)
          refine ⟨⟨2, rfl, by omega, ?_, rfl⟩, by simp [intOf]⟩
          show _ = Value.int .i64 ((stepL a b (gpart a b 1) 1 : Nat) : Int)
          rw [stepL, if_neg hbit, ← HP.out]
      · by_cases hbit : b / 2 ^ 2 % 2 = 1
        · have hbI : (b : Int) / 4 % 2 = 1 := by omega
          have hx : bits .xor .i64 (p : Int) ((a : Int) * 4) = ((p ^^^ (a * 4) : Nat) : Int) := xorI_nat p (a * 4) (by omega) (by omega)
          go_wp2_with (fail)
          refine ⟨⟨3, rfl, by omega, ?_, rfl⟩, by simp [intOf]⟩
          show _ = Value.int .i64 ((stepL a b (gpart a b 2) 2 : Nat) : Int)
          rw [stepL, if_pos hbit, ← HP.out]
          try simp
        · have hbI : (b : Int) / 4 % 2 ≠ 1 := by omega
          go_wp2_with (fail)
          refine ⟨⟨3, rfl, by omega, ?_, rfl⟩, by simp [intOf]⟩
          show _ = Value.int .i64 ((stepL a b (gpart a b 2) 2 : Nat) : Int)
          rw [stepL, if_neg hbit, ← HP.out]
      · by_cases hbit : b / 2 ^ 3 % 2 = 1
        · have hbI : (b : Int) / 8 % 2 = 1 := by omega
          have hx : bits .xor .i64 (p : Int) ((a : Int) * 8) = ((p ^^^ (a * 8) : Nat) : Int) := xorI_nat p (a * 8) (by omega) (by omega)
          go_wp2_with (fail)
          refine ⟨⟨4, rfl, by omega, ?_, rfl⟩, by simp [intOf]⟩
          show _ = Value.int .i64 ((stepL a b (gpart a b 3) 3 : Nat) : Int)
          rw [stepL, if_pos hbit, ← HP.out]
          try simp
        · have hbI : (b : Int) / 8 % 2 ≠ 1 := by omega
          go_wp2_with (fail)
          refine ⟨⟨4, rfl, by omega, ?_, rfl⟩, by simp [intOf]⟩
          show _ = Value.int .i64 ((stepL a b (gpart a b 3) 3 : Nat) : Int)
          rw [stepL, if_neg hbit, ← HP.out]
      · by_cases hbit : b / 2 ^ 4 % 2 = 1
        · have hbI : (b : Int) / 16 % 2 = 1 := by omega
          have hx : bits .xor .i64 (p : Int) ((a : Int) * 16) = ((p ^^^ (a * 16) : Nat) : Int) := xorI_nat p (a * 16) (by omega) (by omega)
          go_wp2_with (fail)
          refine ⟨⟨5, rfl, by omega, ?_, rfl⟩, by simp [intOf]⟩
          show _ = Value.int .i64 ((stepL a b (gpart a b 4) 4 : Nat) : Int)
          rw [stepL, if_pos hbit, ← HP.out]
          try simp
        · have hbI : (b : Int) / 16 % 2 ≠ 1 := by omega
          go_wp2_with (fail)
          refine ⟨⟨5, rfl, by omega, ?_, rfl⟩, by simp [intOf]⟩
          show _ = Value.int .i64 ((stepL a b (gpart a b 4) 4 : Nat) : Int)
          rw [stepL, if_neg hbit, ← HP.out]
      · by_cases hbit : b / 2 ^ 5 % 2 = 1
        · have hbI : (b : Int) / 32 % 2 = 1 := by omega
          have hx : bits .xor .i64 (p : Int) ((a : Int) * 32) = ((p ^^^ (a * 32) : Nat) : Int) := xorI_nat p (a * 32) (by omega) (by omega)
          go_wp2_with (fail)
          refine ⟨⟨6, rfl, by omega, ?_, rfl⟩, by simp [intOf]⟩
          show _ = Value.int .i64 ((stepL a b (gpart a b 5) 5 : Nat) : Int)
          rw [stepL, if_pos hbit, ← HP.out]
          try simp
        · have hbI : (b : Int) / 32 % 2 ≠ 1 := by omega
          go_wp2_with (fail)
          refine ⟨⟨6, rfl, by omega, ?_, rfl⟩, by simp [intOf]⟩
          show _ = Value.int .i64 ((stepL a b (gpart a b 5) 5 : Nat) : Int)
          rw [stepL, if_neg hbit, ← HP.out]
      · by_cases hbit : b / 2 ^ 6 % 2 = 1
        · have hbI : (b : Int) / 64 % 2 = 1 := by omega
          have hx : bits .xor .i64 (p : Int) ((a : Int) * 64) = ((p ^^^ (a * 64) : Nat) : Int) := xorI_nat p (a * 64) (by omega) (by omega)
          go_wp2_with (fail)
          refine ⟨⟨7, rfl, by omega, ?_, rfl⟩, by simp [intOf]⟩
          show _ = Value.int .i64 ((stepL a b (gpart a b 6) 6 : Nat) : Int)
          rw [stepL, if_pos hbit, ← HP.out]
          try simp
        · have hbI : (b : Int) / 64 % 2 ≠ 1 := by omega
          go_wp2_with (fail)
          refine ⟨⟨7, rfl, by omega, ?_, rfl⟩, by simp [intOf]⟩
          show _ = Value.int .i64 ((stepL a b (gpart a b 6) 6 : Nat) : Int)
          rw [stepL, if_neg hbit, ← HP.out]
      · by_cases hbit : b / 2 ^ 7 % 2 = 1
        · have hbI : (b : Int) / 128 % 2 = 1 := by omega
          have hx : bits .xor .i64 (p : Int) ((a : Int) * 128) = ((p ^^^ (a * 128) : Nat) : Int) := xorI_nat p (a * 128) (by omega) (by omega)
          go_wp2_with (fail)
          refine ⟨⟨8, rfl, by omega, ?_, rfl⟩, by simp [intOf]⟩
          show _ = Value.int .i64 ((stepL a b (gpart a b 7) 7 : Nat) : Int)
          rw [stepL, if_pos hbit, ← HP.out]
          try simp
        · have hbI : (b : Int) / 128 % 2 ≠ 1 := by omega
          go_wp2_with (fail)
          refine ⟨⟨8, rfl, by omega, ?_, rfl⟩, by simp [intOf]⟩
          show _ = Value.int .i64 ((stepL a b (gpart a b 7) 7 : Nat) : Int)
          rw [stepL, if_neg hbit, ← HP.out]
    · obtain rfl : i = 8 := by omega
      rw [gpart_eq]
      go_wp2_with (fail)
      exact HQ.out _ _ _ _ _ _ _ _ _ _ _ _ _ _ _ _ _ _ _
noncomputable def body_fmb : Code := (((Try.f18.body.map loopsOf).getD [])[1]?).getD .skip
set_option maxRecDepth 100000 in
set_option maxHeartbeats 4000000 in
theorem fmb_loop (c0 c1 c2 c3 c4 c6 c8 c9 c10 c11 c12 c13 c14 c15 c16 c17 c18 c19 c20 c21 c22 c23 c24 c25 c26 c27 c28 c29 c30 c31 c32 c33 c34 c35 c36 c37 c38 c39 c40 c41 c42 c43 : Value) (p0 : Nat) (hp0 : p0 < 2 ^ 16) (w : World) {Q : Exit → Act → World → Prop}
    (HQ : Hid (∀ (u7 u26 u27 u28 u29 u30 u31 u32 u33 u34 u35 u36 u37 u38 u39 u40 u41 : Value), Q (.exit 2) ⟨List.toArray (c0 :: c1 :: c2 :: c3 :: c4 :: (.int .i64 (gred p0 : Nat)) :: c6 :: u7 :: c8 :: c9 :: c10 :: c11 :: c12 :: c13 :: c14 :: c15 :: c16 :: c17 :: c18 :: c19 :: c20 :: c21 :: c22 :: c23 :: c24 :: c25 :: u26 :: u27 :: u28 :: u29 :: u30 :: u31 :: u32 :: u33 :: u34 :: u35 :: u36 :: u37 :: u38 :: u39 :: u40 :: u41 :: c42 :: c43 :: []), []⟩ w)) :
    (Code.loop body_fmb).wp Try.prog Q ⟨List.toArray (c0 :: c1 :: c2 :: c3 :: c4 :: (.int .i64 (p0 : Int)) :: c6 :: (.int .i64 14) :: c8 :: c9 :: c10 :: c11 :: c12 :: c13 :: c14 :: c15 :: c16 :: c17 :: c18 :: c19 :: c20 :: c21 :: c22 :: c23 :: c24 :: c25 :: c26 :: c27 :: c28 :: c29 :: c30 :: c31 :: c32 :: c33 :: c34 :: c35 :: c36 :: c37 :: c38 :: c39 :: c40 :: c41 :: c42 :: c43 :: []), []⟩ w := by
  unfold body_fmb
  conv => arg 2; arg 1; whnf
  go_loopw [5, 7] (fun p v wx => FmbRel p0 w p v wx) (fun _ v _ => (intOf v).toNat)
  case atStart => exact ⟨0, rfl, by omega, rfl, rfl⟩
  case round =>
    obtain ⟨j, rfl, hj, rfl, rfl⟩ := hrel
    by_cases hlt : j < 7
    · obtain ⟨p, hp⟩ : ∃ p, p = gredN p0 j := ⟨_, rfl⟩
      have hpl : p < 2 ^ 16 := by rw [hp]; exact gredN_lt hp0 j (by omega)
      have HP := Lib.hid hp
      rw [← hp]
      clear hp
      have pI : (p : Int) ≤ 65535 := by omega
      have hcase : j = 0 ∨ j = 1 ∨ j = 2 ∨ j = 3 ∨ j = 4 ∨ j = 5 ∨ j = 6 := by omega
      clear hlt hj
      rcases hcase with rfl | rfl | rfl | rfl | rfl | rfl | rfl
      · by_cases hbit : p / 2 ^ 14 % 2 = 1
        · have hbI : (p : Int) / 16384 % 2 = 1 := by omega
          have hx : bits .xor .i64 (p : Int) 18112 = ((p ^^^ 18112 : Nat) : Int) := xorI_nat p 18112 (by omega) (by omega)
          go_wp2_with (fail)
          refine ⟨⟨1, rfl, by omega, ?_, rfl⟩, by simp [intOf]⟩
          show _ = Value.int .i64 ((stepR (gredN p0 0) 14 : Nat) : Int)
          rw [stepR, ← HP.out, if_pos hbit]
        · have hbI : (p : Int) / 16384 % 2 ≠ 1 := by omega
          go_wp2_with (fail)
          refine ⟨⟨1, rfl, by omega, ?_, rfl⟩, by simp [intOf]⟩
          show _ = Value.int .i64 ((stepR (gredN p0 0) 14 : Nat) : Int)
          rw [stepR, ← HP.out, if_neg hbit]
      · by_cases hbit : p / 2 ^ 13 % 2 = 1
        · have hbI : (p : Int) / 8192 % 2 = 1 := by omega
          have hx : bits .xor .i64 (p : Int) 9056 = ((p ^^^ 9056 : Nat) : Int) := xorI_nat p 9056 (by omega) (by omega)
          go_wp2_with (fail)
          refine ⟨⟨2, rfl, by omega, ?_, rfl⟩, by simp [intOf]⟩
          show _ = Value.int .i64 ((stepR (gredN p0 1) 13 : Nat) : Int)
          rw [stepR, ← HP.out, if_pos hbit]
        · have hbI : (p : Int) / 8192 % 2 ≠ 1 := by omega
          go_wp2_with (fail)
          refine ⟨⟨2, rfl, by omega, ?_, rfl⟩, by simp [intOf]⟩
          show _ = Value.int .i64 ((stepR (gredN p0 1) 13 : Nat) : Int)
          rw [stepR, ← HP.out, if_neg hbit]
      · by_cases hbit : p / 2 ^ 12 % 2 = 1
        · have hbI : (p : Int) / 4096 % 2 = 1 := by omega
          have hx : bits .xor .i64 (p : Int) 4528 = ((p ^^^ 4528 : Nat) : Int) := xorI_nat p 4528 (by omega) (by omega)
          go_wp2_with (fail)
          refine ⟨⟨3, rfl, by omega, ?_, rfl⟩, by simp [intOf]⟩
          show _ = Value.int .i64 ((stepR (gredN p0 2) 12 : Nat) : Int)
          rw [stepR, ← HP.out, if_pos hbit]
        · have hbI : (p : Int) / 4096 % 2 ≠ 1 := by omega
          go_wp2_with (fail)
          refine ⟨⟨3, rfl, by omega, ?_, rfl⟩, by simp [intOf]⟩
          show _ = Value.int .i64 ((stepR (gredN p0 2) 12 : Nat) : Int)
          rw [stepR, ← HP.out, if_neg hbit]
      · by_cases hbit : p / 2 ^ 11 % 2 = 1
        · have hbI : (p : Int) / 2048 % 2 = 1 := by omega
          have hx : bits .xor .i64 (p : Int) 2264 = ((p ^^^ 2264 : Nat) : Int) := xorI_nat p 2264 (by omega) (by omega)
          go_wp2_with (fail)
          refine ⟨⟨4, rfl, by omega, ?_, rfl⟩, by simp [intOf]⟩
          show _ = Value.int .i64 ((stepR (gredN p0 3) 11 : Nat) : Int)
          rw [stepR, ← HP.out, if_pos hbit]
        · have hbI : (p : Int) / 2048 % 2 ≠ 1 := by omega
          go_wp2_with (fail)
          refine ⟨⟨4, rfl, by omega, ?_, rfl⟩, by simp [intOf]⟩
          show _ = Value.int .i64 ((stepR (gredN p0 3) 11 : Nat) : Int)
          rw [stepR, ← HP.out, if_neg hbit]
      · by_cases hbit : p / 2 ^ 10 % 2 = 1
        · have hbI : (p : Int) / 1024 % 2 = 1 := by omega
          have hx : bits .xor .i64 (p : Int) 1132 = ((p ^^^ 1132 : Nat) : Int) := xorI_nat p 1132 (by omega) (by omega)
          go_wp2_with (fail)
          refine ⟨⟨5, rfl, by omega, ?_, rfl⟩, by simp [intOf]⟩
          show _ = Value.int .i64 ((stepR (gredN p0 4) 10 : Nat) : Int)
          rw [stepR, ← HP.out, if_pos hbit]
        · have hbI : (p : Int) / 1024 % 2 ≠ 1 := by omega
          go_wp2_with (fail)
          refine ⟨⟨5, rfl, by omega, ?_, rfl⟩, by simp [intOf]⟩
          show _ = Value.int .i64 ((stepR (gredN p0 4) 10 : Nat) : Int)
          rw [stepR, ← HP.out, if_neg hbit]
      · by_cases hbit : p / 2 ^ 9 % 2 = 1
        · have hbI : (p : Int) / 512 % 2 = 1 := by omega
          have hx : bits .xor .i64 (p : Int) 566 = ((p ^^^ 566 : Nat) : Int) := xorI_nat p 566 (by omega) (by omega)
          go_wp2_with (fail)
          refine ⟨⟨6, rfl, by omega, ?_, rfl⟩, by simp [intOf]⟩
          show _ = Value.int .i64 ((stepR (gredN p0 5) 9 : Nat) : Int)
          rw [stepR, ← HP.out, if_pos hbit]
        · have hbI : (p : Int) / 512 % 2 ≠ 1 := by omega
          go_wp2_with (fail)
          refine ⟨⟨6, rfl, by omega, ?_, rfl⟩, by simp [intOf]⟩
          show _ = Value.int .i64 ((stepR (gredN p0 5) 9 : Nat) : Int)
          rw [stepR, ← HP.out, if_neg hbit]
      · by_cases hbit : p / 2 ^ 8 % 2 = 1
        · have hbI : (p : Int) / 256 % 2 = 1 := by omega
          have hx : bits .xor .i64 (p : Int) 283 = ((p ^^^ 283 : Nat) : Int) := xorI_nat p 283 (by omega) (by omega)
          go_wp2_with (fail)
          refine ⟨⟨7, rfl, by omega, ?_, rfl⟩, by simp [intOf]⟩
          show _ = Value.int .i64 ((stepR (gredN p0 6) 8 : Nat) : Int)
          rw [stepR, ← HP.out, if_pos hbit]
        · have hbI : (p : Int) / 256 % 2 ≠ 1 := by omega
          go_wp2_with (fail)
          refine ⟨⟨7, rfl, by omega, ?_, rfl⟩, by simp [intOf]⟩
          show _ = Value.int .i64 ((stepR (gredN p0 6) 8 : Nat) : Int)
          rw [stepR, ← HP.out, if_neg hbit]
    · obtain rfl : j = 7 := by omega
      rw [gredN_eq]
      go_wp2_with (fail)
      exact HQ.out _ _ _ _ _ _ _ _ _ _ _ _ _ _ _ _ _
end Go.Proofs.Ytpegnafapjcanaa
