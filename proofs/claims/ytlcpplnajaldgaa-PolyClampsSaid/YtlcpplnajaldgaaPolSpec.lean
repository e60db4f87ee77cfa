/- What the fifth layer's laws say of the tag, as plain words: no program in sight. Condition: a key of 32 bytes. -/
import Derived.Test.YtlcpplnajaldgaaRTagA
import Derived.Test.YtlcpplnajaldgaaRTagD
namespace Go.Proofs.Ytlcpplnajaldgaa
open Go.RowKit

theorem leB_numB : ∀ xs : List UInt8, leB xs.length (numB xs) = xs := by
  intro xs
  induction xs with
  | nil => rfl
  | cons x r ih =>
    have hx := x.toNat_lt
    rw [List.length_cons, leB, numB]
    have e1 : (x.toNat + 256 * numB r) % 256 = x.toNat := by omega
    have e2 : (x.toNat + 256 * numB r) / 256 = numB r := by omega
    rw [e1, e2, ih, UInt8.ofNat_toNat]
theorem numB_leBm (k n : Nat) : numB (leB k n) = n % 256 ^ k := by
  induction k generalizing n with
  | zero => rw [Nat.pow_zero, Nat.mod_one]; rfl
  | succ k ih =>
    rw [leB, numB, ih, Nat.pow_succ', Nat.mod_mul, UInt8.toNat_ofNat']
    omega
theorem leB_s {k : List UInt8} (h : k.length = 32) : leB 16 (sN k) = k.drop 16 := by
  have h1 : (k.drop 16).length = 16 := by rw [List.length_drop]; omega
  have h2 := leB_numB (k.drop 16)
  rw [h1] at h2
  exact h2
theorem tagB_eq (k m : List UInt8) : tagB k m = leB 16 (polyN (rN k) m (blksN m) + sN k) := by
  unfold tagB tagN
  exact leB_mod 16 _
/-- By a key whose first half is 0 each tag is the second half. -/
theorem tag_zero {k : List UInt8} (m : List UInt8) (h : k.length = 32) (hz : k.take 16 = List.replicate 16 0) : tagB k m = k.drop 16 := by
  have h1 : rN k = 0 := by
    unfold rN rB
    rw [hz]
    decide
  rw [tagB_eq, h1, polyN_zero, Nat.zero_add, leB_s h]
/-- The tag of nothing is the second half. -/
theorem tag_nil {k : List UInt8} (h : k.length = 32) : tagB k [] = k.drop 16 := by
  rw [tagB_eq]
  show leB 16 (0 + sN k) = _
  rw [Nat.zero_add, leB_s h]
/-- Keys with one clamped first half and one second half give one tag. -/
theorem tag_same {k o : List UInt8} (m : List UInt8) (h1 : rB k = rB o) (h2 : k.drop 16 = o.drop 16) : tagB k m = tagB o m := by
  rw [tagB_eq, tagB_eq]
  unfold rN sN
  rw [h1, h2]
theorem bits_a (c b : Nat) : ((c &&& 15) ||| (b &&& 240)) &&& 15 = c &&& 15 := by
  apply Nat.eq_of_testBit_eq
  intro i
  have h : ((240 : Nat).testBit i && (15 : Nat).testBit i) = false := by
    rw [← Nat.testBit_and]
    exact Nat.zero_testBit i
  rw [Nat.testBit_and, Nat.testBit_or, Nat.testBit_and, Nat.testBit_and]
  revert h
  generalize (240 : Nat).testBit i = x
  generalize (15 : Nat).testBit i = y
  generalize c.testBit i = z
  generalize b.testBit i = u
  revert x y z u
  decide
theorem bits_b {c : Nat} (b : Nat) (hc : c < 256) : ((c &&& 252) ||| (b &&& 3)) >>> 2 = c >>> 2 := by
  apply Nat.eq_of_testBit_eq
  intro i
  rw [Nat.testBit_shiftRight, Nat.testBit_shiftRight, Nat.testBit_or, Nat.testBit_and, Nat.testBit_and]
  have h3 : (3 : Nat).testBit (2 + i) = false := Nat.testBit_lt_two_pow (Nat.lt_of_lt_of_le (show 3 < 2 ^ 2 by decide) (Nat.pow_le_pow_right (by decide) (by omega)))
  rw [h3, Bool.and_false, Bool.or_false]
  rcases Nat.lt_or_ge i 6 with hi | hi
  · have h : (252 : Nat).testBit (2 + i) = true := by
      match i, hi with
      | 0, _ => rfl
      | 1, _ => rfl
      | 2, _ => rfl
      | 3, _ => rfl
      | 4, _ => rfl
      | 5, _ => rfl
    rw [h, Bool.and_true]
  · have h : c.testBit (2 + i) = false := Nat.testBit_lt_two_pow (Nat.lt_of_lt_of_le (show c < 2 ^ 8 from hc) (Nat.pow_le_pow_right (by decide) (by omega)))
    rw [h, Bool.false_and]
theorem clamp_a (c b : UInt8) : ((c &&& 15) ||| (b &&& 240)) % 16 = c % 16 := by
  have e : ∀ x : UInt8, (x % 16).toNat = x.toNat &&& 15 := fun x => by
    rw [UInt8.toNat_mod]
    exact (Nat.and_two_pow_sub_one_eq_mod x.toNat 4).symm
  apply UInt8.toNat_inj.1
  rw [e, e, UInt8.toNat_or, UInt8.toNat_and, UInt8.toNat_and]
  exact bits_a _ _
theorem clamp_b (c b : UInt8) : ((c &&& 252) ||| (b &&& 3)) / 4 = c / 4 := by
  have e : ∀ x : UInt8, (x / 4).toNat = x.toNat >>> 2 := fun x => by
    rw [UInt8.toNat_div]
    exact (Nat.shiftRight_eq_div_pow x.toNat 2).symm
  apply UInt8.toNat_inj.1
  rw [e, e, UInt8.toNat_or, UInt8.toNat_and, UInt8.toNat_and]
  exact bits_b _ c.toNat_lt
/-- A number added to the second half is added to the tag. -/
theorem tag_once {k o more : List UInt8} (m : List UInt8) (h1 : o.take 16 = k.take 16) (h2 : o.drop 16 = leB 16 (sN k + numB more)) : tagB o m = leB 16 (numB (tagB k m) + numB more) := by
  have e1 : rN o = rN k := by unfold rN rB; rw [h1]
  have e2 : sN o = (sN k + numB more) % 256 ^ 16 := by unfold sN; rw [h2, numB_leBm]; rfl
  rw [tagB_eq, tagB_eq, e1, e2, numB_leBm, ← leB_mod 16 (_ + numB more), Nat.mod_add_mod, ← leB_mod 16 (_ + _ % _), Nat.add_mod_mod, Nat.add_assoc]
end Go.Proofs.Ytlcpplnajaldgaa
