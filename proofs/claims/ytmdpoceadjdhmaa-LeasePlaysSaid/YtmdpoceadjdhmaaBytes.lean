/- Numbers and their forms as bytes: plain words, with no program in sight. No condition of its own. -/
import Derived.Test.YtmdpoceadjdhmaaMem
import Derived.Laws.BitsAllLaws
namespace Go.Proofs.Ytmdpoceadjdhmaa
open Go.RowKit

/-- The number whose form these bytes are. -/
def numB : List UInt8 → Nat
  | [] => 0
  | x :: r => x.toNat + 256 * numB r
theorem numB_lt (xs : List UInt8) : numB xs < 256 ^ xs.length := by
  induction xs with
  | nil => simp [numB]
  | cons x r ih =>
    have := x.toNat_lt
    rw [numB, List.length_cons, Nat.pow_succ]
    omega
theorem numB_snoc (xs : List UInt8) (c : UInt8) : numB (xs ++ [c]) = numB xs + 256 ^ xs.length * c.toNat := by
  induction xs with
  | nil => simp [numB]
  | cons x r ih =>
    rw [List.cons_append, numB, ih, numB, List.length_cons, Nat.pow_succ]
    rw [Nat.mul_add, ← Nat.mul_assoc, Nat.mul_comm 256 (256 ^ _)]
    omega

theorem numB_drop (xs : List UInt8) (j : Nat) (h : j < xs.length) : numB (xs.drop j) = numB (xs.drop (j + 1)) * 256 + (xs[j]).toNat := by
  rw [List.drop_eq_getElem_cons h, numB]
  omega
/-- The lowest k bytes of n, the lowest first. -/
def leB : Nat → Nat → List UInt8
  | 0, _ => []
  | k + 1, n => UInt8.ofNat (n % 256) :: leB k (n / 256)
theorem leB_length (k n : Nat) : (leB k n).length = k := by
  induction k generalizing n with
  | zero => rfl
  | succ k ih => simp [leB, ih]
theorem leB_snoc (k n : Nat) : leB (k + 1) n = leB k n ++ [UInt8.ofNat (n / 256 ^ k % 256)] := by
  induction k generalizing n with
  | zero => simp [leB]
  | succ k ih =>
    rw [leB, ih, leB, List.cons_append]
    congr 3
    rw [Nat.div_div_eq_div_mul, Nat.pow_succ, Nat.mul_comm 256]
theorem pow8 (j : Nat) : (2 : Int) ^ (8 * j) = ((256 ^ j : Nat) : Int) := by
  rw [Int.pow_mul]
  simp
theorem byte_of (n j : Nat) : (n : Int) / 2 ^ (8 * j) % 256 = ((UInt8.ofNat (n / 256 ^ j % 256)).toNat : Int) := by
  rw [pow8, UInt8.toNat_ofNat']
  omega
end Go.Proofs.Ytmdpoceadjdhmaa
