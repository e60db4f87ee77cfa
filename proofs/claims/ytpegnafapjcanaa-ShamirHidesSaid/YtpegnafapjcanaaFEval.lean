/- Values of polynomials: by the constant and the rest; of sums; of one put a place higher. Condition: an element. -/
import Derived.Test.YtpegnafapjcanaaGf
import Derived.Test.YtpegnafapjcanaaFGev
namespace Go.Proofs.Ytpegnafapjcanaa
open Go.RowKit

theorem geP_cons (c : UInt8) (l : List UInt8) {x : Nat} (hx : x < 256) : ∀ i, geP (c :: l) x (i + 1) = c.toNat ^^^ gmul x (geP l x i)
  | 0 => by
    show 0 ^^^ gmul c.toNat 1 = c.toNat ^^^ gmul x 0
    rw [gmul_one (UInt8.toNat_lt c), gmul_zero, Nat.zero_xor, Nat.xor_zero]
  | i + 1 => by
    show geP (c :: l) x (i + 1) ^^^ gmul ((l.getD i 0).toNat) (gmul (gpow x i) x) = c.toNat ^^^ gmul x (geP l x i ^^^ gmul ((l.getD i 0).toNat) (gpow x i))
    have hd := UInt8.toNat_lt (l.getD i 0)
    have hp := gpow_lt hx i
    rw [geP_cons c l hx i, gmul_right, ← gmul_assoc hd hp hx, gmul_comm (gmul_lt hd hp) hx, Nat.xor_assoc]
theorem geval_cons (c : UInt8) (l : List UInt8) {x : Nat} (hx : x < 256) : geval (c :: l) x = c.toNat ^^^ gmul x (geval l x) := geP_cons c l hx l.length
theorem geval_ge (x : UInt8) : ∀ l : List UInt8, geval l x.toNat = (ge l x).toNat
  | [] => rfl
  | c :: l => by
    show _ = (c ^^^ gm x (ge l x)).toNat
    rw [geval_cons c l (UInt8.toNat_lt x), geval_ge x l, UInt8.toNat_xor, gm_toNat]
theorem geval_sum (l m : List UInt8) {x : Nat} (hx : x < 256) : geval (gsum l m) x = geval l x ^^^ geval m x := by
  obtain ⟨u, rfl⟩ : ∃ u : UInt8, x = u.toNat := ⟨UInt8.ofNat x, by rw [UInt8.toNat_ofNat', Nat.mod_eq_of_lt hx]⟩
  rw [geval_ge, geval_ge, geval_ge, ge_sum, UInt8.toNat_xor]
theorem geval_shift (l : List UInt8) {x : Nat} (hx : x < 256) : geval (0 :: l) x = gmul x (geval l x) := by
  rw [geval_cons 0 l hx]
  exact Nat.zero_xor _
theorem geval_lt (l : List UInt8) {x : Nat} (hx : x < 256) : geval l x < 256 := geP_lt l hx _
end Go.Proofs.Ytpegnafapjcanaa
