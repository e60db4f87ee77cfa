/- Values of polynomials, reckoned place by place. No condition of its own. -/
import Derived.Test.YtpegnafapjcanaaFExp
import Derived.Test.YtpegnafapjcanaaGen
import Derived.Test.YtpegnafapjcanaaW32
namespace Go.Proofs.Ytpegnafapjcanaa
open Go.RowKit

/-- The value of a polynomial's first i places. -/
def geP (l : List UInt8) (x : Nat) : Nat → Nat
  | 0 => 0
  | i + 1 => geP l x i ^^^ gmul ((l.getD i 0).toNat) (gpow x i)
def geval (l : List UInt8) (x : Nat) : Nat := geP l x l.length
theorem geP_lt (l : List UInt8) {x : Nat} (hx : x < 256) : ∀ i, geP l x i < 256
  | 0 => by show 0 < 256; decide
  | i + 1 => Nat.xor_lt_two_pow (n := 8) (geP_lt l hx i) (gmul_lt (UInt8.toNat_lt _) (gpow_lt hx i))
theorem xorB_nat (a b : Nat) (ha : a < 256) (hb : b < 256) : bits .xor .u8 (a : Int) (b : Int) = ((a ^^^ b : Nat) : Int) := u8_xor_nat a b ha hb
end Go.Proofs.Ytpegnafapjcanaa
