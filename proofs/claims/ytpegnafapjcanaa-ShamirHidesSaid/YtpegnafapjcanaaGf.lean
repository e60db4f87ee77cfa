/- The field of 256 elements over bytes: sums, products, inverses, powers, values of polynomials. No condition of its own. -/
import Derived.Test.YtpegnafapjcanaaFExp
namespace Go.Proofs.Ytpegnafapjcanaa

/-- The product of bytes. -/
def gm (a b : UInt8) : UInt8 := UInt8.ofNat (gmul a.toNat b.toNat)
theorem gm_toNat (a b : UInt8) : (gm a b).toNat = gmul a.toNat b.toNat := by
  unfold gm
  rw [UInt8.toNat_ofNat', Nat.mod_eq_of_lt (gmul_lt (UInt8.toNat_lt a) (UInt8.toNat_lt b))]
theorem gm_comm (a b : UInt8) : gm a b = gm b a := UInt8.toNat_inj.1 (by rw [gm_toNat, gm_toNat]; exact gmul_comm (UInt8.toNat_lt a) (UInt8.toNat_lt b))
theorem gm_assoc (a b c : UInt8) : gm (gm a b) c = gm a (gm b c) := UInt8.toNat_inj.1 (by simp only [gm_toNat]; exact gmul_assoc (UInt8.toNat_lt a) (UInt8.toNat_lt b) (UInt8.toNat_lt c))
instance gmA : Std.Associative gm := ⟨gm_assoc⟩
instance gmC : Std.Commutative gm := ⟨gm_comm⟩
theorem bx_comm (a b : UInt8) : a ^^^ b = b ^^^ a := UInt8.xor_comm a b
theorem bx_assoc (a b c : UInt8) : a ^^^ b ^^^ c = a ^^^ (b ^^^ c) := UInt8.xor_assoc a b c
instance bxA : Std.Associative (fun a b : UInt8 => a ^^^ b) := ⟨bx_assoc⟩
instance bxC : Std.Commutative (fun a b : UInt8 => a ^^^ b) := ⟨bx_comm⟩
theorem bx_self (a : UInt8) : a ^^^ a = 0 := UInt8.xor_self
theorem bx_zero (a : UInt8) : a ^^^ 0 = a := UInt8.xor_zero
theorem zero_bx (a : UInt8) : 0 ^^^ a = a := UInt8.zero_xor
theorem bx_back (a b : UInt8) : a ^^^ (a ^^^ b) = b := by rw [← bx_assoc, bx_self, zero_bx]
theorem bx_eq {a b : UInt8} (h : a ^^^ b = 0) : a = b := by
  have e := bx_back a b
  rw [h, bx_zero] at e
  exact e
theorem gm_right (a b c : UInt8) : gm a (b ^^^ c) = gm a b ^^^ gm a c := UInt8.toNat_inj.1 (by rw [gm_toNat, UInt8.toNat_xor, UInt8.toNat_xor, gm_toNat, gm_toNat]; exact gmul_right ..)
theorem gm_left (a b c : UInt8) : gm (a ^^^ b) c = gm a c ^^^ gm b c := by rw [gm_comm, gm_right, gm_comm c a, gm_comm c b]
theorem gm_zero (a : UInt8) : gm a 0 = 0 := UInt8.toNat_inj.1 (by rw [gm_toNat]; exact gmul_zero _)
theorem zero_gm (a : UInt8) : gm 0 a = 0 := by rw [gm_comm, gm_zero]
theorem gm_one (a : UInt8) : gm a 1 = a := UInt8.toNat_inj.1 (by rw [gm_toNat]; exact gmul_one (UInt8.toNat_lt a))
theorem one_gm (a : UInt8) : gm 1 a = a := by rw [gm_comm, gm_one]
/-- The inverse. -/
def gi (a : UInt8) : UInt8 := UInt8.ofNat (ginv a.toNat)
theorem gi_toNat (a : UInt8) : (gi a).toNat = ginv a.toNat := by
  unfold gi
  rw [UInt8.toNat_ofNat', Nat.mod_eq_of_lt (ginv_lt _)]
theorem gm_gi {a : UInt8} (h : a ≠ 0) : gm a (gi a) = 1 := UInt8.toNat_inj.1 (by
  rw [gm_toNat, gi_toNat]
  exact gmul_ginv (UInt8.toNat_lt a) (fun e => h (UInt8.toNat_inj.1 e)))
theorem gm_back {a : UInt8} (h : a ≠ 0) (b : UInt8) : gm (gi a) (gm a b) = b := by rw [← gm_assoc, gm_comm (gi a), gm_gi h, one_gm]
theorem gm_none {a b : UInt8} (h : gm a b = 0) : a = 0 ∨ b = 0 := by
  by_cases e : a = 0
  · exact .inl e
  · have h2 := gm_back e b
    rw [h, gm_zero] at h2
    exact .inr h2.symm
/-- A power. -/
def gp (a : UInt8) : Nat → UInt8
  | 0 => 1
  | n + 1 => gm (gp a n) a
theorem gp_toNat (a : UInt8) : ∀ n, (gp a n).toNat = gpow a.toNat n
  | 0 => rfl
  | n + 1 => by
    show (gm (gp a n) a).toNat = gmul (gpow a.toNat n) a.toNat
    rw [gm_toNat, gp_toNat a n]
/-- The value of a polynomial: the constant, and the rest times the element. -/
def ge : List UInt8 → UInt8 → UInt8
  | [], _ => 0
  | c :: l, x => c ^^^ gm x (ge l x)
/-- The sum of two polynomials. -/
def gsum : List UInt8 → List UInt8 → List UInt8
  | [], m => m
  | l, [] => l
  | a :: l, b :: m => (a ^^^ b) :: gsum l m
theorem gsum_nil (l : List UInt8) : gsum l [] = l := by cases l <;> rfl
theorem ge_sum : ∀ (l m : List UInt8) (x : UInt8), ge (gsum l m) x = ge l x ^^^ ge m x
  | [], m, x => by show ge m x = 0 ^^^ _; rw [zero_bx]
  | a :: l, [], x => by show ge (a :: l) x = _ ^^^ 0; rw [bx_zero]
  | a :: l, b :: m, x => by
    show (a ^^^ b) ^^^ gm x (ge (gsum l m) x) = (a ^^^ gm x (ge l x)) ^^^ (b ^^^ gm x (ge m x))
    rw [ge_sum l m x, gm_right]
    ac_rfl
theorem gsum_length : ∀ (l m : List UInt8), (gsum l m).length = max l.length m.length
  | [], m => by show m.length = _; simp
  | a :: l, [] => by show (a :: l).length = _; simp
  | a :: l, b :: m => by
    show (gsum l m).length + 1 = _
    rw [gsum_length l m, List.length_cons, List.length_cons]
    omega
theorem gsum_get : ∀ (l m : List UInt8) (i : Nat), (gsum l m).getD i 0 = l.getD i 0 ^^^ m.getD i 0
  | [], m, i => by show m.getD i 0 = 0 ^^^ _; rw [zero_bx]
  | a :: l, [], i => by show (a :: l).getD i 0 = _ ^^^ 0; rw [bx_zero]
  | a :: l, b :: m, 0 => rfl
  | a :: l, b :: m, i + 1 => gsum_get l m i
end Go.Proofs.Ytpegnafapjcanaa
