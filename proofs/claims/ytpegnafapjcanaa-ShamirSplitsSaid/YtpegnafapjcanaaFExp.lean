/- The field of 256 elements: powers of 3, logarithms, inverses, values of polynomials. No program in sight, no condition. -/
import Derived.Test.YtpegnafapjcanaaFMath
namespace Go.Proofs.Ytpegnafapjcanaa

theorem lin_lt (g : Nat → Nat) (hx : ∀ x y, g (x ^^^ y) = g x ^^^ g y) (hb : ∀ x ∈ base8, g x < 256) {a : Nat} (ha : a < 256) : g a < 256 := by
  have h0 : g 0 = 0 := by
    have h := hx 0 0
    rw [Nat.xor_self, Nat.xor_self] at h
    exact h
  have hp : ∀ (c : Bool) x, x ∈ base8 → g (pick c x) < 2 ^ 8 := fun c x hm => by
    cases c
    · show g 0 < _
      rw [h0]
      decide
    · exact hb x hm
  have h := List.all_eq_true.1 bits8 a (List.mem_range.2 ha)
  rw [beq_iff_eq] at h
  rw [h]
  simp only [hx]
  refine Nat.xor_lt_two_pow (n := 8) (hp _ 1 (by simp [base8])) ?_
  refine Nat.xor_lt_two_pow (hp _ 2 (by simp [base8])) ?_
  refine Nat.xor_lt_two_pow (hp _ 4 (by simp [base8])) ?_
  refine Nat.xor_lt_two_pow (hp _ 8 (by simp [base8])) ?_
  refine Nat.xor_lt_two_pow (hp _ 16 (by simp [base8])) ?_
  refine Nat.xor_lt_two_pow (hp _ 32 (by simp [base8])) ?_
  exact Nat.xor_lt_two_pow (hp _ 64 (by simp [base8])) (hp _ 128 (by simp [base8]))
theorem lt8 : (base8.all fun a => base8.all fun b => decide (gmul a b < 256)) = true := by kernel_rfl
theorem gmul_lt {a b : Nat} (ha : a < 256) (hb : b < 256) : gmul a b < 256 := by
  refine lin_lt (fun a => gmul a b) (fun x y => gmul_left x y b) (fun x hx => ?_) ha
  refine lin_lt (fun b => gmul x b) (fun u v => gmul_right x u v) (fun y hy => ?_) hb
  exact of_decide_eq_true (List.all_eq_true.1 (List.all_eq_true.1 lt8 x hx) y hy)
theorem one8 : (base8.all fun a => (gmul a 1 ^^^ a) == 0) = true := by kernel_rfl
theorem gmul_one {a : Nat} (ha : a < 256) : gmul a 1 = a :=
  of_xor (lin0 (fun a => gmul a 1 ^^^ a) (fun x y => by simp only [gmul_left]; exact xor_mix ..) (fun x hx => beq_iff_eq.1 (List.all_eq_true.1 one8 x hx)) ha)
/-- An element to a number. -/
def gpow (a : Nat) : Nat → Nat
  | 0 => 1
  | n + 1 => gmul (gpow a n) a
theorem gpow_lt {a : Nat} (ha : a < 256) : ∀ n, gpow a n < 256
  | 0 => by show 1 < 256; decide
  | n + 1 => gmul_lt (gpow_lt ha n) ha
theorem gpow_add {a : Nat} (ha : a < 256) (i : Nat) : ∀ j, gmul (gpow a i) (gpow a j) = gpow a (i + j)
  | 0 => gmul_one (gpow_lt ha i)
  | j + 1 => by
    show gmul (gpow a i) (gmul (gpow a j) a) = gmul (gpow a (i + j)) a
    rw [← gpow_add ha i j, gmul_assoc (gpow_lt ha i) (gpow_lt ha j) ha]
theorem three_255 : gpow 3 255 = 1 := by kernel_rfl
theorem three_mod (n : Nat) : gpow 3 (n + 255) = gpow 3 n := by
  rw [← gpow_add (by decide) n 255, three_255, gmul_one (gpow_lt (by decide) n)]
theorem three_rem : ∀ (q r : Nat), gpow 3 (r + 255 * q) = gpow 3 r
  | 0, r => rfl
  | q + 1, r => by
    rw [show r + 255 * (q + 1) = (r + 255 * q) + 255 by omega, three_mod, three_rem q r]
theorem three_emod (n : Nat) : gpow 3 (n % 255) = gpow 3 n := by
  have h := three_rem (n / 255) (n % 255)
  rw [Nat.mod_add_div] at h
  exact h.symm
def expFrom : Nat → Nat → List Nat
  | 0, _ => []
  | n + 1, x => x :: expFrom n (gmul x 3)
theorem expFrom_length : ∀ n x, (expFrom n x).length = n
  | 0, _ => rfl
  | n + 1, x => by simp [expFrom, expFrom_length n]
theorem expFrom_get : ∀ (n i k : Nat) (h : i < (expFrom n (gpow 3 k)).length), (expFrom n (gpow 3 k))[i] = gpow 3 (k + i)
  | n + 1, 0, k, _ => rfl
  | n + 1, i + 1, k, h => by
    have h2 : i < (expFrom n (gpow 3 (k + 1))).length := by rw [expFrom_length] at h ⊢; omega
    have e := expFrom_get n i (k + 1) h2
    rw [show k + (i + 1) = k + 1 + i by omega]
    exact e
/-- The powers of 3, from 0 to 254. -/
def expL : List Nat := expFrom 255 1
theorem expL_get {i : Nat} (h : i < 255) : expL[i]'(by rw [expL, expFrom_length]; exact h) = gpow 3 i := by
  have e := expFrom_get 255 i 0 (by rw [expFrom_length]; exact h)
  rw [Nat.zero_add] at e
  exact e
/-- The logarithm: where an element lies among the powers of 3. -/
def logN (a : Nat) : Nat := if a = 0 then 0 else expL.idxOf a
theorem logs : ((List.range 255).all fun a => decide (logN (a + 1) < 255) && (expL.getD (logN (a + 1)) 0 == a + 1)) = true := by kernel_rfl
theorem logN_lt {a : Nat} (ha : a < 256) : logN a < 255 := by
  by_cases h0 : a = 0
  · subst h0; decide
  · have h := List.all_eq_true.1 logs (a - 1) (List.mem_range.2 (by omega))
    rw [show a - 1 + 1 = a by omega, Bool.and_eq_true] at h
    exact of_decide_eq_true h.1
theorem exp_log {a : Nat} (ha : a < 256) (h0 : a ≠ 0) : gpow 3 (logN a) = a := by
  have h := List.all_eq_true.1 logs (a - 1) (List.mem_range.2 (by omega))
  rw [show a - 1 + 1 = a by omega, Bool.and_eq_true, beq_iff_eq] at h
  have hl := logN_lt ha
  rw [List.getD, List.getElem?_eq_getElem (by rw [expL, expFrom_length]; exact hl)] at h
  rw [← expL_get hl]
  exact h.2
/-- The product by the tables. -/
theorem gmul_log {a b : Nat} (ha : a < 256) (hb : b < 256) (a0 : a ≠ 0) (b0 : b ≠ 0) : gmul a b = gpow 3 ((logN a + logN b) % 255) := by
  rw [three_emod, ← gpow_add (by decide), exp_log ha a0, exp_log hb b0]
/-- The inverse. -/
def ginv (a : Nat) : Nat := if a = 0 then 0 else gpow 3 ((255 - logN a) % 255)
theorem ginv_lt (a : Nat) : ginv a < 256 := by
  unfold ginv
  split
  · decide
  · exact gpow_lt (by decide) _
theorem gmul_ginv {a : Nat} (ha : a < 256) (h0 : a ≠ 0) : gmul a (ginv a) = 1 := by
  have hl := logN_lt ha
  unfold ginv
  rw [if_neg h0, three_emod]
  have e : gmul (gpow 3 (logN a)) (gpow 3 (255 - logN a)) = gpow 3 (logN a + (255 - logN a)) := gpow_add (by decide) _ _
  rw [exp_log ha h0, show logN a + (255 - logN a) = 255 by omega, three_255] at e
  exact e
theorem ginv_only {a b : Nat} (ha : a < 256) (hb : b < 256) (h : gmul a b = 1) : b = ginv a := by
  have h0 : a ≠ 0 := by
    intro e
    rw [e, zero_gmul] at h
    cases h
  have hi := ginv_lt a
  have e1 : gmul (ginv a) (gmul a b) = gmul (gmul (ginv a) a) b := (gmul_assoc hi ha hb).symm
  rw [h, gmul_one hi, gmul_comm hi ha, gmul_ginv ha h0, gmul_comm (by decide) hb, gmul_one hb] at e1
  exact e1.symm
/-- The value of a polynomial. -/
def gevalN (x : Nat) : Nat → List Nat → Nat
  | _, [] => 0
  | i, c :: r => gmul c (gpow x i) ^^^ gevalN x (i + 1) r
end Go.Proofs.Ytpegnafapjcanaa
