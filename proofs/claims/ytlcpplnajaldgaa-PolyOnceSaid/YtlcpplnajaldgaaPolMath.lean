/- Plain arithmetic of the published tag Poly1305, with no program in sight. No condition of its own. -/
import Derived.Test.YtlcpplnajaldgaaBytes
namespace Go.Proofs.Ytlcpplnajaldgaa
open Go.RowKit

/-- The number of digits in base 2^13, the lowest first. -/
def dv : List Nat → Nat
  | [] => 0
  | d :: r => d + 8192 * dv r
theorem dv_append (a b : List Nat) : dv (a ++ b) = dv a + 8192 ^ a.length * dv b := by
  induction a with
  | nil => simp [dv]
  | cons x r ih => rw [List.cons_append, dv, ih, dv, List.length_cons, Nat.pow_succ, Nat.mul_add, ← Nat.mul_assoc, Nat.mul_comm 8192 (8192 ^ _)]; omega
theorem dv_set (l : List Nat) (i x : Nat) (h : i < l.length) : dv (l.set i (l.getD i 0 + x)) = dv l + x * 8192 ^ i := by
  induction l generalizing i with
  | nil => simp at h
  | cons d r ih =>
    cases i with
    | zero => simp [dv, List.getD]; omega
    | succ i =>
      have h2 := ih i (by simpa using h)
      have e : (d :: r).getD (i + 1) 0 = r.getD i 0 := rfl
      rw [e, List.set_cons_succ, dv, h2, dv, Nat.mul_add, Nat.pow_succ, ← Nat.mul_assoc x, Nat.mul_comm 8192 (x * _)]
      omega
theorem dv_zeros (n : Nat) : dv (List.replicate n 0) = 0 := by
  induction n with
  | zero => rfl
  | succ n ih => rw [List.replicate_succ, dv, ih]
theorem dv_lt (l : List Nat) (h : ∀ x ∈ l, x < 8192) : dv l < 8192 ^ l.length := by
  induction l with
  | nil => simp [dv]
  | cons d r ih =>
    have h1 := h d (by simp)
    have h2 := ih (fun x hx => h x (by simp [hx]))
    rw [dv, List.length_cons, Nat.pow_succ]
    omega
/-- Of normal digits: the one at a place. -/
theorem dv_digit (l : List Nat) (h : ∀ x ∈ l, x < 8192) (i : Nat) : dv l / 8192 ^ i % 8192 = l.getD i 0 := by
  induction l generalizing i with
  | nil => simp [dv, List.getD]
  | cons d r ih =>
    have h1 := h d (by simp)
    have hr : ∀ x ∈ r, x < 8192 := fun x hx => h x (by simp [hx])
    cases i with
    | zero => simp only [dv, Nat.pow_zero, Nat.div_one, List.getD_cons_zero]; omega
    | succ i =>
      have e : (d :: r).getD (i + 1) 0 = r.getD i 0 := rfl
      rw [e, ← ih hr i, dv, Nat.pow_succ, Nat.mul_comm (8192 ^ i), ← Nat.div_div_eq_div_mul]
      congr 2
      omega
/-- The modulus. -/
def p130 : Nat := 1361129467683753853853498429727072845819
theorem p130_eq : 8192 ^ 10 = p130 + 5 := by decide
/-- The clamped bytes of a key's first half. -/
def clampC (i : Nat) (c : UInt8) : UInt8 := if i % 4 = 3 then c % 16 else if i % 4 = 0 ∧ 0 < i then c / 4 * 4 else c
def rB (k : List UInt8) : List UInt8 := (k.take 16).mapIdx clampC
def rN (k : List UInt8) : Nat := numB (rB k)
def sN (k : List UInt8) : Nat := numB (k.drop 16)
def blkP (m : List UInt8) (j : Nat) : List UInt8 := (m.drop (16 * j)).take 16
/-- The number behind the first j blocks. -/
def polyN (r : Nat) (m : List UInt8) : Nat → Nat
  | 0 => 0
  | j + 1 => (polyN r m j + numB (blkP m j ++ [1])) * r % p130
def blksN (m : List UInt8) : Nat := (m.length + 15) / 16
def tagN (k m : List UInt8) : Nat := (polyN (rN k) m (blksN m) + sN k) % 340282366920938463463374607431768211456
/-- The tag. -/
def tagB (k m : List UInt8) : List UInt8 := leB 16 (tagN k m)
theorem tagB_length (k m : List UInt8) : (tagB k m).length = 16 := leB_length _ _
theorem polyN_lt (r : Nat) (m : List UInt8) (j : Nat) : polyN r m j < p130 := by
  cases j with
  | zero => show 0 < p130; decide
  | succ j => exact Nat.mod_lt _ (by decide)
theorem polyN_zero (m : List UInt8) (j : Nat) : polyN 0 m j = 0 := by
  cases j with
  | zero => rfl
  | succ j => rw [polyN, Nat.mul_zero]; rfl
/-- One digit's carry. -/
theorem two13 (q : Nat) : (2 : Nat) ^ (13 * q) = 8192 ^ q := by rw [Nat.pow_mul]
theorem bit_at (N t : Nat) : N / 8192 ^ (t / 13) % 8192 / 2 ^ (t % 13) % 2 = N / 2 ^ t % 2 := by
  have e : (2 : Nat) ^ t = 8192 ^ (t / 13) * 2 ^ (t % 13) := by rw [← two13, ← Nat.pow_add]; congr 1; omega
  rw [e, ← Nat.div_div_eq_div_mul]
  obtain ⟨x, hx⟩ : ∃ x, x = N / 8192 ^ (t / 13) := ⟨_, rfl⟩
  rw [← hx]
  have hs : t % 13 < 13 := Nat.mod_lt _ (by decide)
  obtain ⟨s, hs2⟩ : ∃ s, s = t % 13 := ⟨_, rfl⟩
  rw [← hs2] at hs ⊢
  have e2 : (8192 : Nat) = 2 ^ s * (2 * 2 ^ (12 - s)) := by
    rw [← Nat.mul_assoc, Nat.mul_comm (2 ^ s) 2, Nat.mul_assoc, ← Nat.pow_add, show s + (12 - s) = 12 by omega]
  rw [e2, Nat.mod_mul_right_div_self, Nat.mod_mul_right_mod]
/-- The low t bits, one more. -/
theorem low_succ (N t : Nat) : N % 2 ^ (t + 1) = N % 2 ^ t + 2 ^ t * (N / 2 ^ t % 2) := by rw [Nat.pow_succ, Nat.mod_mul]
theorem byte_bit (xs : List UInt8) (i k : Nat) (hi : i < xs.length) (hk : k < 8) : numB xs / 2 ^ (8 * i + k) % 2 = xs[i].toNat / 2 ^ k % 2 := by
  have h : ∀ (xs : List UInt8) (i : Nat) (hi : i < xs.length), numB xs / 256 ^ i % 256 = xs[i].toNat := by
    intro xs
    induction xs with
    | nil => intro i hi; simp at hi
    | cons x r ih =>
      intro i hi
      have hx := x.toNat_lt
      cases i with
      | zero => simp only [numB, Nat.pow_zero, Nat.div_one, List.getElem_cons_zero]; omega
      | succ i =>
        rw [List.getElem_cons_succ, ← ih i (by simpa using hi), numB, Nat.pow_succ, Nat.mul_comm (256 ^ i), ← Nat.div_div_eq_div_mul]
        congr 2
        omega
  have e : (2 : Nat) ^ (8 * i + k) = 256 ^ i * 2 ^ k := by rw [Nat.pow_add, Nat.pow_mul]
  rw [e, ← Nat.div_div_eq_div_mul, ← h xs i hi]
  obtain ⟨x, hx⟩ : ∃ x, x = numB xs / 256 ^ i := ⟨_, rfl⟩
  rw [← hx]
  have e2 : (256 : Nat) = 2 ^ k * (2 * 2 ^ (7 - k)) := by
    rw [← Nat.mul_assoc, Nat.mul_comm (2 ^ k) 2, Nat.mul_assoc, ← Nat.pow_add, show k + (7 - k) = 7 by omega]
  rw [e2, Nat.mod_mul_right_div_self, Nat.mod_mul_right_mod]
/-- The digits of a number: n of them. -/
def dg (n M : Nat) : List Nat := (List.range n).map fun q => M / 8192 ^ q % 8192
theorem dg_length (n M : Nat) : (dg n M).length = n := by simp [dg]
theorem dg_get (n M : Nat) {q : Nat} (h : q < n) : (dg n M).getD q 0 = M / 8192 ^ q % 8192 := by
  simp [dg, List.getD, h]
theorem dg_lt (n M : Nat) : ∀ x ∈ dg n M, x < 8192 := by
  intro x hx
  obtain ⟨q, _, rfl⟩ := List.mem_map.1 hx
  exact Nat.mod_lt _ (by decide)
theorem dg_zero (n : Nat) : dg n 0 = List.replicate n 0 := by
  apply List.ext_getElem
  · simp [dg]
  · intro i h1 h2; simp [dg]
theorem dv_dg (n M : Nat) : dv (dg n M) = M % 8192 ^ n := by
  induction n with
  | zero => simp [dg, dv, Nat.mod_one]
  | succ n ih =>
    have e : dg (n + 1) M = dg n M ++ [M / 8192 ^ n % 8192] := by simp [dg, List.range_succ]
    rw [e, dv_append, dg_length, ih, Nat.pow_succ, Nat.mod_mul]
    simp [dv]
theorem dg_set (n M t b : Nat) (hM : M < 2 ^ t) (hb : b ≤ 1) : (dg n M).set (t / 13) (M / 8192 ^ (t / 13) % 8192 + b * 2 ^ (t % 13)) = dg n (M + 2 ^ t * b) := by
  have e : (2 : Nat) ^ t = 8192 ^ (t / 13) * 2 ^ (t % 13) := by rw [← two13, ← Nat.pow_add]; congr 1; omega
  have hs : t % 13 < 13 := Nat.mod_lt _ (by decide)
  apply List.ext_getElem
  · simp [dg]
  intro q h1 h2
  have hq : q < n := by simpa [dg] using h2
  rw [List.getElem_set]
  simp only [dg, List.getElem_map, List.getElem_range]
  split
  · rename_i hqt
    subst hqt
    have hp : 0 < (8192 : Nat) ^ (t / 13) := Nat.pow_pos (by decide)
    have h3 : M / 8192 ^ (t / 13) < 2 ^ (t % 13) := by rw [Nat.div_lt_iff_lt_mul hp, Nat.mul_comm, ← e]; exact hM
    have h4 : (M + 2 ^ t * b) / 8192 ^ (t / 13) = M / 8192 ^ (t / 13) + 2 ^ (t % 13) * b := by
      rw [e, Nat.mul_assoc, Nat.add_mul_div_left _ _ hp]
    have h5 : (2 : Nat) ^ (t % 13) ≤ 4096 := by
      have := Nat.pow_le_pow_right (n := 2) (by decide) (show t % 13 ≤ 12 by omega)
      simpa using this
    have h6 : 2 ^ (t % 13) * b ≤ 2 ^ (t % 13) := by
      rcases Nat.eq_zero_or_pos b with h | h
      · rw [h]; simp
      · rw [show b = 1 by omega, Nat.mul_one]; exact Nat.le_refl _
    rw [h4, Nat.mul_comm b (2 ^ (t % 13))]
    obtain ⟨x, hx⟩ : ∃ x, x = M / 8192 ^ (t / 13) := ⟨_, rfl⟩
    obtain ⟨y, hy⟩ : ∃ y, y = 2 ^ (t % 13) * b := ⟨_, rfl⟩
    obtain ⟨z, hz⟩ : ∃ z, z = 2 ^ (t % 13) := ⟨_, rfl⟩
    rw [← hx, ← hz] at h3
    rw [← hy, ← hz] at h6
    rw [← hz] at h5
    rw [← hx, ← hy, Nat.mod_eq_of_lt (show x < 8192 by omega), Nat.mod_eq_of_lt (show x + y < 8192 by omega)]
  · rename_i hne
    rcases Nat.lt_or_ge q (t / 13) with h | h
    · have e2 : (8192 : Nat) ^ (t / 13) = 8192 ^ q * (8192 * 8192 ^ (t / 13 - q - 1)) := by
        rw [← Nat.mul_assoc, ← Nat.pow_succ, ← Nat.pow_add]; congr 1; omega
      rw [e, e2, Nat.mul_assoc, Nat.mul_assoc, Nat.add_mul_div_left _ _ (Nat.pow_pos (by decide)), Nat.mul_assoc, Nat.add_mul_mod_self_left]
    · have h3 : (2 : Nat) ^ (t + 1) ≤ 8192 ^ q := by
        rw [← two13]
        exact Nat.pow_le_pow_right (by decide) (by omega)
      rw [Nat.pow_succ] at h3
      have h4 : 2 ^ t * b ≤ 2 ^ t := by
        rcases Nat.eq_zero_or_pos b with h | h
        · rw [h]; simp
        · rw [show b = 1 by omega, Nat.mul_one]; exact Nat.le_refl _
      rw [Nat.div_eq_of_lt (by omega), Nat.div_eq_of_lt (by omega)]
/-- One more bit. -/
theorem dg_bit (n N t : Nat) (ht : t / 13 < n) : (dg n (N % 2 ^ t)).set (t / 13) ((dg n (N % 2 ^ t)).getD (t / 13) 0 + N / 2 ^ t % 2 * 2 ^ (t % 13)) = dg n (N % 2 ^ (t + 1)) := by
  rw [dg_get n _ ht, low_succ]
  exact dg_set n _ t _ (Nat.mod_lt _ (Nat.two_pow_pos _)) (by omega)
/-- Digits of which none is too great are those of their number. -/
theorem dg_of_dv (l : List Nat) (h : ∀ x ∈ l, x < 8192) : dg l.length (dv l) = l := by
  apply List.ext_getElem
  · simp [dg]
  · intro i h1 h2
    have h3 := dv_digit l h i
    simp only [dg, List.getElem_map, List.getElem_range]
    rw [h3, List.getD, List.getElem?_eq_getElem h2]
    rfl
/-- At or above the modulus: just if the lowest digit is 8187 or more, and the others are the greatest. -/
theorem dv_top (d : Nat) (r : List Nat) (hd : d < 8192) (hr : ∀ x ∈ r, x < 8192) : (8192 ^ (r.length + 1) - 5 ≤ d + 8192 * dv r) ↔ (8187 ≤ d ∧ dv r + 1 = 8192 ^ r.length) := by
  have h := dv_lt r hr
  rw [Nat.pow_succ]
  omega
theorem dv_max (r : List Nat) (hr : ∀ x ∈ r, x < 8192) : dv r + 1 = 8192 ^ r.length ↔ ∀ x ∈ r, x = 8191 := by
  induction r with
  | nil => simp [dv]
  | cons d r ih =>
    have hd := hr d (by simp)
    have hr2 : ∀ x ∈ r, x < 8192 := fun x hx => hr x (by simp [hx])
    have h := dv_lt r hr2
    have ih2 := ih hr2
    rw [dv, List.length_cons, Nat.pow_succ]
    constructor
    · intro h1 x hx
      have h2 : dv r + 1 = 8192 ^ r.length := by omega
      rcases List.mem_cons.1 hx with rfl | hx
      · omega
      · exact ih2.1 h2 x hx
    · intro h1
      have h2 := ih2.2 (fun x hx => h1 x (by simp [hx]))
      have h3 := h1 d (by simp)
      omega
end Go.Proofs.Ytlcpplnajaldgaa
