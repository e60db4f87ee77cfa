/- Part 2 of the words that the laws share: Bytes, Form, Number, PolMath, LMath, Width. No condition of its own: each theorem says its own. -/
import Derived.Test.YtmoffodmbbkolaaDoorPart1
import Derived.Laws.BitsAllLaws

/- Numbers and their forms as bytes: plain words, with no program in sight. No condition of its own. -/
namespace Go.Proofs.YtmoffodmbbkolaaDoor
open Go.RowKit

/-- The number whose form these bytes are. -/
def numB : List UInt8 → Nat
  | [] => 0
  | x :: r => x.toNat + 256 * numB r
theorem numB_lt (xs : List UInt8) : numB xs < 256 ^ xs.length := by
  induction xs with
  | nil => simp [numB]
  | cons x r ih =>
    have := x.toNat_lt
    rw [numB, List.length_cons, Nat.pow_succ]
    omega
theorem numB_snoc (xs : List UInt8) (c : UInt8) : numB (xs ++ [c]) = numB xs + 256 ^ xs.length * c.toNat := by
  induction xs with
  | nil => simp [numB]
  | cons x r ih =>
    rw [List.cons_append, numB, ih, numB, List.length_cons, Nat.pow_succ]
    rw [Nat.mul_add, ← Nat.mul_assoc, Nat.mul_comm 256 (256 ^ _)]
    omega

theorem numB_drop (xs : List UInt8) (j : Nat) (h : j < xs.length) : numB (xs.drop j) = numB (xs.drop (j + 1)) * 256 + (xs[j]).toNat := by
  rw [List.drop_eq_getElem_cons h, numB]
  omega
/-- The lowest k bytes of n, the lowest first. -/
def leB : Nat → Nat → List UInt8
  | 0, _ => []
  | k + 1, n => UInt8.ofNat (n % 256) :: leB k (n / 256)
theorem leB_length (k n : Nat) : (leB k n).length = k := by
  induction k generalizing n with
  | zero => rfl
  | succ k ih => simp [leB, ih]
theorem leB_snoc (k n : Nat) : leB (k + 1) n = leB k n ++ [UInt8.ofNat (n / 256 ^ k % 256)] := by
  induction k generalizing n with
  | zero => simp [leB]
  | succ k ih =>
    rw [leB, ih, leB, List.cons_append]
    congr 3
    rw [Nat.div_div_eq_div_mul, Nat.pow_succ, Nat.mul_comm 256]
theorem pow8 (j : Nat) : (2 : Int) ^ (8 * j) = ((256 ^ j : Nat) : Int) := by
  rw [Int.pow_mul]
  simp
theorem byte_of (n j : Nat) : (n : Int) / 2 ^ (8 * j) % 256 = ((UInt8.ofNat (n / 256 ^ j % 256)).toNat : Int) := by
  rw [pow8, UInt8.toNat_ofNat']
  omega
end Go.Proofs.YtmoffodmbbkolaaDoor

/- The reference's Form: the lowest bytes of a number. Split out of Forms1, which wants more of num than a later layer reaches. -/
namespace Go.Proofs.YtmoffodmbbkolaaDoor
open Go.RowKit

/-! The reference's Form and Number. -/
def FormRel (w : World) (n k : Nat) (s v i : Value) (wr : World) : Prop :=
  ∃ (j m : Nat), i = .int .i64 j ∧ s = .int .u64 m ∧ m = n / 256 ^ j ∧ j ≤ k ∧ wr.ownsRow w.heap.size 5 1 v (leB j n).length ((leB j n).map bv) ∧ Below w.heap.size w wr

set_option maxRecDepth 100000 in
set_option maxHeartbeats 400000 in
theorem form_any (n k : Nat) (w : World) (hn : (n : Int) ≤ 18446744073709551615) (h8 : k ≤ 8) :
    Calls Tryd.prog 23 #[.int .u64 n, .int .i64 k] w (Own w 5 (leB k n)) := by
  obtain ⟨i0, hi, hz0, hz1, hz2⟩ := info_parts info_u8
  have HN := Lib.hid hn
  clear hn
  go_enter Tryd.func23, Tryd.ntmps23
  go_wp2_with (fail)
  go_loopw [0, 5, 6] (fun s v i wr => FormRel w n k s v i wr) (fun _ _ i _ => k - (intOf i).toNat)
  case atStart => exact ⟨0, n, rfl, rfl, by simp, by omega, World.ownsRow_nil _ _ _ _, Below.refl _ _⟩
  case round =>
    obtain ⟨j, m, rfl, rfl, hm, hj, own2, hb2⟩ := hrel
    have hb3 : w.heap.size ≤ wr.heap.size + 1 := by have := hb2.size; omega
    have HY : Hid ((leB j n).length + 1 ≤ 140737488355328) := by
      rw [leB_length]
      show j + 1 ≤ 140737488355328
      omega
    have hmn : (m : Int) ≤ 18446744073709551615 := by
      have h1 := HN.out
      have h2 := Nat.div_le_self n (256 ^ j)
      omega
    have HM := Lib.hid hm
    clear hm
    by_cases hlt : j < k
    · go_wp2_with (at_builtin
                   refine wpList_append_rd _ rfl _ _ _ rfl w.heap.size 5 i0 _ Tryd.underlying26 hi hz0 hz1 hz2 rfl u5 (leB j n).length ((leB j n).map bv) rfl (own2.alloc _) _ [UInt8.ofNat (m % 256)] rfl (rd_one ?hz) ?_ ?_ ?_
                   rotate_left
                   · exact HY.out
                   · simpa using hb3
                   intro v2 w2 own3 g2)
      case hz => rw [UInt8.toNat_ofNat']; omega
      go_roundw
      case rel =>
        have e : leB (j + 1) n = leB j n ++ [UInt8.ofNat (m % 256)] := by rw [leB_snoc, HM.out]
        refine ⟨j + 1, m / 256, by go_num, by go_num, ?_, by omega, ?_, (hb2.alloc hb2.size _).grown g2 (by simpa using hb3) (own_ge own2)⟩
        · rw [HM.out, Nat.div_div_eq_div_mul, ← Nat.pow_succ]
        · rw [e, List.length_append, List.map_append]
          exact own3
      case measure => simp [intOf]; omega
    · obtain rfl : j = k := by omega
      go_wp2
      go_ret
      exact ⟨u5, rfl, own2, hb2⟩

end Go.Proofs.YtmoffodmbbkolaaDoor

/- The contract of the reference's Number: the number whose form bytes are. Conditions: at most eight bytes. -/
namespace Go.Proofs.YtmoffodmbbkolaaDoor
open Go.RowKit

def NumRel (xs : List UInt8) (s i : Value) : Prop := ∃ j : Nat, i = .int .i64 ((j : Int) - 1) ∧ j ≤ xs.length ∧ s = .int .u64 (numB (xs.drop j) : Nat)
set_option maxHeartbeats 400000 in
theorem number_any (v : Value) (xs : List UInt8) (w : World) (h : Rd w v xs) (h8 : xs.length ≤ 8) :
    Calls Tryd.prog 46 #[v] w fun e w' => e = .returned (.int .u64 (numB xs : Nat)) ∧ w = w' := by
  obtain ⟨A, c, rfl, hc1, hc2, hA⟩ := h.form
  unfold maxLen at hc2
  have HA := Lib.hid hA
  clear h hA
  go_enter Tryd.func46, Tryd.ntmps46
  go_wp2_with (fail)
  go_loop [3, 4] (fun s i => NumRel xs s i) (fun _ i => ((intOf i) + 1).toNat)
  case atStart => exact ⟨xs.length, rfl, by omega, by simp [numB]⟩
  case round =>
    obtain ⟨j, rfl, hj, rfl⟩ := hrel
    by_cases hlt : 0 < j
    · obtain ⟨b, off, rfl, hb1, hb2⟩ := HA.out (by omega)
      have hc := hb2 (j - 1) (by omega)
      obtain ⟨m, hm⟩ : ∃ m, m = numB (xs.drop j) := ⟨_, rfl⟩
      obtain ⟨x, hx⟩ : ∃ x, x = (xs[j - 1]'(by omega)).toNat := ⟨_, rfl⟩
      rw [← hm]
      rw [← hx] at hc
      have hxl : x < 256 := by rw [hx]; exact UInt8.toNat_lt _
      have hml : m * 256 + x ≤ 18446744073709551615 := by
        have h1 := numB_lt (xs.drop (j - 1))
        have h2 := numB_drop xs (j - 1) (by omega)
        rw [show j - 1 + 1 = j by omega] at h2
        have h3 : (256 : Nat) ^ (xs.drop (j - 1)).length ≤ 256 ^ 8 := Nat.pow_le_pow_right (by omega) (by simp; omega)
        omega
      have hml2 : (m : Int) * 256 + x ≤ 18446744073709551615 := by omega
      have HX := Lib.hid hx
      have HM := Lib.hid hm
      clear hx hm hml hb2
      go_wp2
      go_round
      case rel =>
        have e1 := numB_drop xs (j - 1) (by omega)
        have e2 : numB (xs.drop (j - 1)) = m * 256 + x := by
          rw [e1, show j - 1 + 1 = j by omega, HM.out, HX.out]
        refine ⟨j - 1, ?_, by omega, ?_⟩
        · rw [show ((j - 1 : Nat) : Int) = (j : Int) - 1 by omega]
        · rw [e2]
          exact congrArg (Value.int .u64) (by simp)
      case measure => simp [intOf]; omega
    · obtain rfl : j = 0 := by omega
      go_wp2
      go_ret
      exact ⟨rfl, rfl⟩
end Go.Proofs.YtmoffodmbbkolaaDoor

/- Plain arithmetic of the published tag Poly1305, with no program in sight. No condition of its own. -/
namespace Go.Proofs.YtmoffodmbbkolaaDoor
open Go.RowKit

/-- The number of digits in base 2^13, the lowest first. -/
def dv : List Nat → Nat
  | [] => 0
  | d :: r => d + 8192 * dv r
theorem dv_append (a b : List Nat) : dv (a ++ b) = dv a + 8192 ^ a.length * dv b := by
  induction a with
  | nil => simp [dv]
  | cons x r ih => rw [List.cons_append, dv, ih, dv, List.length_cons, Nat.pow_succ, Nat.mul_add, ← Nat.mul_assoc, Nat.mul_comm 8192 (8192 ^ _)]; omega
theorem dv_set (l : List Nat) (i x : Nat) (h : i < l.length) : dv (l.set i (l.getD i 0 + x)) = dv l + x * 8192 ^ i := by
  induction l generalizing i with
  | nil => simp at h
  | cons d r ih =>
    cases i with
    | zero => simp [dv, List.getD]; omega
    | succ i =>
      have h2 := ih i (by simpa using h)
      have e : (d :: r).getD (i + 1) 0 = r.getD i 0 := rfl
      rw [e, List.set_cons_succ, dv, h2, dv, Nat.mul_add, Nat.pow_succ, ← Nat.mul_assoc x, Nat.mul_comm 8192 (x * _)]
      omega
theorem dv_zeros (n : Nat) : dv (List.replicate n 0) = 0 := by
  induction n with
  | zero => rfl
  | succ n ih => rw [List.replicate_succ, dv, ih]
theorem dv_lt (l : List Nat) (h : ∀ x ∈ l, x < 8192) : dv l < 8192 ^ l.length := by
  induction l with
  | nil => simp [dv]
  | cons d r ih =>
    have h1 := h d (by simp)
    have h2 := ih (fun x hx => h x (by simp [hx]))
    rw [dv, List.length_cons, Nat.pow_succ]
    omega
/-- Of normal digits: the one at a place. -/
theorem dv_digit (l : List Nat) (h : ∀ x ∈ l, x < 8192) (i : Nat) : dv l / 8192 ^ i % 8192 = l.getD i 0 := by
  induction l generalizing i with
  | nil => simp [dv, List.getD]
  | cons d r ih =>
    have h1 := h d (by simp)
    have hr : ∀ x ∈ r, x < 8192 := fun x hx => h x (by simp [hx])
    cases i with
    | zero => simp only [dv, Nat.pow_zero, Nat.div_one, List.getD_cons_zero]; omega
    | succ i =>
      have e : (d :: r).getD (i + 1) 0 = r.getD i 0 := rfl
      rw [e, ← ih hr i, dv, Nat.pow_succ, Nat.mul_comm (8192 ^ i), ← Nat.div_div_eq_div_mul]
      congr 2
      omega
/-- The modulus. -/
def p130 : Nat := 1361129467683753853853498429727072845819
theorem p130_eq : 8192 ^ 10 = p130 + 5 := by decide
/-- The clamped bytes of a key's first half. -/
def clampC (i : Nat) (c : UInt8) : UInt8 := if i % 4 = 3 then c % 16 else if i % 4 = 0 ∧ 0 < i then c / 4 * 4 else c
def rB (k : List UInt8) : List UInt8 := (k.take 16).mapIdx clampC
def rN (k : List UInt8) : Nat := numB (rB k)
def sN (k : List UInt8) : Nat := numB (k.drop 16)
def blkP (m : List UInt8) (j : Nat) : List UInt8 := (m.drop (16 * j)).take 16
/-- The number behind the first j blocks. -/
def polyN (r : Nat) (m : List UInt8) : Nat → Nat
  | 0 => 0
  | j + 1 => (polyN r m j + numB (blkP m j ++ [1])) * r % p130
def blksN (m : List UInt8) : Nat := (m.length + 15) / 16
def tagN (k m : List UInt8) : Nat := (polyN (rN k) m (blksN m) + sN k) % 340282366920938463463374607431768211456
/-- The tag. -/
def tagB (k m : List UInt8) : List UInt8 := leB 16 (tagN k m)
theorem tagB_length (k m : List UInt8) : (tagB k m).length = 16 := leB_length _ _
theorem polyN_lt (r : Nat) (m : List UInt8) (j : Nat) : polyN r m j < p130 := by
  cases j with
  | zero => show 0 < p130; decide
  | succ j => exact Nat.mod_lt _ (by decide)
theorem polyN_zero (m : List UInt8) (j : Nat) : polyN 0 m j = 0 := by
  cases j with
  | zero => rfl
  | succ j => rw [polyN, Nat.mul_zero]; rfl
/-- One digit's carry. -/
theorem two13 (q : Nat) : (2 : Nat) ^ (13 * q) = 8192 ^ q := by rw [Nat.pow_mul]
theorem bit_at (N t : Nat) : N / 8192 ^ (t / 13) % 8192 / 2 ^ (t % 13) % 2 = N / 2 ^ t % 2 := by
  have e : (2 : Nat) ^ t = 8192 ^ (t / 13) * 2 ^ (t % 13) := by rw [← two13, ← Nat.pow_add]; congr 1; omega
  rw [e, ← Nat.div_div_eq_div_mul]
  obtain ⟨x, hx⟩ : ∃ x, x = N / 8192 ^ (t / 13) := ⟨_, rfl⟩
  rw [← hx]
  have hs : t % 13 < 13 := Nat.mod_lt _ (by decide)
  obtain ⟨s, hs2⟩ : ∃ s, s = t % 13 := ⟨_, rfl⟩
  rw [← hs2] at hs ⊢
  have e2 : (8192 : Nat) = 2 ^ s * (2 * 2 ^ (12 - s)) := by
    rw [← Nat.mul_assoc, Nat.mul_comm (2 ^ s) 2, Nat.mul_assoc, ← Nat.pow_add, show s + (12 - s) = 12 by omega]
  rw [e2, Nat.mod_mul_right_div_self, Nat.mod_mul_right_mod]
/-- The low t bits, one more. -/
theorem low_succ (N t : Nat) : N % 2 ^ (t + 1) = N % 2 ^ t + 2 ^ t * (N / 2 ^ t % 2) := by rw [Nat.pow_succ, Nat.mod_mul]
theorem byte_bit (xs : List UInt8) (i k : Nat) (hi : i < xs.length) (hk : k < 8) : numB xs / 2 ^ (8 * i + k) % 2 = xs[i].toNat / 2 ^ k % 2 := by
  have h : ∀ (xs : List UInt8) (i : Nat) (hi : i < xs.length), numB xs / 256 ^ i % 256 = xs[i].toNat := by
    intro xs
    induction xs with
    | nil => intro i hi; simp at hi
    | cons x r ih =>
      intro i hi
      have hx := x.toNat_lt
      cases i with
      | zero => simp only [numB, Nat.pow_zero, Nat.div_one, List.getElem_cons_zero]; omega
      | succ i =>
        rw [List.getElem_cons_succ, ← ih i (by simpa using hi), numB, Nat.pow_succ, Nat.mul_comm (256 ^ i), ← Nat.div_div_eq_div_mul]
        congr 2
        omega
  have e : (2 : Nat) ^ (8 * i + k) = 256 ^ i * 2 ^ k := by rw [Nat.pow_add, Nat.pow_mul]
  rw [e, ← Nat.div_div_eq_div_mul, ← h xs i hi]
  obtain ⟨x, hx⟩ : ∃ x, x = numB xs / 256 ^ i := ⟨_, rfl⟩
  rw [← hx]
  have e2 : (256 : Nat) = 2 ^ k * (2 * 2 ^ (7 - k)) := by
    rw [← Nat.mul_assoc, Nat.mul_comm (2 ^ k) 2, Nat.mul_assoc, ← Nat.pow_add, show k + (7 - k) = 7 by omega]
  rw [e2, Nat.mod_mul_right_div_self, Nat.mod_mul_right_mod]
/-- The digits of a number: n of them. -/
def dg (n M : Nat) : List Nat := (List.range n).map fun q => M / 8192 ^ q % 8192
theorem dg_length (n M : Nat) : (dg n M).length = n := by simp [dg]
theorem dg_get (n M : Nat) {q : Nat} (h : q < n) : (dg n M).getD q 0 = M / 8192 ^ q % 8192 := by
  simp [dg, List.getD, h]
theorem dg_lt (n M : Nat) : ∀ x ∈ dg n M, x < 8192 := by
  intro x hx
  obtain ⟨q, _, rfl⟩ := List.mem_map.1 hx
  exact Nat.mod_lt _ (by decide)
theorem dg_zero (n : Nat) : dg n 0 = List.replicate n 0 := by
  apply List.ext_getElem
  · simp [dg]
  · intro i h1 h2; simp [dg]
theorem dv_dg (n M : Nat) : dv (dg n M) = M % 8192 ^ n := by
  induction n with
  | zero => simp [dg, dv, Nat.mod_one]
  | succ n ih =>
    have e : dg (n + 1) M = dg n M ++ [M / 8192 ^ n % 8192] := by simp [dg, List.range_succ]
    rw [e, dv_append, dg_length, ih, Nat.pow_succ, Nat.mod_mul]
    simp [dv]
theorem dg_set (n M t b : Nat) (hM : M < 2 ^ t) (hb : b ≤ 1) : (dg n M).set (t / 13) (M / 8192 ^ (t / 13) % 8192 + b * 2 ^ (t % 13)) = dg n (M + 2 ^ t * b) := by
  have e : (2 : Nat) ^ t = 8192 ^ (t / 13) * 2 ^ (t % 13) := by rw [← two13, ← Nat.pow_add]; congr 1; omega
  have hs : t % 13 < 13 := Nat.mod_lt _ (by decide)
  apply List.ext_getElem
  · simp [dg]
  intro q h1 h2
  have hq : q < n := by simpa [dg] using h2
  rw [List.getElem_set]
  simp only [dg, List.getElem_map, List.getElem_range]
  split
  · rename_i hqt
    subst hqt
    have hp : 0 < (8192 : Nat) ^ (t / 13) := Nat.pow_pos (by decide)
    have h3 : M / 8192 ^ (t / 13) < 2 ^ (t % 13) := by rw [Nat.div_lt_iff_lt_mul hp, Nat.mul_comm, ← e]; exact hM
    have h4 : (M + 2 ^ t * b) / 8192 ^ (t / 13) = M / 8192 ^ (t / 13) + 2 ^ (t % 13) * b := by
      rw [e, Nat.mul_assoc, Nat.add_mul_div_left _ _ hp]
    have h5 : (2 : Nat) ^ (t % 13) ≤ 4096 := by
      have := Nat.pow_le_pow_right (n := 2) (by decide) (show t % 13 ≤ 12 by omega)
      simpa using this
    have h6 : 2 ^ (t % 13) * b ≤ 2 ^ (t % 13) := by
      rcases Nat.eq_zero_or_pos b with h | h
      · rw [h]; simp
      · rw [show b = 1 by omega, Nat.mul_one]; exact Nat.le_refl _
    rw [h4, Nat.mul_comm b (2 ^ (t % 13))]
    obtain ⟨x, hx⟩ : ∃ x, x = M / 8192 ^ (t / 13) := ⟨_, rfl⟩
    obtain ⟨y, hy⟩ : ∃ y, y = 2 ^ (t % 13) * b := ⟨_, rfl⟩
    obtain ⟨z, hz⟩ : ∃ z, z = 2 ^ (t % 13) := ⟨_, rfl⟩
    rw [← hx, ← hz] at h3
    rw [← hy, ← hz] at h6
    rw [← hz] at h5
    rw [← hx, ← hy, Nat.mod_eq_of_lt (show x < 8192 by omega), Nat.mod_eq_of_lt (show x + y < 8192 by omega)]
  · rename_i hne
    rcases Nat.lt_or_ge q (t / 13) with h | h
    · have e2 : (8192 : Nat) ^ (t / 13) = 8192 ^ q * (8192 * 8192 ^ (t / 13 - q - 1)) := by
        rw [← Nat.mul_assoc, ← Nat.pow_succ, ← Nat.pow_add]; congr 1; omega
      rw [e, e2, Nat.mul_assoc, Nat.mul_assoc, Nat.add_mul_div_left _ _ (Nat.pow_pos (by decide)), Nat.mul_assoc, Nat.add_mul_mod_self_left]
    · have h3 : (2 : Nat) ^ (t + 1) ≤ 8192 ^ q := by
        rw [← two13]
        exact Nat.pow_le_pow_right (by decide) (by omega)
      rw [Nat.pow_succ] at h3
      have h4 : 2 ^ t * b ≤ 2 ^ t := by
        rcases Nat.eq_zero_or_pos b with h | h
        · rw [h]; simp
        · rw [show b = 1 by omega, Nat.mul_one]; exact Nat.le_refl _
      rw [Nat.div_eq_of_lt (by omega), Nat.div_eq_of_lt (by omega)]
/-- One more bit. -/
theorem dg_bit (n N t : Nat) (ht : t / 13 < n) : (dg n (N % 2 ^ t)).set (t / 13) ((dg n (N % 2 ^ t)).getD (t / 13) 0 + N / 2 ^ t % 2 * 2 ^ (t % 13)) = dg n (N % 2 ^ (t + 1)) := by
  rw [dg_get n _ ht, low_succ]
  exact dg_set n _ t _ (Nat.mod_lt _ (Nat.two_pow_pos _)) (by omega)
/-- Digits of which none is too great are those of their number. -/
theorem dg_of_dv (l : List Nat) (h : ∀ x ∈ l, x < 8192) : dg l.length (dv l) = l := by
  apply List.ext_getElem
  · simp [dg]
  · intro i h1 h2
    have h3 := dv_digit l h i
    simp only [dg, List.getElem_map, List.getElem_range]
    rw [h3, List.getD, List.getElem?_eq_getElem h2]
    rfl
/-- At or above the modulus: just if the lowest digit is 8187 or more, and the others are the greatest. -/
theorem dv_top (d : Nat) (r : List Nat) (hd : d < 8192) (hr : ∀ x ∈ r, x < 8192) : (8192 ^ (r.length + 1) - 5 ≤ d + 8192 * dv r) ↔ (8187 ≤ d ∧ dv r + 1 = 8192 ^ r.length) := by
  have h := dv_lt r hr
  rw [Nat.pow_succ]
  omega
theorem dv_max (r : List Nat) (hr : ∀ x ∈ r, x < 8192) : dv r + 1 = 8192 ^ r.length ↔ ∀ x ∈ r, x = 8191 := by
  induction r with
  | nil => simp [dv]
  | cons d r ih =>
    have hd := hr d (by simp)
    have hr2 : ∀ x ∈ r, x < 8192 := fun x hx => hr x (by simp [hx])
    have h := dv_lt r hr2
    have ih2 := ih hr2
    rw [dv, List.length_cons, Nat.pow_succ]
    constructor
    · intro h1 x hx
      have h2 : dv r + 1 = 8192 ^ r.length := by omega
      rcases List.mem_cons.1 hx with rfl | hx
      · omega
      · exact ih2.1 h2 x hx
    · intro h1
      have h2 := ih2.2 (fun x hx => h1 x (by simp [hx]))
      have h3 := h1 d (by simp)
      omega
end Go.Proofs.YtmoffodmbbkolaaDoor

/- Plain arithmetic of numbers that are five limbs of 26 bits, modulo 2^130 - 5. No condition of its own. -/
namespace Go.Proofs.YtmoffodmbbkolaaDoor
open Go.RowKit

theorem gs_self {l : List Nat} {p x : Nat} (h : p < l.length) : (l.set p x).getD p 0 = x := by rw [List.getD, List.getElem?_set_self h]; rfl
theorem gs_ne {l : List Nat} {p q x : Nat} (h : p ≠ q) : (l.set p x).getD q 0 = l.getD q 0 := by rw [List.getD, List.getD, List.getElem?_set_ne h]
/-- The number of limbs in base 2^26, the lowest first. -/
def lv : List Nat → Nat
  | [] => 0
  | d :: r => d + 67108864 * lv r
theorem lv_append (a b : List Nat) : lv (a ++ b) = lv a + 67108864 ^ a.length * lv b := by
  induction a with
  | nil => simp [lv]
  | cons x r ih => rw [List.cons_append, lv, ih, lv, List.length_cons, Nat.pow_succ, Nat.mul_add, ← Nat.mul_assoc, Nat.mul_comm 67108864 (67108864 ^ _)]; omega
theorem lv_put (l : List Nat) (i y : Nat) (h : i < l.length) : lv (l.set i y) + l.getD i 0 * 67108864 ^ i = lv l + y * 67108864 ^ i := by
  induction l generalizing i with
  | nil => simp at h
  | cons d r ih =>
    cases i with
    | zero => simp [lv, List.getD]; omega
    | succ i =>
      have h2 := ih i (by simpa using h)
      have e : (d :: r).getD (i + 1) 0 = r.getD i 0 := rfl
      rw [e, List.set_cons_succ, lv, lv, Nat.pow_succ, ← Nat.mul_assoc, ← Nat.mul_assoc]
      omega
theorem lv_set (l : List Nat) (i x : Nat) (h : i < l.length) : lv (l.set i (l.getD i 0 + x)) = lv l + x * 67108864 ^ i := by
  have := lv_put l i (l.getD i 0 + x) h
  rw [Nat.add_mul] at this
  omega
theorem lv_zeros (n : Nat) : lv (List.replicate n 0) = 0 := by
  induction n with
  | zero => rfl
  | succ n ih => rw [List.replicate_succ, lv, ih]
theorem lv_lt (l : List Nat) (h : ∀ x ∈ l, x < 67108864) : lv l < 67108864 ^ l.length := by
  induction l with
  | nil => simp [lv]
  | cons d r ih =>
    have h1 := h d (by simp)
    have h2 := ih (fun x hx => h x (by simp [hx]))
    rw [lv, List.length_cons, Nat.pow_succ]
    omega
theorem lv_take_succ (l : List Nat) {i : Nat} (h : i < l.length) : lv (l.take (i + 1)) = lv (l.take i) + 67108864 ^ i * l.getD i 0 := by
  rw [List.take_succ_eq_append_getElem h, lv_append, List.length_take, Nat.min_eq_left (by omega), List.getD, List.getElem?_eq_getElem h]
  simp [lv]
theorem b5_eq : (67108864 : Nat) ^ 5 = p130 + 5 := by decide
theorem five {l : List Nat} (h : l.length = 5) : ∃ a b c d e, l = [a, b, c, d, e] := by
  match l, h with
  | [a, b, c, d, e], _ => exact ⟨a, b, c, d, e, rfl⟩
theorem five_all {l : List Nat} (h : l.length = 5) {M : Nat} (hm : ∀ q, q < 5 → l.getD q 0 < M) : ∀ x ∈ l, x < M := by
  intro x hx
  obtain ⟨q, hq, rfl⟩ := List.getElem_of_mem hx
  have := hm q (by omega)
  rw [List.getD, List.getElem?_eq_getElem hq] at this
  exact this
/-- What the carry's loop keeps. -/
def HanP (out : List Nat) (c i V : Nat) : Prop := out.length = 5 ∧ lv out + c * 67108864 ^ i = V ∧ (∀ q, q < 5 → q < i → out.getD q 0 < 67108864) ∧ (∀ q, q < 5 → out.getD q 0 ≤ 1152921504606846976) ∧ c ≤ 34359738368
theorem han_zero {ns : List Nat} (hl : ns.length = 5) (hm : ∀ q, q < 5 → ns.getD q 0 ≤ 1152921504606846976) : HanP ns 0 0 (lv ns) := ⟨hl, by omega, fun q _ h => by omega, hm, by omega⟩
theorem han_step {out : List Nat} {c i V e : Nat} (h : HanP out c i V) (hi : i < 5) (he : e = out.getD i 0) : HanP (out.set i ((e + c) % 67108864)) ((e + c) / 67108864) (i + 1) V := by
  obtain ⟨h1, h2, h3, h4, h5⟩ := h
  have el := h4 i hi
  rw [← he] at el
  refine ⟨by rw [List.length_set]; exact h1, ?_, fun q hq hqi => ?_, fun q hq => ?_, by omega⟩
  · have hp := lv_put out i ((e + c) % 67108864) (by omega)
    rw [← he] at hp
    have hdm := Nat.div_add_mod (e + c) 67108864
    obtain ⟨y, hy⟩ : ∃ y, y = (e + c) % 67108864 := ⟨_, rfl⟩
    obtain ⟨z, hz⟩ : ∃ z, z = (e + c) / 67108864 := ⟨_, rfl⟩
    obtain ⟨p, hpp⟩ : ∃ p, p = (67108864 : Nat) ^ i := ⟨_, rfl⟩
    rw [← hy, ← hz] at hdm
    rw [← hy, ← hpp] at hp
    rw [← hpp] at h2
    rw [← hy, ← hz, Nat.pow_succ, ← hpp]
    have e1 : (67108864 * z + y) * p = (e + c) * p := by rw [hdm]
    rw [Nat.add_mul, Nat.add_mul, Nat.mul_assoc] at e1
    rw [Nat.mul_comm p 67108864, ← Nat.mul_assoc, Nat.mul_comm z 67108864, Nat.mul_assoc]
    omega
  · by_cases e2 : i = q
    · subst e2
      rw [gs_self (by omega)]
      exact Nat.mod_lt _ (by decide)
    · rw [gs_ne e2]
      exact h3 q hq (by omega)
  · by_cases e2 : i = q
    · subst e2
      rw [gs_self (by omega)]
      have := Nat.mod_lt (e + c) (show 0 < 67108864 by decide)
      omega
    · rw [gs_ne e2]
      exact h4 q hq
theorem han_lt {out : List Nat} {c V : Nat} (h : HanP out c 5 V) : lv out < p130 + 5 := by
  have := lv_lt out (five_all h.1 (fun q hq => h.2.2.1 q hq hq))
  rw [h.1, b5_eq] at this
  exact this
/-- The sum, limb by limb. -/
def addL (ns ms : List Nat) : List Nat := (List.range 5).map fun q => ns.getD q 0 + ms.getD q 0
theorem addL_length (ns ms : List Nat) : (addL ns ms).length = 5 := by simp [addL]
theorem addL_get (ns ms : List Nat) {q : Nat} (h : q < 5) : (addL ns ms).getD q 0 = ns.getD q 0 + ms.getD q 0 := by simp [addL, List.getD, h]
theorem lv_five (a b c d e : Nat) : lv [a, b, c, d, e] = a + 67108864 * (b + 67108864 * (c + 67108864 * (d + 67108864 * e))) := by simp [lv]
theorem lv_addL {ns ms : List Nat} (hn : ns.length = 5) (hm : ms.length = 5) : lv (addL ns ms) = lv ns + lv ms := by
  obtain ⟨a, b, c, d, e, rfl⟩ := five hn
  obtain ⟨f, g, h, i, j, rfl⟩ := five hm
  show lv [a + f, b + g, c + h, d + i, e + j] = _
  rw [lv_five, lv_five, lv_five]
  omega
theorem addL_set {ns ms out : List Nat} {i : Nat} (hi : i < 5) (hl : out.length = 5) (h : out = (addL ns ms).take i ++ ns.drop i) (hn : ns.length = 5) : out.set i (ns.getD i 0 + ms.getD i 0) = (addL ns ms).take (i + 1) ++ ns.drop (i + 1) := by
  subst h
  have h1 := addL_length ns ms
  rw [List.set_append_right _ _ (by rw [List.length_take, h1]; omega), List.length_take, h1, Nat.min_eq_left (by omega), Nat.sub_self, List.drop_eq_getElem_cons (by omega), List.set_cons_zero, List.take_succ_eq_append_getElem (by omega), List.append_assoc]
  have e : (addL ns ms)[i]'(by omega) = ns.getD i 0 + ms.getD i 0 := by simp [addL]
  rw [e]
  rfl
theorem addL_at {ns ms : List Nat} {i : Nat} (hi : i < 5) (_hn : ns.length = 5) : ((addL ns ms).take i ++ ns.drop i).getD i 0 = ns.getD i 0 := by
  have h1 := addL_length ns ms
  rw [List.getD, List.getElem?_append_right (by rw [List.length_take, h1]; omega), List.length_take, h1, Nat.min_eq_left (by omega), Nat.sub_self, List.getElem?_drop, Nat.add_zero]
  rfl
/-- The greatest product of two limbs, five times. -/
def mlC : Nat := 5 * (268435455 * 67108863)
/-- A product's limbs: i rounds are done, and k of the next one. -/
def MulP (ns rs out : List Nat) (i k : Nat) : Prop := out.length = 5 ∧ lv out % p130 = (lv (ns.take i) * lv rs + ns.getD i 0 * 67108864 ^ i * lv (rs.take k)) % p130 ∧ ∀ q, q < 5 → out.getD q 0 ≤ i * mlC + (if (q + 5 - i) % 5 < k then mlC else 0)
theorem mul_fold {a b z s : Nat} (h : a % p130 = b % p130) (hs : 5 ≤ s) : (a + z * 5 * 67108864 ^ (s - 5)) % p130 = (b + z * 67108864 ^ s) % p130 := by
  have e : (67108864 : Nat) ^ s = 67108864 ^ (s - 5) * (p130 + 5) := by rw [← b5_eq, ← Nat.pow_add]; congr 1; omega
  obtain ⟨y, hy⟩ : ∃ y, y = (67108864 : Nat) ^ (s - 5) := ⟨_, rfl⟩
  rw [e, ← hy]
  have e2 : b + z * (y * (p130 + 5)) = (b + z * 5 * y) + p130 * (z * y) := by
    rw [Nat.mul_add, Nat.mul_add, Nat.mul_comm y p130, ← Nat.mul_assoc z, Nat.mul_comm z p130, Nat.mul_assoc p130, Nat.mul_comm y 5, ← Nat.mul_assoc z 5]
    omega
  rw [e2, Nat.add_mul_mod_self_left, Nat.add_mod, h, ← Nat.add_mod]
set_option maxRecDepth 100000 in
theorem mul_step {ns rs out : List Nat} {i k x y j z : Nat} (h : MulP ns rs out i k) (hi : i < 5) (hk : k < 5) (hr : rs.length = 5) (hx : x = ns.getD i 0) (hy : y = rs.getD k 0) (hxl : x ≤ 268435455) (hyl : y ≤ 67108863) (hj : j = if i + k < 5 then i + k else i + k - 5) (hz : z = if i + k < 5 then x * y else x * y * 5) : MulP ns rs (out.set j (out.getD j 0 + z)) i (k + 1) := by
  obtain ⟨h1, h2, h3⟩ := h
  have hxy : x * y ≤ 268435455 * 67108863 := Nat.mul_le_mul hxl hyl
  have hzl : z ≤ mlC := by unfold mlC; split at hz <;> omega
  obtain ⟨I, hI⟩ : ∃ I, I = i * mlC := ⟨_, rfl⟩
  rw [← hI] at h3
  have j5 : j < 5 := by split at hj <;> omega
  have e : x * 67108864 ^ i * (67108864 ^ k * y) = x * y * 67108864 ^ (i + k) := by
    rw [Nat.pow_add, Nat.mul_comm (67108864 ^ k) y, Nat.mul_assoc x, ← Nat.mul_assoc (67108864 ^ i), Nat.mul_comm (67108864 ^ i) y, Nat.mul_assoc y, ← Nat.mul_assoc x]
  refine ⟨by rw [List.length_set]; exact h1, ?_, fun q hq => ?_⟩
  · rw [lv_set _ _ _ (by omega), lv_take_succ _ (by omega), ← hy, Nat.mul_add, ← hx, e, ← Nat.add_assoc]
    rw [← hx] at h2
    by_cases hs : i + k < 5
    · rw [if_pos hs] at hj hz
      rw [hj, hz, Nat.add_mod, h2, ← Nat.add_mod]
    · rw [if_neg hs] at hj hz
      rw [hj, hz]
      exact mul_fold h2 (by omega)
  · rw [← hI]
    by_cases e : j = q
    · subst e
      rw [gs_self (by omega)]
      have := h3 j j5
      have hn : ¬ (j + 5 - i) % 5 < k := by split at hj <;> omega
      have hp : (j + 5 - i) % 5 < k + 1 := by split at hj <;> omega
      rw [if_neg hn] at this
      rw [if_pos hp]
      omega
    · rw [gs_ne e]
      have := h3 q hq
      by_cases hq1 : (q + 5 - i) % 5 < k
      · rw [if_pos hq1] at this
        rw [if_pos (by omega)]
        exact this
      · have hn : ¬ (q + 5 - i) % 5 < k + 1 := by split at hj <;> omega
        rw [if_neg hq1] at this
        rw [if_neg hn]
        exact this
set_option maxRecDepth 100000 in
theorem mul_next {ns rs out : List Nat} {i : Nat} (h : MulP ns rs out i 5) (hi : i < 5) (hn : ns.length = 5) (hr : rs.length = 5) : MulP ns rs out (i + 1) 0 := by
  obtain ⟨h1, h2, h3⟩ := h
  refine ⟨h1, ?_, fun q hq => ?_⟩
  · have e : rs.take 5 = rs := List.take_of_length_le (by omega)
    rw [e] at h2
    rw [h2, lv_take_succ ns (i := i) (by omega), Nat.add_mul, Nat.mul_comm (67108864 ^ i)]
    simp [lv]
  · have := h3 q hq
    rw [Nat.add_mul, Nat.one_mul]
    rw [if_neg (by omega)]
    split at this <;> omega
theorem mul_zero (ns rs : List Nat) : MulP ns rs (List.replicate 5 0) 0 0 := ⟨by simp, by rw [lv_zeros]; simp [lv], fun q _ => by rw [List.getD, List.getElem?_replicate]; split <;> simp⟩
theorem mul_all {ns rs out : List Nat} (h : MulP ns rs out 5 0) (hn : ns.length = 5) : out.length = 5 ∧ lv out % p130 = lv ns * lv rs % p130 ∧ ∀ q, q < 5 → out.getD q 0 ≤ 1152921504606846976 := by
  obtain ⟨h1, h2, h3⟩ := h
  refine ⟨h1, ?_, fun q hq => ?_⟩
  · rw [List.take_of_length_le (by omega)] at h2
    rw [h2]
    simp [lv]
  · have := h3 q hq
    rw [if_neg (by omega)] at this
    have e : 5 * mlC ≤ 1152921504606846976 := by decide
    omega
/-- What is left of a number by the modulus, or that and the modulus: limbs of 26 bits, but that one may have some more. -/
def RedP (R : List Nat) : Prop := R.length = 5 ∧ (∀ q, q < 5 → R.getD q 0 < 67112960) ∧ lv R < 2 * p130
theorem red_zero : RedP (List.replicate 5 0) := ⟨by simp, fun q _ => by rw [List.getD, List.getElem?_replicate]; split <;> simp, by rw [lv_zeros]; decide⟩
theorem red_of {out : List Nat} {c V a b : Nat} (h : HanP out c 5 V) (ha : a = out.getD 0 0) (hb : b = out.getD 1 0) : RedP ((out.set 0 ((a + c * 5) % 67108864)).set 1 (b + (a + c * 5) / 67108864)) ∧ lv ((out.set 0 ((a + c * 5) % 67108864)).set 1 (b + (a + c * 5) / 67108864)) % p130 = V % p130 := by
  have hlt := han_lt h
  obtain ⟨h1, h2, h3, h4, h5⟩ := h
  obtain ⟨a', b', x, y, z, rfl⟩ := five h1
  obtain rfl : a = a' := ha
  obtain rfl : b = b' := hb
  have a1 : a < 67108864 := h3 0 (by omega) (by omega)
  have a2 : b < 67108864 := h3 1 (by omega) (by omega)
  have a3 : x < 67108864 := h3 2 (by omega) (by omega)
  have a4 : y < 67108864 := h3 3 (by omega) (by omega)
  have a5 : z < 67108864 := h3 4 (by omega) (by omega)
  have e : ([a, b, x, y, z].set 0 ((a + c * 5) % 67108864)).set 1 (b + (a + c * 5) / 67108864) = [(a + c * 5) % 67108864, b + (a + c * 5) / 67108864, x, y, z] := rfl
  rw [e]
  have e2 : lv [(a + c * 5) % 67108864, b + (a + c * 5) / 67108864, x, y, z] = lv [a, b, x, y, z] + c * 5 := by
    rw [lv_five, lv_five]
    omega
  refine ⟨⟨rfl, fun q hq => ?_, ?_⟩, ?_⟩
  · match q, hq with
    | 0, _ => show (a + c * 5) % 67108864 < _; omega
    | 1, _ => show b + (a + c * 5) / 67108864 < _; omega
    | 2, _ => show x < _; omega
    | 3, _ => show y < _; omega
    | 4, _ => show z < _; omega
  · rw [e2]
    have : 5 + 5 * 34359738368 < p130 := by decide
    omega
  · rw [e2, ← h2, b5_eq, Nat.mul_add, Nat.mul_comm c p130, ← Nat.add_assoc, Nat.add_right_comm, Nat.add_mul_mod_self_left]
/-- The lowest of the numbers that are told apart from one by the modulus alone. -/
theorem rest_of {R out : List Nat} {c a : Nat} (h : RedP R) (ha : a = R.getD 0 0) (hh : HanP out c 5 (lv (R.set 0 (a + 5)))) : (c = 0 ∧ lv R = lv R % p130) ∨ (c = 1 ∧ lv out = lv R % p130) := by
  have hlt := han_lt hh
  obtain ⟨h1, h2, h3⟩ := h
  have hs := lv_set R 0 5 (by omega)
  rw [← ha, Nat.pow_zero, Nat.mul_one] at hs
  have hv := hh.2.1
  rw [hs, b5_eq] at hv
  obtain ⟨X, hX⟩ : ∃ X, X = lv R := ⟨_, rfl⟩
  obtain ⟨Y, hY⟩ : ∃ Y, Y = lv out := ⟨_, rfl⟩
  rw [← hX] at hv h3 ⊢
  rw [← hY] at hv hlt ⊢
  obtain ⟨p, hp⟩ : ∃ p, p = p130 := ⟨_, rfl⟩
  have p5 : 5 < p := by rw [hp]; decide
  rw [← hp] at hv h3 hlt ⊢
  have hc : c = 0 ∨ c = 1 ∨ 2 ≤ c := by omega
  rcases hc with rfl | rfl | hc
  · left
    refine ⟨rfl, (Nat.mod_eq_of_lt (by omega)).symm⟩
  · right
    refine ⟨rfl, ?_⟩
    rw [Nat.mod_eq_sub_mod (by omega), Nat.mod_eq_of_lt (by omega)]
    omega
  · exfalso
    have : 2 * (p + 5) ≤ c * (p + 5) := Nat.mul_le_mul_right _ hc
    omega
/-- The limbs of a number. -/
def lim (N : Nat) : List Nat := (List.range 5).map fun q => N / 67108864 ^ q % 67108864
theorem lim_length (N : Nat) : (lim N).length = 5 := by simp [lim]
theorem lim_get (N : Nat) {q : Nat} (h : q < 5) : (lim N).getD q 0 = N / 67108864 ^ q % 67108864 := by simp [lim, List.getD, h]
theorem lim_lt (N : Nat) {q : Nat} (h : q < 5) : (lim N).getD q 0 < 67108864 := by rw [lim_get N h]; exact Nat.mod_lt _ (by decide)
theorem lv_lim (N : Nat) : lv (lim N) = N % (p130 + 5) := by
  have e : lim N = [N % 67108864, N / 67108864 % 67108864, N / 4503599627370496 % 67108864, N / 302231454903657293676544 % 67108864, N / 20282409603651670423947251286016 % 67108864] := by simp [lim, show List.range 5 = [0, 1, 2, 3, 4] from rfl]
  rw [e, lv_five, ← b5_eq]
  show _ = N % 1361129467683753853853498429727072845824
  omega
/-- Four bytes have the limb among them. -/
theorem lim_word (xs : List UInt8) (_hl : xs.length = 17) {i : Nat} (hi : i < 5) : numB ((xs.drop (26 * i / 8)).take 4) / 2 ^ (26 * i % 8) % 67108864 = numB xs / 67108864 ^ i % 67108864 := by
  have hd : ∀ (ys : List UInt8) (a : Nat), numB (ys.drop a) = numB ys / 256 ^ a := by
    intro ys
    induction ys with
    | nil => intro a; simp [numB]
    | cons y r ih =>
      intro a
      have hy := y.toNat_lt
      cases a with
      | zero => simp
      | succ a =>
        rw [List.drop_succ_cons, ih, numB, Nat.pow_succ, Nat.mul_comm (256 ^ a), ← Nat.div_div_eq_div_mul]
        congr 1
        omega
  have ht : ∀ (ys : List UInt8) (a : Nat), numB (ys.take a) = numB ys % 256 ^ a := by
    intro ys
    induction ys with
    | nil => intro a; simp [numB]
    | cons y r ih =>
      intro a
      have hy := y.toNat_lt
      cases a with
      | zero => simp [numB, Nat.mod_one]
      | succ a =>
        have e1 : (y.toNat + 256 * numB r) / 256 = numB r := by omega
        have e2 : (y.toNat + 256 * numB r) % 256 = y.toNat := by omega
        rw [List.take_succ_cons, numB, ih, numB, Nat.pow_succ, Nat.mul_comm (256 ^ a), Nat.mod_mul, e1, e2]
  rw [ht, hd]
  obtain ⟨N, hN⟩ : ∃ N, N = numB xs := ⟨_, rfl⟩
  rw [← hN]
  match i, hi with
  | 0, _ => simp <;> omega
  | 1, _ => simp <;> omega
  | 2, _ => simp <;> omega
  | 3, _ => simp <;> omega
  | 4, _ => simp <;> omega
theorem leB_append (a b n : Nat) : leB (a + b) n = leB a n ++ leB b (n / 256 ^ a) := by
  induction a generalizing n with
  | zero => simp [leB]
  | succ a ih => rw [Nat.succ_add, leB, ih, leB, List.cons_append, Nat.pow_succ, Nat.div_div_eq_div_mul, Nat.mul_comm 256]
theorem leB_low (k n m : Nat) (h : n % 256 ^ k = m % 256 ^ k) : leB k n = leB k m := by
  have e : ∀ (k n : Nat), leB k (n % 256 ^ k) = leB k n := by
    intro k
    induction k with
    | zero => intro n; rfl
    | succ k ih => intro n; rw [leB, leB, Nat.pow_succ, Nat.mul_comm (256 ^ k) 256, Nat.mod_mul_right_mod, Nat.mod_mul_right_div_self, ih]
  rw [← e k n, h, e k m]
/-- The two halves of a number of five limbs. -/
def lowN (a b c : Nat) : Nat := (a + 67108864 * b + 4503599627370496 * c) % 18446744073709551616
def highN (c d e : Nat) : Nat := (c / 4096 + 16384 * d + 1099511627776 * e) % 18446744073709551616
theorem halves_leB (a b c d e : Nat) (ha : a < 67108864) (hb : b < 67108864) (_hc : c < 67108864) : leB 8 (lowN a b c) ++ leB 8 (highN c d e) = leB 16 (lv [a, b, c, d, e]) := by
  have e1 := leB_append 8 8 (lv [a, b, c, d, e])
  rw [show 8 + 8 = 16 from rfl] at e1
  rw [e1, lv_five]
  congr 1
  · apply leB_low
    unfold lowN
    show _ % 18446744073709551616 = _ % 18446744073709551616
    omega
  · apply leB_low
    unfold highN
    show _ % 18446744073709551616 = _ / 18446744073709551616 % 18446744073709551616
    omega
theorem leB_rest {out : List Nat} {c V : Nat} (h : HanP out c 5 V) : leB 16 (lv out) = leB 16 V := by
  apply leB_low
  have := h.2.1
  rw [← this]
  show _ % 340282366920938463463374607431768211456 = (_ + _ * 1361129467683753853853498429727072845824) % 340282366920938463463374607431768211456
  omega
end Go.Proofs.YtmoffodmbbkolaaDoor

/- The contract of num's isWidth. No condition of its own. -/
namespace Go.Proofs.YtmoffodmbbkolaaDoor
open Go.RowKit

def isW (k : Int) : Bool := decide (1 ≤ k) && decide (k ≤ 8)
set_option maxHeartbeats 400000 in
theorem isWidth_any (k : Int) (w : World) :
    Calls Tryd.prog 37 #[.int .i64 k] w fun e w' => e = .returned (.bool (isW k)) ∧ w = w' := by
  by_cases h1 : 1 ≤ k
  · have e : isW k = decide (k ≤ 8) := by simp [isW, h1]
    rw [e]
    go_enter Tryd.func37, Tryd.ntmps37
    go_wp2
    go_ret
    exact ⟨rfl, rfl⟩
  · have e : isW k = false := by simp [isW, h1]
    rw [e]
    go_enter Tryd.func37, Tryd.ntmps37
    go_wp2
    go_ret
    exact ⟨rfl, rfl⟩
end Go.Proofs.YtmoffodmbbkolaaDoor
