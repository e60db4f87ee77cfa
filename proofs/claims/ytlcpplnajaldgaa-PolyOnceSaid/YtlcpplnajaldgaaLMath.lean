/- Plain arithmetic of numbers that are five limbs of 26 bits, modulo 2^130 - 5. No condition of its own. -/
import Derived.Test.YtlcpplnajaldgaaPolMath
namespace Go.Proofs.Ytlcpplnajaldgaa
open Go.RowKit

theorem gs_self {l : List Nat} {p x : Nat} (h : p < l.length) : (l.set p x).getD p 0 = x := by rw [List.getD, List.getElem?_set_self h]; rfl
theorem gs_ne {l : List Nat} {p q x : Nat} (h : p ≠ q) : (l.set p x).getD q 0 = l.getD q 0 := by rw [List.getD, List.getD, List.getElem?_set_ne h]
/-- The number of limbs in base 2^26, the lowest first. -/
def lv : List Nat → Nat
  | [] => 0
  | d :: r => d + 67108864 * lv r
theorem lv_append (a b : List Nat) : lv (a ++ b) = lv a + 67108864 ^ a.length * lv b := by
  induction a with
  | nil => simp [lv]
  | cons x r ih => rw [List.cons_append, lv, ih, lv, List.length_cons, Nat.pow_succ, Nat.mul_add, ← Nat.mul_assoc, Nat.mul_comm 67108864 (67108864 ^ _)]; omega
theorem lv_put (l : List Nat) (i y : Nat) (h : i < l.length) : lv (l.set i y) + l.getD i 0 * 67108864 ^ i = lv l + y * 67108864 ^ i := by
  induction l generalizing i with
  | nil => simp at h
  | cons d r ih =>
    cases i with
    | zero => simp [lv, List.getD]; omega
    | succ i =>
      have h2 := ih i (by simpa using h)
      have e : (d :: r).getD (i + 1) 0 = r.getD i 0 := rfl
      rw [e, List.set_cons_succ, lv, lv, Nat.pow_succ, ← Nat.mul_assoc, ← Nat.mul_assoc]
      omega
theorem lv_set (l : List Nat) (i x : Nat) (h : i < l.length) : lv (l.set i (l.getD i 0 + x)) = lv l + x * 67108864 ^ i := by
  have := lv_put l i (l.getD i 0 + x) h
  rw [Nat.add_mul] at this
  omega
theorem lv_zeros (n : Nat) : lv (List.replicate n 0) = 0 := by
  induction n with
  | zero => rfl
  | succ n ih => rw [List.replicate_succ, lv, ih]
theorem lv_lt (l : List Nat) (h : ∀ x ∈ l, x < 67108864) : lv l < 67108864 ^ l.length := by
  induction l with
  | nil => simp [lv]
  | cons d r ih =>
    have h1 := h d (by simp)
    have h2 := ih (fun x hx => h x (by simp [hx]))
    rw [lv, List.length_cons, Nat.pow_succ]
    omega
theorem lv_take_succ (l : List Nat) {i : Nat} (h : i < l.length) : lv (l.take (i + 1)) = lv (l.take i) + 67108864 ^ i * l.getD i 0 := by
  rw [List.take_succ_eq_append_getElem h, lv_append, List.length_take, Nat.min_eq_left (by omega), List.getD, List.getElem?_eq_getElem h]
  simp [lv]
theorem b5_eq : (67108864 : Nat) ^ 5 = p130 + 5 := by decide
theorem five {l : List Nat} (h : l.length = 5) : ∃ a b c d e, l = [a, b, c, d, e] := by
  match l, h with
  | [a, b, c, d, e], _ => exact ⟨a, b, c, d, e, rfl⟩
theorem five_all {l : List Nat} (h : l.length = 5) {M : Nat} (hm : ∀ q, q < 5 → l.getD q 0 < M) : ∀ x ∈ l, x < M := by
  intro x hx
  obtain ⟨q, hq, rfl⟩ := List.getElem_of_mem hx
  have := hm q (by omega)
  rw [List.getD, List.getElem?_eq_getElem hq] at this
  exact this
/-- What the carry's loop keeps. -/
def HanP (out : List Nat) (c i V : Nat) : Prop := out.length = 5 ∧ lv out + c * 67108864 ^ i = V ∧ (∀ q, q < 5 → q < i → out.getD q 0 < 67108864) ∧ (∀ q, q < 5 → out.getD q 0 ≤ 1152921504606846976) ∧ c ≤ 34359738368
theorem han_zero {ns : List Nat} (hl : ns.length = 5) (hm : ∀ q, q < 5 → ns.getD q 0 ≤ 1152921504606846976) : HanP ns 0 0 (lv ns) := ⟨hl, by omega, fun q _ h => by omega, hm, by omega⟩
theorem han_step {out : List Nat} {c i V e : Nat} (h : HanP out c i V) (hi : i < 5) (he : e = out.getD i 0) : HanP (out.set i ((e + c) % 67108864)) ((e + c) / 67108864) (i + 1) V := by
  obtain ⟨h1, h2, h3, h4, h5⟩ := h
  have el := h4 i hi
  rw [← he] at el
  refine ⟨by rw [List.length_set]; exact h1, ?_, fun q hq hqi => ?_, fun q hq => ?_, by omega⟩
  · have hp := lv_put out i ((e + c) % 67108864) (by omega)
    rw [← he] at hp
    have hdm := Nat.div_add_mod (e + c) 67108864
    obtain ⟨y, hy⟩ : ∃ y, y = (e + c) % 67108864 := ⟨_, rfl⟩
    obtain ⟨z, hz⟩ : ∃ z, z = (e + c) / 67108864 := ⟨_, rfl⟩
    obtain ⟨p, hpp⟩ : ∃ p, p = (67108864 : Nat) ^ i := ⟨_, rfl⟩
    rw [← hy, ← hz] at hdm
    rw [← hy, ← hpp] at hp
    rw [← hpp] at h2
    rw [← hy, ← hz, Nat.pow_succ, ← hpp]
    have e1 : (67108864 * z + y) * p = (e + c) * p := by rw [hdm]
    rw [Nat.add_mul, Nat.add_mul, Nat.mul_assoc] at e1
    rw [Nat.mul_comm p 67108864, ← Nat.mul_assoc, Nat.mul_comm z 67108864, Nat.mul_assoc]
    omega
  · by_cases e2 : i = q
    · subst e2
      rw [gs_self (by omega)]
      exact Nat.mod_lt _ (by decide)
    · rw [gs_ne e2]
      exact h3 q hq (by omega)
  · by_cases e2 : i = q
    · subst e2
      rw [gs_self (by omega)]
      have := Nat.mod_lt (e + c) (show 0 < 67108864 by decide)
      omega
    · rw [gs_ne e2]
      exact h4 q hq
theorem han_lt {out : List Nat} {c V : Nat} (h : HanP out c 5 V) : lv out < p130 + 5 := by
  have := lv_lt out (five_all h.1 (fun q hq => h.2.2.1 q hq hq))
  rw [h.1, b5_eq] at this
  exact this
/-- The sum, limb by limb. -/
def addL (ns ms : List Nat) : List Nat := (List.range 5).map fun q => ns.getD q 0 + ms.getD q 0
theorem addL_length (ns ms : List Nat) : (addL ns ms).length = 5 := by simp [addL]
theorem addL_get (ns ms : List Nat) {q : Nat} (h : q < 5) : (addL ns ms).getD q 0 = ns.getD q 0 + ms.getD q 0 := by simp [addL, List.getD, h]
theorem lv_five (a b c d e : Nat) : lv [a, b, c, d, e] = a + 67108864 * (b + 67108864 * (c + 67108864 * (d + 67108864 * e))) := by simp [lv]
theorem lv_addL {ns ms : List Nat} (hn : ns.length = 5) (hm : ms.length = 5) : lv (addL ns ms) = lv ns + lv ms := by
  obtain ⟨a, b, c, d, e, rfl⟩ := five hn
  obtain ⟨f, g, h, i, j, rfl⟩ := five hm
  show lv [a + f, b + g, c + h, d + i, e + j] = _
  rw [lv_five, lv_five, lv_five]
  omega
theorem addL_set {ns ms out : List Nat} {i : Nat} (hi : i < 5) (hl : out.length = 5) (h : out = (addL ns ms).take i ++ ns.drop i) (hn : ns.length = 5) : out.set i (ns.getD i 0 + ms.getD i 0) = (addL ns ms).take (i + 1) ++ ns.drop (i + 1) := by
  subst h
  have h1 := addL_length ns ms
  rw [List.set_append_right _ _ (by rw [List.length_take, h1]; omega), List.length_take, h1, Nat.min_eq_left (by omega), Nat.sub_self, List.drop_eq_getElem_cons (by omega), List.set_cons_zero, List.take_succ_eq_append_getElem (by omega), List.append_assoc]
  have e : (addL ns ms)[i]'(by omega) = ns.getD i 0 + ms.getD i 0 := by simp [addL]
  rw [e]
  rfl
theorem addL_at {ns ms : List Nat} {i : Nat} (hi : i < 5) (_hn : ns.length = 5) : ((addL ns ms).take i ++ ns.drop i).getD i 0 = ns.getD i 0 := by
  have h1 := addL_length ns ms
  rw [List.getD, List.getElem?_append_right (by rw [List.length_take, h1]; omega), List.length_take, h1, Nat.min_eq_left (by omega), Nat.sub_self, List.getElem?_drop, Nat.add_zero]
  rfl
/-- The greatest product of two limbs, five times. -/
def mlC : Nat := 5 * (268435455 * 67108863)
/-- A product's limbs: i rounds are done, and k of the next one. -/
def MulP (ns rs out : List Nat) (i k : Nat) : Prop := out.length = 5 ∧ lv out % p130 = (lv (ns.take i) * lv rs + ns.getD i 0 * 67108864 ^ i * lv (rs.take k)) % p130 ∧ ∀ q, q < 5 → out.getD q 0 ≤ i * mlC + (if (q + 5 - i) % 5 < k then mlC else 0)
theorem mul_fold {a b z s : Nat} (h : a % p130 = b % p130) (hs : 5 ≤ s) : (a + z * 5 * 67108864 ^ (s - 5)) % p130 = (b + z * 67108864 ^ s) % p130 := by
  have e : (67108864 : Nat) ^ s = 67108864 ^ (s - 5) * (p130 + 5) := by rw [← b5_eq, ← Nat.pow_add]; congr 1; omega
  obtain ⟨y, hy⟩ : ∃ y, y = (67108864 : Nat) ^ (s - 5) := ⟨_, rfl⟩
  rw [e, ← hy]
  have e2 : b + z * (y * (p130 + 5)) = (b + z * 5 * y) + p130 * (z * y) := by
    rw [Nat.mul_add, Nat.mul_add, Nat.mul_comm y p130, ← Nat.mul_assoc z, Nat.mul_comm z p130, Nat.mul_assoc p130, Nat.mul_comm y 5, ← Nat.mul_assoc z 5]
    omega
  rw [e2, Nat.add_mul_mod_self_left, Nat.add_mod, h, ← Nat.add_mod]
set_option maxRecDepth 100000 in
theorem mul_step {ns rs out : List Nat} {i k x y j z : Nat} (h : MulP ns rs out i k) (hi : i < 5) (hk : k < 5) (hr : rs.length = 5) (hx : x = ns.getD i 0) (hy : y = rs.getD k 0) (hxl : x ≤ 268435455) (hyl : y ≤ 67108863) (hj : j = if i + k < 5 then i + k else i + k - 5) (hz : z = if i + k < 5 then x * y else x * y * 5) : MulP ns rs (out.set j (out.getD j 0 + z)) i (k + 1) := by
  obtain ⟨h1, h2, h3⟩ := h
  have hxy : x * y ≤ 268435455 * 67108863 := Nat.mul_le_mul hxl hyl
  have hzl : z ≤ mlC := by unfold mlC; split at hz <;> omega
  obtain ⟨I, hI⟩ : ∃ I, I = i * mlC := ⟨_, rfl⟩
  rw [← hI] at h3
  have j5 : j < 5 := by split at hj <;> omega
  have e : x * 67108864 ^ i * (67108864 ^ k * y) = x * y * 67108864 ^ (i + k) := by
    rw [Nat.pow_add, Nat.mul_comm (67108864 ^ k) y, Nat.mul_assoc x, ← Nat.mul_assoc (67108864 ^ i), Nat.mul_comm (67108864 ^ i) y, Nat.mul_assoc y, ← Nat.mul_assoc x]
  refine ⟨by rw [List.length_set]; exact h1, ?_, fun q hq => ?_⟩
  · rw [lv_set _ _ _ (by omega), lv_take_succ _ (by omega), ← hy, Nat.mul_add, ← hx, e, ← Nat.add_assoc]
    rw [← hx] at h2
    by_cases hs : i + k < 5
    · rw [if_pos hs] at hj hz
      rw [hj, hz, Nat.add_mod, h2, ← Nat.add_mod]
    · rw [if_neg hs] at hj hz
      rw [hj, hz]
      exact mul_fold h2 (by omega)
  · rw [← hI]
    by_cases e : j = q
    · subst e
      rw [gs_self (by omega)]
      have := h3 j j5
      have hn : ¬ (j + 5 - i) % 5 < k := by split at hj <;> omega
      have hp : (j + 5 - i) % 5 < k + 1 := by split at hj <;> omega
      rw [if_neg hn] at this
      rw [if_pos hp]
      omega
    · rw [gs_ne e]
      have := h3 q hq
      by_cases hq1 : (q + 5 - i) % 5 < k
      · rw [if_pos hq1] at this
        rw [if_pos (by omega)]
        exact this
      · have hn : ¬ (q + 5 - i) % 5 < k + 1 := by split at hj <;> omega
        rw [if_neg hq1] at this
        rw [if_neg hn]
        exact this
set_option maxRecDepth 100000 in
theorem mul_next {ns rs out : List Nat} {i : Nat} (h : MulP ns rs out i 5) (hi : i < 5) (hn : ns.length = 5) (hr : rs.length = 5) : MulP ns rs out (i + 1) 0 := by
  obtain ⟨h1, h2, h3⟩ := h
  refine ⟨h1, ?_, fun q hq => ?_⟩
  · have e : rs.take 5 = rs := List.take_of_length_le (by omega)
    rw [e] at h2
    rw [h2, lv_take_succ ns (i := i) (by omega), Nat.add_mul, Nat.mul_comm (67108864 ^ i)]
    simp [lv]
  · have := h3 q hq
    rw [Nat.add_mul, Nat.one_mul]
    rw [if_neg (by omega)]
    split at this <;> omega
theorem mul_zero (ns rs : List Nat) : MulP ns rs (List.replicate 5 0) 0 0 := ⟨by simp, by rw [lv_zeros]; simp [lv], fun q _ => by rw [List.getD, List.getElem?_replicate]; split <;> simp⟩
theorem mul_all {ns rs out : List Nat} (h : MulP ns rs out 5 0) (hn : ns.length = 5) : out.length = 5 ∧ lv out % p130 = lv ns * lv rs % p130 ∧ ∀ q, q < 5 → out.getD q 0 ≤ 1152921504606846976 := by
  obtain ⟨h1, h2, h3⟩ := h
  refine ⟨h1, ?_, fun q hq => ?_⟩
  · rw [List.take_of_length_le (by omega)] at h2
    rw [h2]
    simp [lv]
  · have := h3 q hq
    rw [if_neg (by omega)] at this
    have e : 5 * mlC ≤ 1152921504606846976 := by decide
    omega
/-- What is left of a number by the modulus, or that and the modulus: limbs of 26 bits, but that one may have some more. -/
def RedP (R : List Nat) : Prop := R.length = 5 ∧ (∀ q, q < 5 → R.getD q 0 < 67112960) ∧ lv R < 2 * p130
theorem red_zero : RedP (List.replicate 5 0) := ⟨by simp, fun q _ => by rw [List.getD, List.getElem?_replicate]; split <;> simp, by rw [lv_zeros]; decide⟩
theorem red_of {out : List Nat} {c V a b : Nat} (h : HanP out c 5 V) (ha : a = out.getD 0 0) (hb : b = out.getD 1 0) : RedP ((out.set 0 ((a + c * 5) % 67108864)).set 1 (b + (a + c * 5) / 67108864)) ∧ lv ((out.set 0 ((a + c * 5) % 67108864)).set 1 (b + (a + c * 5) / 67108864)) % p130 = V % p130 := by
  have hlt := han_lt h
  obtain ⟨h1, h2, h3, h4, h5⟩ := h
  obtain ⟨a', b', x, y, z, rfl⟩ := five h1
  obtain rfl : a = a' := ha
  obtain rfl : b = b' := hb
  have a1 : a < 67108864 := h3 0 (by omega) (by omega)
  have a2 : b < 67108864 := h3 1 (by omega) (by omega)
  have a3 : x < 67108864 := h3 2 (by omega) (by omega)
  have a4 : y < 67108864 := h3 3 (by omega) (by omega)
  have a5 : z < 67108864 := h3 4 (by omega) (by omega)
  have e : ([a, b, x, y, z].set 0 ((a + c * 5) % 67108864)).set 1 (b + (a + c * 5) / 67108864) = [(a + c * 5) % 67108864, b + (a + c * 5) / 67108864, x, y, z] := rfl
  rw [e]
  have e2 : lv [(a + c * 5) % 67108864, b + (a + c * 5) / 67108864, x, y, z] = lv [a, b, x, y, z] + c * 5 := by
    rw [lv_five, lv_five]
    omega
  refine ⟨⟨rfl, fun q hq => ?_, ?_⟩, ?_⟩
  · match q, hq with
    | 0, _ => show (a + c * 5) % 67108864 < _; omega
    | 1, _ => show b + (a + c * 5) / 67108864 < _; omega
    | 2, _ => show x < _; omega
    | 3, _ => show y < _; omega
    | 4, _ => show z < _; omega
  · rw [e2]
    have : 5 + 5 * 34359738368 < p130 := by decide
    omega
  · rw [e2, ← h2, b5_eq, Nat.mul_add, Nat.mul_comm c p130, ← Nat.add_assoc, Nat.add_right_comm, Nat.add_mul_mod_self_left]
/-- The lowest of the numbers that are told apart from one by the modulus alone. -/
theorem rest_of {R out : List Nat} {c a : Nat} (h : RedP R) (ha : a = R.getD 0 0) (hh : HanP out c 5 (lv (R.set 0 (a + 5)))) : (c = 0 ∧ lv R = lv R % p130) ∨ (c = 1 ∧ lv out = lv R % p130) := by
  have hlt := han_lt hh
  obtain ⟨h1, h2, h3⟩ := h
  have hs := lv_set R 0 5 (by omega)
  rw [← ha, Nat.pow_zero, Nat.mul_one] at hs
  have hv := hh.2.1
  rw [hs, b5_eq] at hv
  obtain ⟨X, hX⟩ : ∃ X, X = lv R := ⟨_, rfl⟩
  obtain ⟨Y, hY⟩ : ∃ Y, Y = lv out := ⟨_, rfl⟩
  rw [← hX] at hv h3 ⊢
  rw [← hY] at hv hlt ⊢
  obtain ⟨p, hp⟩ : ∃ p, p = p130 := ⟨_, rfl⟩
  have p5 : 5 < p := by rw [hp]; decide
  rw [← hp] at hv h3 hlt ⊢
  have hc : c = 0 ∨ c = 1 ∨ 2 ≤ c := by omega
  rcases hc with rfl | rfl | hc
  · left
    refine ⟨rfl, (Nat.mod_eq_of_lt (by omega)).symm⟩
  · right
    refine ⟨rfl, ?_⟩
    rw [Nat.mod_eq_sub_mod (by omega), Nat.mod_eq_of_lt (by omega)]
    omega
  · exfalso
    have : 2 * (p + 5) ≤ c * (p + 5) := Nat.mul_le_mul_right _ hc
    omega
/-- The limbs of a number. -/
def lim (N : Nat) : List Nat := (List.range 5).map fun q => N / 67108864 ^ q % 67108864
theorem lim_length (N : Nat) : (lim N).length = 5 := by simp [lim]
theorem lim_get (N : Nat) {q : Nat} (h : q < 5) : (lim N).getD q 0 = N / 67108864 ^ q % 67108864 := by simp [lim, List.getD, h]
theorem lim_lt (N : Nat) {q : Nat} (h : q < 5) : (lim N).getD q 0 < 67108864 := by rw [lim_get N h]; exact Nat.mod_lt _ (by decide)
theorem lv_lim (N : Nat) : lv (lim N) = N % (p130 + 5) := by
  have e : lim N = [N % 67108864, N / 67108864 % 67108864, N / 4503599627370496 % 67108864, N / 302231454903657293676544 % 67108864, N / 20282409603651670423947251286016 % 67108864] := by simp [lim, show List.range 5 = [0, 1, 2, 3, 4] from rfl]
  rw [e, lv_five, ← b5_eq]
  show _ = N % 1361129467683753853853498429727072845824
  omega
/-- Four bytes have the limb among them. -/
theorem lim_word (xs : List UInt8) (_hl : xs.length = 17) {i : Nat} (hi : i < 5) : numB ((xs.drop (26 * i / 8)).take 4) / 2 ^ (26 * i % 8) % 67108864 = numB xs / 67108864 ^ i % 67108864 := by
  have hd : ∀ (ys : List UInt8) (a : Nat), numB (ys.drop a) = numB ys / 256 ^ a := by
    intro ys
    induction ys with
    | nil => intro a; simp [numB]
    | cons y r ih =>
      intro a
      have hy := y.toNat_lt
      cases a with
      | zero => simp
      | succ a =>
        rw [List.drop_succ_cons, ih, numB, Nat.pow_succ, Nat.mul_comm (256 ^ a), ← Nat.div_div_eq_div_mul]
        congr 1
        omega
  have ht : ∀ (ys : List UInt8) (a : Nat), numB (ys.take a) = numB ys % 256 ^ a := by
    intro ys
    induction ys with
    | nil => intro a; simp [numB]
    | cons y r ih =>
      intro a
      have hy := y.toNat_lt
      cases a with
      | zero => simp [numB, Nat.mod_one]
      | succ a =>
        have e1 : (y.toNat + 256 * numB r) / 256 = numB r := by omega
        have e2 : (y.toNat + 256 * numB r) % 256 = y.toNat := by omega
        rw [List.take_succ_cons, numB, ih, numB, Nat.pow_succ, Nat.mul_comm (256 ^ a), Nat.mod_mul, e1, e2]
  rw [ht, hd]
  obtain ⟨N, hN⟩ : ∃ N, N = numB xs := ⟨_, rfl⟩
  rw [← hN]
  match i, hi with
  | 0, _ => simp <;> omega
  | 1, _ => simp <;> omega
  | 2, _ => simp <;> omega
  | 3, _ => simp <;> omega
  | 4, _ => simp <;> omega
theorem leB_append (a b n : Nat) : leB (a + b) n = leB a n ++ leB b (n / 256 ^ a) := by
  induction a generalizing n with
  | zero => simp [leB]
  | succ a ih => rw [Nat.succ_add, leB, ih, leB, List.cons_append, Nat.pow_succ, Nat.div_div_eq_div_mul, Nat.mul_comm 256]
theorem leB_low (k n m : Nat) (h : n % 256 ^ k = m % 256 ^ k) : leB k n = leB k m := by
  have e : ∀ (k n : Nat), leB k (n % 256 ^ k) = leB k n := by
    intro k
    induction k with
    | zero => intro n; rfl
    | succ k ih => intro n; rw [leB, leB, Nat.pow_succ, Nat.mul_comm (256 ^ k) 256, Nat.mod_mul_right_mod, Nat.mod_mul_right_div_self, ih]
  rw [← e k n, h, e k m]
/-- The two halves of a number of five limbs. -/
def lowN (a b c : Nat) : Nat := (a + 67108864 * b + 4503599627370496 * c) % 18446744073709551616
def highN (c d e : Nat) : Nat := (c / 4096 + 16384 * d + 1099511627776 * e) % 18446744073709551616
theorem halves_leB (a b c d e : Nat) (ha : a < 67108864) (hb : b < 67108864) (_hc : c < 67108864) : leB 8 (lowN a b c) ++ leB 8 (highN c d e) = leB 16 (lv [a, b, c, d, e]) := by
  have e1 := leB_append 8 8 (lv [a, b, c, d, e])
  rw [show 8 + 8 = 16 from rfl] at e1
  rw [e1, lv_five]
  congr 1
  · apply leB_low
    unfold lowN
    show _ % 18446744073709551616 = _ % 18446744073709551616
    omega
  · apply leB_low
    unfold highN
    show _ % 18446744073709551616 = _ / 18446744073709551616 % 18446744073709551616
    omega
theorem leB_rest {out : List Nat} {c V : Nat} (h : HanP out c 5 V) : leB 16 (lv out) = leB 16 V := by
  apply leB_low
  have := h.2.1
  rw [← this]
  show _ % 340282366920938463463374607431768211456 = (_ + _ * 1361129467683753853853498429727072845824) % 340282366920938463463374607431768211456
  omega
end Go.Proofs.Ytlcpplnajaldgaa
