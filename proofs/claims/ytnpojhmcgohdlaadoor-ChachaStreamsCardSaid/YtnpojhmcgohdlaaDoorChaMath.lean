/- Plain arithmetic of the published stream ChaCha20, with no program in sight. No condition of its own. -/
import Derived.Test.YtnpojhmcgohdlaaDoorForm
import Derived.Test.YtnpojhmcgohdlaaDoorNumber
import Derived.Test.YtnpojhmcgohdlaaDoorW32
namespace Go.Proofs.YtnpojhmcgohdlaaDoor
open Go.RowKit

/-- A word turned to the left by one place; by k places. -/
def rl1 (n : Nat) : Nat := (n * 2 + n / 2147483648) % 4294967296
def rlN : Nat → Nat → Nat
  | 0, n => n
  | k + 1, n => rl1 (rlN k n)
theorem rlN_lt {n : Nat} (h : n < 4294967296) (k : Nat) : rlN k n < 4294967296 := by
  cases k with
  | zero => exact h
  | succ k => exact Nat.mod_lt _ (by omega)
/-- Sixteen words that fit. -/
def okW (ws : List Nat) : Prop := ws.length = 16 ∧ ∀ x ∈ ws, x < 4294967296
theorem okW.at {ws : List Nat} (h : okW ws) (j : Nat) : ws.getD j 0 < 4294967296 := by
  rw [List.getD]
  cases hj : ws[j]? with
  | none => simp
  | some x => exact h.2 x (List.mem_of_getElem? hj)
theorem okW.set {ws : List Nat} (h : okW ws) (j : Nat) {x : Nat} (hx : x < 4294967296) : okW (ws.set j x) := by
  refine ⟨by rw [List.length_set]; exact h.1, fun y hy => ?_⟩
  rcases List.mem_or_eq_of_mem_set hy with h1 | rfl
  · exact h.2 y h1
  · exact hx
def addW (ws : List Nat) (p q : Nat) : List Nat := ws.set p ((ws.getD p 0 + ws.getD q 0) % 4294967296)
def rotW (ws : List Nat) (p q n : Nat) : List Nat := ws.set p (rlN n (ws.getD p 0 ^^^ ws.getD q 0))
theorem addW_ok {ws : List Nat} (h : okW ws) (p q : Nat) : okW (addW ws p q) := h.set p (Nat.mod_lt _ (by omega))
theorem rotW_ok {ws : List Nat} (h : okW ws) (p q n : Nat) : okW (rotW ws p q n) := h.set p (rlN_lt (xor_lt32 (h.at p) (h.at q)) n)
/-- Four words through a quarter. -/
def quart (ws : List Nat) (a b c d : Nat) : List Nat := rotW (addW (rotW (addW (rotW (addW (rotW (addW ws a b) d a 16) c d) b c 12) a b) d a 8) c d) b c 7
theorem quart_ok {ws : List Nat} (h : okW ws) (a b c d : Nat) : okW (quart ws a b c d) := rotW_ok (addW_ok (rotW_ok (addW_ok (rotW_ok (addW_ok (rotW_ok (addW_ok h _ _) _ _ _) _ _) _ _ _) _ _) _ _ _) _ _) _ _ _
/-- The first c columns; the first d diagonals; j times both. -/
def colN (ws : List Nat) : Nat → List Nat
  | 0 => ws
  | c + 1 => quart (colN ws c) c (4 + c) (8 + c) (12 + c)
def diaN (ws : List Nat) : Nat → List Nat
  | 0 => ws
  | d + 1 => quart (diaN ws d) d (4 + (d + 1) % 4) (8 + (d + 2) % 4) (12 + (d + 3) % 4)
def dblN (ws : List Nat) : Nat → List Nat
  | 0 => ws
  | j + 1 => diaN (colN (dblN ws j) 4) 4
theorem colN_ok {ws : List Nat} (h : okW ws) (c : Nat) : okW (colN ws c) := by
  induction c with
  | zero => exact h
  | succ c ih => exact quart_ok ih _ _ _ _
theorem diaN_ok {ws : List Nat} (h : okW ws) (c : Nat) : okW (diaN ws c) := by
  induction c with
  | zero => exact h
  | succ c ih => exact quart_ok ih _ _ _ _
theorem dblN_ok {ws : List Nat} (h : okW ws) (c : Nat) : okW (dblN ws c) := by
  induction c with
  | zero => exact h
  | succ c ih => exact diaN_ok (colN_ok ih 4) 4
/-- The first i words of bytes, the lowest byte first. -/
def wLE (m : List UInt8) : Nat → List Nat
  | 0 => []
  | i + 1 => wLE m i ++ [numB ((m.drop (4 * i)).take 4)]
theorem numB4_lt (m : List UInt8) (i : Nat) : numB ((m.drop i).take 4) < 4294967296 := by
  have h := numB_lt ((m.drop i).take 4)
  have h2 : (256 : Nat) ^ ((m.drop i).take 4).length ≤ 256 ^ 4 := Nat.pow_le_pow_right (by omega) (by rw [List.length_take]; omega)
  omega
theorem wLE_length (m : List UInt8) (i : Nat) : (wLE m i).length = i := by
  induction i with
  | zero => rfl
  | succ i ih => simp [wLE, ih]
theorem wLE_ok (m : List UInt8) : okW (wLE m 16) := by
  refine ⟨wLE_length m 16, ?_⟩
  have h : ∀ i, ∀ x ∈ wLE m i, x < 4294967296 := by
    intro i
    induction i with
    | zero => intro x hx; simp [wLE] at hx
    | succ i ih =>
      intro x hx
      rw [wLE, List.mem_append, List.mem_singleton] at hx
      rcases hx with hx | rfl
      · exact ih x hx
      · exact numB4_lt m _
  exact h 16
/-- What the words are made of. -/
def chaSign : List UInt8 := [101, 120, 112, 97, 110, 100, 32, 51, 50, 45, 98, 121, 116, 101, 32, 107]
def chaIn (k : List UInt8) (n : Nat) (nonce : List UInt8) : List UInt8 := chaSign ++ k ++ leB 4 n ++ nonce
theorem chaIn_length {k nonce : List UInt8} (hk : k.length = 32) (hn : nonce.length = 12) (n : Nat) : (chaIn k n nonce).length = 64 := by
  simp [chaIn, chaSign, leB_length, hk, hn]
def chaOut (s w : List Nat) : Nat → List UInt8
  | 0 => []
  | i + 1 => chaOut s w i ++ leB 4 ((w.getD i 0 + s.getD i 0) % 4294967296)
theorem chaOut_length (s w : List Nat) (i : Nat) : (chaOut s w i).length = 4 * i := by
  induction i with
  | zero => rfl
  | succ i ih => rw [chaOut, List.length_append, ih, leB_length]; omega
def chaStart (k : List UInt8) (n : Nat) (nonce : List UInt8) : List Nat := wLE (chaIn k n nonce) 16
/-- The block. -/
def chaBlock (k : List UInt8) (n : Nat) (nonce : List UInt8) : List UInt8 := chaOut (chaStart k n nonce) (dblN (chaStart k n nonce) 10) 16
theorem chaBlock_length (k : List UInt8) (n : Nat) (nonce : List UInt8) : (chaBlock k n nonce).length = 64 := chaOut_length _ _ _
/-- The stream's byte at a place; the bytes with it. -/
def chaS (k nonce : List UInt8) (n i : Nat) : UInt8 := (chaBlock k ((n + i / 64) % 4294967296) nonce).getD (i % 64) 0
def chaXor (k nonce : List UInt8) (n : Nat) (b : List UInt8) : List UInt8 := b.mapIdx fun i x => x ^^^ chaS k nonce n i
theorem chaXor_length (k nonce : List UInt8) (n : Nat) (b : List UInt8) : (chaXor k nonce n b).length = b.length := by simp [chaXor]
theorem chaXor_twice (k nonce : List UInt8) (n : Nat) (b : List UInt8) : chaXor k nonce n (chaXor k nonce n b) = b := by
  apply List.ext_getElem
  · simp [chaXor]
  · intro i h1 h2
    simp [chaXor, UInt8.xor_assoc]
/-- A row of bytes in two. -/
theorem chaXor_parts (k nonce : List UInt8) (n : Nat) (b : List UInt8) (h : 64 ≤ b.length) : chaXor k nonce n b = chaXor k nonce n (b.take 64) ++ chaXor k nonce ((n + 1) % 4294967296) (b.drop 64) := by
  apply List.ext_getElem
  · simp [chaXor]; omega
  · intro i h1 h2
    rcases Nat.lt_or_ge i 64 with h3 | h3
    · rw [List.getElem_append_left (by simp [chaXor]; omega)]
      simp [chaXor]
    · have h4 : (chaXor k nonce n (b.take 64)).length = 64 := by simp [chaXor]; omega
      rw [List.getElem_append_right (by omega)]
      simp only [chaXor, List.getElem_mapIdx, List.getElem_drop] at h4 ⊢
      simp only [h4]
      have e1 : 64 + (i - 64) = i := by omega
      have e2 : chaS k nonce ((n + 1) % 4294967296) (i - 64) = chaS k nonce n i := by
        unfold chaS
        rw [show (i - 64) % 64 = i % 64 by omega, show ((n + 1) % 4294967296 + (i - 64) / 64) % 4294967296 = (n + i / 64) % 4294967296 by omega]
      simp only [e1, e2]
theorem chaXor_zero (k nonce : List UInt8) (n i : Nat) (h : n < 4294967296) (b : List UInt8) (hi : i < b.length) (h64 : i < 64) : (chaXor k nonce n b)[i]? = some (b[i] ^^^ (chaBlock k n nonce).getD i 0) := by
  rw [chaXor, List.getElem?_mapIdx, List.getElem?_eq_getElem hi]
  simp only [Option.map_some, chaS, Nat.div_eq_of_lt h64, Nat.mod_eq_of_lt h64, Nat.add_zero, Nat.mod_eq_of_lt h]
theorem cha_awake : chaBlock [0, 1, 2, 3, 4, 5, 6, 7, 8, 9, 10, 11, 12, 13, 14, 15, 16, 17, 18, 19, 20, 21, 22, 23, 24, 25, 26, 27, 28, 29, 30, 31] 1 [0, 0, 0, 9, 0, 0, 0, 74, 0, 0, 0, 0] = [16, 241, 231, 228, 209, 59, 89, 21, 80, 15, 221, 31, 163, 32, 113, 196, 199, 209, 244, 199, 51, 192, 104, 3, 4, 34, 170, 154, 195, 212, 108, 78, 210, 130, 100, 70, 7, 159, 170, 9, 20, 194, 215, 5, 217, 139, 2, 162, 181, 18, 156, 209, 222, 22, 78, 185, 203, 208, 131, 232, 162, 80, 60, 78] := by decide +kernel
end Go.Proofs.YtnpojhmcgohdlaaDoor
