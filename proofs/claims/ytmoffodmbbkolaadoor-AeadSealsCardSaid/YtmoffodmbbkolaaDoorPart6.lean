/- Part 6 of the words that the laws share: W32, ChaMath, QMath, Rotl, RTagA, TagG. No condition of its own: each theorem says its own. -/
import Derived.Test.YtmoffodmbbkolaaDoorPart5
import Derived.Test.YtmoffodmbbkolaaDoorPart2
import Derived.Test.YtmoffodmbbkolaaDoorPart3
import Derived.Laws.BitsAllLaws

/- Words of 32 bits: slices and arrays of them. No condition of its own. -/
namespace Go.Proofs.YtmoffodmbbkolaaDoor
open Go.RowKit

theorem info_w32 : (Tryd.prog.info? 47).map (fun i => (i.zero, i.size, i.bytes)) = some (some (.int .u32 0), 1, 4) := by kernel_rfl
def wv (n : Nat) : Value := .int .u32 (n : Int)
/-- The value v is a slice of uint32 at the head of a block, that reads as the words ds. -/
def Rw (w : World) (v : Value) (ds : List Nat) : Prop :=
  ∃ g c, v = .slice (some ⟨g, 0, none⟩) ds.length c ∧ ds.length ≤ c ∧ c ≤ maxLen ∧ g < w.heap.size ∧ ∀ i (h : i < ds.length), w.cell? ⟨g, i, none⟩ = some (.int .u32 ((ds[i] : Nat) : Int))
theorem Rw.below {w w' : World} {v : Value} {ds : List Nat} (h : Rw w v ds) (hb : Below w.heap.size w w') : Rw w' v ds := by
  obtain ⟨g, c, h1, h2, h3, h4, h5⟩ := h
  exact ⟨g, c, h1, h2, h3, Nat.lt_of_lt_of_le h4 hb.size, fun i hi => (hb.cell (p := ⟨g, i, none⟩) h4).trans (h5 i hi)⟩
theorem Rw.drewN {w : World} {v : Value} {ds : List Nat} (h : Rw w v ds) (n : Nat) : Rw (w.drewN n) v ds := h
theorem rw_lit {w : World} {t : TypeId} {ds : List Nat} (hl : ds.length ≤ 1000) : Rw (w.alloc (.cells (ds.map wv).toArray t)) (.slice (some ⟨w.heap.size, 0, none⟩) ds.length ds.length) ds := by
  refine ⟨w.heap.size, ds.length, rfl, by omega, by unfold maxLen; omega, by simp, fun i hi => ?_⟩
  rw [World.cell?_alloc_new]
  simp [hi, wv]
theorem rw_of_own {w : World} {B n : Nat} {v : Value} {ds : List Nat} (h : w.ownsRow B 47 1 v n (ds.map wv)) (hn : 0 < n) : Rw w v ds := by
  obtain ⟨g, c, rfl, h1, h2⟩ := own_form h hn
  have hl : ds.length = n := by simpa using h.1
  refine ⟨g, c, by rw [hl], by omega, h2, (h.lt g rfl).2, fun i hi => ?_⟩
  rw [h.cellAt i (by omega), List.getElem?_map, List.getElem?_eq_getElem hi]
  rfl
theorem xor_lt32 {a b : Nat} (ha : a < 4294967296) (hb : b < 4294967296) : a ^^^ b < 4294967296 := Nat.xor_lt_two_pow (n := 32) ha hb
theorem and_lt32 {a b : Nat} (ha : a < 4294967296) : a &&& b < 4294967296 := Nat.lt_of_le_of_lt Nat.and_le_left ha
/-- The exclusive or of two bytes. -/
theorem xor_u8 (x c : UInt8) : Value.int .u8 (bits .xor .u8 (x.toNat : Int) (c.toNat : Int)) = bv (x ^^^ c) := by
  unfold bv
  rw [u8_xor_nat _ _ x.toNat_lt c.toNat_lt, UInt8.toNat_xor]
/-- The value of a row of words that is an array. -/
def wordsV (ds : List Nat) : Value := .agg (ds.map wv).toArray
theorem wv_one (ds : List Nat) : ∀ u ∈ ds.map wv, u.oneCell' = true := by
  intro u hu
  obtain ⟨b, _, rfl⟩ := List.mem_map.1 hu
  rfl
end Go.Proofs.YtmoffodmbbkolaaDoor

/- Plain arithmetic of the published stream ChaCha20, with no program in sight. No condition of its own. -/
namespace Go.Proofs.YtmoffodmbbkolaaDoor
open Go.RowKit

/-- A word turned to the left by one place; by k places. -/
def rl1 (n : Nat) : Nat := (n * 2 + n / 2147483648) % 4294967296
def rlN : Nat → Nat → Nat
  | 0, n => n
  | k + 1, n => rl1 (rlN k n)
theorem rlN_lt {n : Nat} (h : n < 4294967296) (k : Nat) : rlN k n < 4294967296 := by
  cases k with
  | zero => exact h
  | succ k => exact Nat.mod_lt _ (by omega)
/-- Sixteen words that fit. -/
def okW (ws : List Nat) : Prop := ws.length = 16 ∧ ∀ x ∈ ws, x < 4294967296
theorem okW.at {ws : List Nat} (h : okW ws) (j : Nat) : ws.getD j 0 < 4294967296 := by
  rw [List.getD]
  cases hj : ws[j]? with
  | none => simp
  | some x => exact h.2 x (List.mem_of_getElem? hj)
theorem okW.set {ws : List Nat} (h : okW ws) (j : Nat) {x : Nat} (hx : x < 4294967296) : okW (ws.set j x) := by
  refine ⟨by rw [List.length_set]; exact h.1, fun y hy => ?_⟩
  rcases List.mem_or_eq_of_mem_set hy with h1 | rfl
  · exact h.2 y h1
  · exact hx
def addW (ws : List Nat) (p q : Nat) : List Nat := ws.set p ((ws.getD p 0 + ws.getD q 0) % 4294967296)
def rotW (ws : List Nat) (p q n : Nat) : List Nat := ws.set p (rlN n (ws.getD p 0 ^^^ ws.getD q 0))
theorem addW_ok {ws : List Nat} (h : okW ws) (p q : Nat) : okW (addW ws p q) := h.set p (Nat.mod_lt _ (by omega))
theorem rotW_ok {ws : List Nat} (h : okW ws) (p q n : Nat) : okW (rotW ws p q n) := h.set p (rlN_lt (xor_lt32 (h.at p) (h.at q)) n)
/-- Four words through a quarter. -/
def quart (ws : List Nat) (a b c d : Nat) : List Nat := rotW (addW (rotW (addW (rotW (addW (rotW (addW ws a b) d a 16) c d) b c 12) a b) d a 8) c d) b c 7
theorem quart_ok {ws : List Nat} (h : okW ws) (a b c d : Nat) : okW (quart ws a b c d) := rotW_ok (addW_ok (rotW_ok (addW_ok (rotW_ok (addW_ok (rotW_ok (addW_ok h _ _) _ _ _) _ _) _ _ _) _ _) _ _ _) _ _) _ _ _
/-- The first c columns; the first d diagonals; j times both. -/
def colN (ws : List Nat) : Nat → List Nat
  | 0 => ws
  | c + 1 => quart (colN ws c) c (4 + c) (8 + c) (12 + c)
def diaN (ws : List Nat) : Nat → List Nat
  | 0 => ws
  | d + 1 => quart (diaN ws d) d (4 + (d + 1) % 4) (8 + (d + 2) % 4) (12 + (d + 3) % 4)
def dblN (ws : List Nat) : Nat → List Nat
  | 0 => ws
  | j + 1 => diaN (colN (dblN ws j) 4) 4
theorem colN_ok {ws : List Nat} (h : okW ws) (c : Nat) : okW (colN ws c) := by
  induction c with
  | zero => exact h
  | succ c ih => exact quart_ok ih _ _ _ _
theorem diaN_ok {ws : List Nat} (h : okW ws) (c : Nat) : okW (diaN ws c) := by
  induction c with
  | zero => exact h
  | succ c ih => exact quart_ok ih _ _ _ _
theorem dblN_ok {ws : List Nat} (h : okW ws) (c : Nat) : okW (dblN ws c) := by
  induction c with
  | zero => exact h
  | succ c ih => exact diaN_ok (colN_ok ih 4) 4
/-- The first i words of bytes, the lowest byte first. -/
def wLE (m : List UInt8) : Nat → List Nat
  | 0 => []
  | i + 1 => wLE m i ++ [numB ((m.drop (4 * i)).take 4)]
theorem numB4_lt (m : List UInt8) (i : Nat) : numB ((m.drop i).take 4) < 4294967296 := by
  have h := numB_lt ((m.drop i).take 4)
  have h2 : (256 : Nat) ^ ((m.drop i).take 4).length ≤ 256 ^ 4 := Nat.pow_le_pow_right (by omega) (by rw [List.length_take]; omega)
  omega
theorem wLE_length (m : List UInt8) (i : Nat) : (wLE m i).length = i := by
  induction i with
  | zero => rfl
  | succ i ih => simp [wLE, ih]
theorem wLE_ok (m : List UInt8) : okW (wLE m 16) := by
  refine ⟨wLE_length m 16, ?_⟩
  have h : ∀ i, ∀ x ∈ wLE m i, x < 4294967296 := by
    intro i
    induction i with
    | zero => intro x hx; simp [wLE] at hx
    | succ i ih =>
      intro x hx
      rw [wLE, List.mem_append, List.mem_singleton] at hx
      rcases hx with hx | rfl
      · exact ih x hx
      · exact numB4_lt m _
  exact h 16
/-- What the words are made of. -/
def chaSign : List UInt8 := [101, 120, 112, 97, 110, 100, 32, 51, 50, 45, 98, 121, 116, 101, 32, 107]
def chaIn (k : List UInt8) (n : Nat) (nonce : List UInt8) : List UInt8 := chaSign ++ k ++ leB 4 n ++ nonce
theorem chaIn_length {k nonce : List UInt8} (hk : k.length = 32) (hn : nonce.length = 12) (n : Nat) : (chaIn k n nonce).length = 64 := by
  simp [chaIn, chaSign, leB_length, hk, hn]
def chaOut (s w : List Nat) : Nat → List UInt8
  | 0 => []
  | i + 1 => chaOut s w i ++ leB 4 ((w.getD i 0 + s.getD i 0) % 4294967296)
theorem chaOut_length (s w : List Nat) (i : Nat) : (chaOut s w i).length = 4 * i := by
  induction i with
  | zero => rfl
  | succ i ih => rw [chaOut, List.length_append, ih, leB_length]; omega
def chaStart (k : List UInt8) (n : Nat) (nonce : List UInt8) : List Nat := wLE (chaIn k n nonce) 16
/-- The block. -/
def chaBlock (k : List UInt8) (n : Nat) (nonce : List UInt8) : List UInt8 := chaOut (chaStart k n nonce) (dblN (chaStart k n nonce) 10) 16
theorem chaBlock_length (k : List UInt8) (n : Nat) (nonce : List UInt8) : (chaBlock k n nonce).length = 64 := chaOut_length _ _ _
/-- The stream's byte at a place; the bytes with it. -/
def chaS (k nonce : List UInt8) (n i : Nat) : UInt8 := (chaBlock k ((n + i / 64) % 4294967296) nonce).getD (i % 64) 0
def chaXor (k nonce : List UInt8) (n : Nat) (b : List UInt8) : List UInt8 := b.mapIdx fun i x => x ^^^ chaS k nonce n i
theorem chaXor_length (k nonce : List UInt8) (n : Nat) (b : List UInt8) : (chaXor k nonce n b).length = b.length := by simp [chaXor]
theorem chaXor_twice (k nonce : List UInt8) (n : Nat) (b : List UInt8) : chaXor k nonce n (chaXor k nonce n b) = b := by
  apply List.ext_getElem
  · simp [chaXor]
  · intro i h1 h2
    simp [chaXor, UInt8.xor_assoc]
/-- A row of bytes in two. -/
theorem chaXor_parts (k nonce : List UInt8) (n : Nat) (b : List UInt8) (h : 64 ≤ b.length) : chaXor k nonce n b = chaXor k nonce n (b.take 64) ++ chaXor k nonce ((n + 1) % 4294967296) (b.drop 64) := by
  apply List.ext_getElem
  · simp [chaXor]; omega
  · intro i h1 h2
    rcases Nat.lt_or_ge i 64 with h3 | h3
    · rw [List.getElem_append_left (by simp [chaXor]; omega)]
      simp [chaXor]
    · have h4 : (chaXor k nonce n (b.take 64)).length = 64 := by simp [chaXor]; omega
      rw [List.getElem_append_right (by omega)]
      simp only [chaXor, List.getElem_mapIdx, List.getElem_drop] at h4 ⊢
      simp only [h4]
      have e1 : 64 + (i - 64) = i := by omega
      have e2 : chaS k nonce ((n + 1) % 4294967296) (i - 64) = chaS k nonce n i := by
        unfold chaS
        rw [show (i - 64) % 64 = i % 64 by omega, show ((n + 1) % 4294967296 + (i - 64) / 64) % 4294967296 = (n + i / 64) % 4294967296 by omega]
      simp only [e1, e2]
theorem chaXor_zero (k nonce : List UInt8) (n i : Nat) (h : n < 4294967296) (b : List UInt8) (hi : i < b.length) (h64 : i < 64) : (chaXor k nonce n b)[i]? = some (b[i] ^^^ (chaBlock k n nonce).getD i 0) := by
  rw [chaXor, List.getElem?_mapIdx, List.getElem?_eq_getElem hi]
  simp only [Option.map_some, chaS, Nat.div_eq_of_lt h64, Nat.mod_eq_of_lt h64, Nat.add_zero, Nat.mod_eq_of_lt h]
theorem cha_awake : chaBlock [0, 1, 2, 3, 4, 5, 6, 7, 8, 9, 10, 11, 12, 13, 14, 15, 16, 17, 18, 19, 20, 21, 22, 23, 24, 25, 26, 27, 28, 29, 30, 31] 1 [0, 0, 0, 9, 0, 0, 0, 74, 0, 0, 0, 0] = [16, 241, 231, 228, 209, 59, 89, 21, 80, 15, 221, 31, 163, 32, 113, 196, 199, 209, 244, 199, 51, 192, 104, 3, 4, 34, 170, 154, 195, 212, 108, 78, 210, 130, 100, 70, 7, 159, 170, 9, 20, 194, 215, 5, 217, 139, 2, 162, 181, 18, 156, 209, 222, 22, 78, 185, 203, 208, 131, 232, 162, 80, 60, 78] := by decide +kernel
end Go.Proofs.YtmoffodmbbkolaaDoor

/- Plain arithmetic: a quarter by its four values. No condition of its own. -/
namespace Go.Proofs.YtmoffodmbbkolaaDoor
open Go.RowKit

theorem gd_self {l : List Nat} {p v : Nat} (h : p < l.length) : (l.set p v).getD p 0 = v := by
  rw [List.getD, List.getElem?_set_self h]; rfl
theorem gd_ne {l : List Nat} {p q v : Nat} (h : p ≠ q) : (l.set p v).getD q 0 = l.getD q 0 := by
  rw [List.getD, List.getD, List.getElem?_set_ne h]
/-- The four words behind a quarter. -/
def qA1 (x y : Nat) : Nat := (x + y) % 4294967296
def qD1 (x y u : Nat) : Nat := rlN 16 (u ^^^ qA1 x y)
def qC1 (x y z u : Nat) : Nat := (z + qD1 x y u) % 4294967296
def qB1 (x y z u : Nat) : Nat := rlN 12 (y ^^^ qC1 x y z u)
def qA2 (x y z u : Nat) : Nat := (qA1 x y + qB1 x y z u) % 4294967296
def qD2 (x y z u : Nat) : Nat := rlN 8 (qD1 x y u ^^^ qA2 x y z u)
def qC2 (x y z u : Nat) : Nat := (qC1 x y z u + qD2 x y z u) % 4294967296
def qB2 (x y z u : Nat) : Nat := rlN 7 (qB1 x y z u ^^^ qC2 x y z u)
theorem sets8 (l : List Nat) {a b c d : Nat} (hab : a ≠ b) (hac : a ≠ c) (had : a ≠ d) (hbc : b ≠ c) (hbd : b ≠ d) (hcd : c ≠ d) (a1 d1 c1 b1 a2 d2 c2 b2 : Nat) :
    (((((((l.set a a1).set d d1).set c c1).set b b1).set a a2).set d d2).set c c2).set b b2 = (((l.set a a2).set b b2).set c c2).set d d2 := by
  have s1 : ∀ (l : List Nat) (v w : Nat), (l.set b v).set a w = (l.set a w).set b v := fun l v w => List.set_comm _ _ hab.symm
  have s2 : ∀ (l : List Nat) (v w : Nat), (l.set c v).set a w = (l.set a w).set c v := fun l v w => List.set_comm _ _ hac.symm
  have s3 : ∀ (l : List Nat) (v w : Nat), (l.set d v).set a w = (l.set a w).set d v := fun l v w => List.set_comm _ _ had.symm
  have s4 : ∀ (l : List Nat) (v w : Nat), (l.set c v).set b w = (l.set b w).set c v := fun l v w => List.set_comm _ _ hbc.symm
  have s5 : ∀ (l : List Nat) (v w : Nat), (l.set d v).set b w = (l.set b w).set d v := fun l v w => List.set_comm _ _ hbd.symm
  have s6 : ∀ (l : List Nat) (v w : Nat), (l.set d v).set c w = (l.set c w).set d v := fun l v w => List.set_comm _ _ hcd.symm
  simp only [s1, s2, s3, s4, s5, s6, List.set_set]
theorem quart_eq {ws : List Nat} {a b c d : Nat} (ha : a < ws.length) (hb : b < ws.length) (hc : c < ws.length) (hd : d < ws.length) (hab : a ≠ b) (hac : a ≠ c) (had : a ≠ d) (hbc : b ≠ c) (hbd : b ≠ d) (hcd : c ≠ d)
    {x y z u : Nat} (hx : ws.getD a 0 = x) (hy : ws.getD b 0 = y) (hz : ws.getD c 0 = z) (hu : ws.getD d 0 = u) :
    quart ws a b c d = (((ws.set a (qA2 x y z u)).set b (qB2 x y z u)).set c (qC2 x y z u)).set d (qD2 x y z u) := by
  have e1 : addW ws a b = ws.set a (qA1 x y) := by rw [addW, hx, hy, qA1]
  have e2 : rotW (ws.set a (qA1 x y)) d a 16 = (ws.set a (qA1 x y)).set d (qD1 x y u) := by rw [rotW, gd_self ha, gd_ne had, hu, qD1]
  have e3 : addW ((ws.set a (qA1 x y)).set d (qD1 x y u)) c d = ((ws.set a (qA1 x y)).set d (qD1 x y u)).set c (qC1 x y z u) := by
    rw [addW, gd_self (by rw [List.length_set]; exact hd), gd_ne hcd.symm, gd_ne hac, hz, qC1]
  have e4 : rotW (((ws.set a (qA1 x y)).set d (qD1 x y u)).set c (qC1 x y z u)) b c 12 = (((ws.set a (qA1 x y)).set d (qD1 x y u)).set c (qC1 x y z u)).set b (qB1 x y z u) := by
    rw [rotW, gd_self (by rw [List.length_set, List.length_set]; exact hc), gd_ne hbc.symm, gd_ne hbd.symm, gd_ne hab, hy, qB1]
  have e5 : addW ((((ws.set a (qA1 x y)).set d (qD1 x y u)).set c (qC1 x y z u)).set b (qB1 x y z u)) a b = ((((ws.set a (qA1 x y)).set d (qD1 x y u)).set c (qC1 x y z u)).set b (qB1 x y z u)).set a (qA2 x y z u) := by
    rw [addW, gd_self (by rw [List.length_set, List.length_set, List.length_set]; exact hb), gd_ne hab.symm, gd_ne hac.symm, gd_ne had.symm, gd_self ha, qA2]
  have e6 : rotW (((((ws.set a (qA1 x y)).set d (qD1 x y u)).set c (qC1 x y z u)).set b (qB1 x y z u)).set a (qA2 x y z u)) d a 8 = (((((ws.set a (qA1 x y)).set d (qD1 x y u)).set c (qC1 x y z u)).set b (qB1 x y z u)).set a (qA2 x y z u)).set d (qD2 x y z u) := by
    rw [rotW, gd_self (by rw [List.length_set, List.length_set, List.length_set, List.length_set]; exact ha), gd_ne had, gd_ne hbd, gd_ne hcd, gd_self (by rw [List.length_set]; exact hd), qD2]
  have e7 : addW ((((((ws.set a (qA1 x y)).set d (qD1 x y u)).set c (qC1 x y z u)).set b (qB1 x y z u)).set a (qA2 x y z u)).set d (qD2 x y z u)) c d = ((((((ws.set a (qA1 x y)).set d (qD1 x y u)).set c (qC1 x y z u)).set b (qB1 x y z u)).set a (qA2 x y z u)).set d (qD2 x y z u)).set c (qC2 x y z u) := by
    rw [addW, gd_self (by rw [List.length_set, List.length_set, List.length_set, List.length_set, List.length_set]; exact hd), gd_ne hcd.symm, gd_ne hac, gd_ne hbc, gd_self (by rw [List.length_set, List.length_set]; exact hc), qC2]
  have e8 : rotW (((((((ws.set a (qA1 x y)).set d (qD1 x y u)).set c (qC1 x y z u)).set b (qB1 x y z u)).set a (qA2 x y z u)).set d (qD2 x y z u)).set c (qC2 x y z u)) b c 7 = (((((((ws.set a (qA1 x y)).set d (qD1 x y u)).set c (qC1 x y z u)).set b (qB1 x y z u)).set a (qA2 x y z u)).set d (qD2 x y z u)).set c (qC2 x y z u)).set b (qB2 x y z u) := by
    rw [rotW, gd_self (by rw [List.length_set, List.length_set, List.length_set, List.length_set, List.length_set, List.length_set]; exact hc), gd_ne hbc.symm, gd_ne hbd.symm, gd_ne hab, gd_self (by rw [List.length_set, List.length_set, List.length_set]; exact hb), qB2]
  rw [quart, e1, e2, e3, e4, e5, e6, e7, e8, sets8 ws hab hac had hbc hbd hcd]
end Go.Proofs.YtmoffodmbbkolaaDoor

/- The contract of bits.RotateLeft32: a word turned to the left. Conditions: the word fits uint32; fewer than 32 places. -/
namespace Go.Proofs.YtmoffodmbbkolaaDoor
open Go.RowKit

theorem rl1_sum {q d s : Nat} (h8 : q + s ≤ 2147483648) (h6 : d < s * 2) : ((q + 2147483648 * (d % 2) + d / 2) * 2 + (q + 2147483648 * (d % 2) + d / 2) / 2147483648) % 4294967296 = q * 2 + d := by
  have h : (q + 2147483648 * (d % 2) + d / 2) / 2147483648 = d % 2 := by omega
  rw [h]
  omega
theorem rlN_eq (n k : Nat) (hn : n < 4294967296) (hk : k ≤ 32) : rlN k n = n % 2 ^ (32 - k) * 2 ^ k + n / 2 ^ (32 - k) := by
  induction k with
  | zero => simp only [rlN, Nat.sub_zero, Nat.pow_zero, Nat.mul_one]; omega
  | succ k ih =>
    have e1 : (2 : Nat) ^ (32 - k) = 2 ^ (31 - k) * 2 := by rw [show 32 - k = (31 - k) + 1 by omega, Nat.pow_succ]
    have e2 : (2 : Nat) ^ (31 - k) * 2 ^ k = 2147483648 := by rw [← Nat.pow_add, show 31 - k + k = 31 by omega]
    have hp : 0 < (2 : Nat) ^ (31 - k) := Nat.two_pow_pos _
    have e3 : n / (2 ^ (31 - k) * 2) = n / 2 ^ (31 - k) / 2 := by rw [Nat.div_div_eq_div_mul]
    have e4 : n % (2 ^ (31 - k) * 2) = n % 2 ^ (31 - k) + 2 ^ (31 - k) * (n / 2 ^ (31 - k) % 2) := Nat.mod_mul
    have h5 : n % 2 ^ (31 - k) < 2 ^ (31 - k) := Nat.mod_lt _ hp
    rw [rlN, ih (by omega), e1, e3, e4, show 32 - (k + 1) = 31 - k by omega, Nat.pow_succ, rl1]
    obtain ⟨p, hpd⟩ : ∃ p, p = (2 : Nat) ^ (31 - k) := ⟨_, rfl⟩
    obtain ⟨s, hs⟩ : ∃ s, s = (2 : Nat) ^ k := ⟨_, rfl⟩
    rw [← hpd] at e2 hp h5 ⊢
    rw [← hs] at e2 ⊢
    have h6 : n / p < s * 2 := by
      rw [Nat.div_lt_iff_lt_mul hp]
      have : s * 2 * p = 4294967296 := by rw [Nat.mul_right_comm, Nat.mul_comm s p, e2]
      omega
    obtain ⟨d, hd⟩ : ∃ d, d = n / p := ⟨_, rfl⟩
    obtain ⟨r, hr⟩ : ∃ r, r = n % p := ⟨_, rfl⟩
    rw [← hd] at h6
    rw [← hr] at h5
    rw [← hd, ← hr]
    obtain ⟨q, hq⟩ : ∃ q, q = r * s := ⟨_, rfl⟩
    have e7 : (r + p * (d % 2)) * s = q + 2147483648 * (d % 2) := by
      rw [Nat.add_mul, hq, Nat.mul_right_comm, e2]
    have h8 : q + s ≤ 2147483648 := by
      have h9 := Nat.mul_le_mul_right s (show r + 1 ≤ p by omega)
      rw [Nat.add_mul, Nat.one_mul, ← hq, e2] at h9
      exact h9
    have e8 : r * (s * 2) = q * 2 := by rw [hq, Nat.mul_assoc]
    rw [e7, e8]
    exact rl1_sum h8 h6
theorem rotl_bits {n k : Nat} (hn : n < 4294967296) (hk : k ≤ 32) : bits .or .u32 ((n : Int) * 2 ^ k % 4294967296) ((n : Int) / 2 ^ (32 - k)) = ((rlN k n : Nat) : Int) := by
  have e0 : (4294967296 : Nat) = 2 ^ (32 - k) * 2 ^ k := by rw [← Nat.pow_add, show 32 - k + k = 32 by omega]
  have e1 : (n : Int) / 2 ^ (32 - k) = ((n / 2 ^ (32 - k) : Nat) : Int) := by simp
  have e2 : (n : Int) * 2 ^ k % 4294967296 = ((n % 2 ^ (32 - k) * 2 ^ k : Nat) : Int) := by
    rw [← Nat.mul_mod_mul_right, ← e0]
    simp
  have h1 : n / 2 ^ (32 - k) < 2 ^ k := Nat.div_lt_of_lt_mul (by rw [← e0]; exact hn)
  have h2 : n % 2 ^ (32 - k) * 2 ^ k < 4294967296 := by
    rw [e0]
    exact Nat.mul_lt_mul_of_pos_right (Nat.mod_lt _ (Nat.two_pow_pos _)) (Nat.two_pow_pos _)
  rw [e1, e2, u32_or_nat _ _ h2 (Nat.lt_of_le_of_lt (Nat.div_le_self _ _) hn), nat_join k _ _ (Nat.mul_mod_left _ _) h1, rlN_eq n k hn hk]
theorem and31 {k : Nat} (h : k < 32) : bits .and .u64 (k : Int) 31 = (k : Int) := by
  have h1 := u64_and_nat k 31 (by omega) (by omega)
  rw [show ((31 : Nat) : Int) = 31 from rfl] at h1
  rw [h1, Nat.and_two_pow_sub_one_eq_mod k 5, Nat.mod_eq_of_lt (by omega)]
set_option maxHeartbeats 400000 in
theorem rotl_any (n k : Nat) (w : World) (hn : n < 4294967296) (hk : k < 32) :
    Calls Tryd.prog 48 #[.int .u32 n, .int .i64 k] w fun e w' => e = .returned (.int .u32 (rlN k n : Nat)) ∧ w = w' := by
  have HN := Lib.hid hn
  have h1 : (n : Int) ≤ 4294967295 := by omega
  have h2 : (k : Int) < 32 := by omega
  have h3 := and31 hk
  have h4 : (0 : Int) ≤ 32 - (k : Int) := by omega
  clear hn
  go_enter Tryd.func48, Tryd.ntmps48
  go_wp2_with (fail)
  go_ret
  exact ⟨ret_i (rotl_bits HN.out (by omega)), rfl⟩
/-- The same, at a place that is written out. -/
theorem rotl_k (n k : Nat) (K : Int) (hK : K = (k : Int)) (w : World) (hn : n < 4294967296) (hk : k < 32) : Calls Tryd.prog 48 #[.int .u32 n, .int .i64 K] w fun e w' => e = .returned (.int .u32 (rlN k n : Nat)) ∧ w = w' := hK ▸ rotl_any n k w hn hk
end Go.Proofs.YtmoffodmbbkolaaDoor

/- The fifth reference's Tag: the loop that clamps the key's first half. Condition: a key of 32 bytes. -/
namespace Go.Proofs.YtmoffodmbbkolaaDoor
open Go.RowKit

theorem rB_length {k : List UInt8} (h : k.length = 32) : (rB k).length = 16 := by simp [rB, h]
theorem rB_succ {k : List UInt8} {i : Nat} {c : UInt8} (h : k.length = 32) (hi : i < 16) (hc : k[i]? = some c) : (rB k).take (i + 1) = (rB k).take i ++ [clampC i c] := by
  rw [List.take_succ_eq_append_getElem (by rw [rB_length h]; exact hi)]
  congr 2
  unfold rB
  rw [List.getElem_mapIdx, List.getElem_take]
  rw [List.getElem?_eq_getElem (by omega)] at hc
  rw [Option.some.inj hc]
theorem clampC_a {i : Nat} (c : UInt8) (h : i % 4 = 3) : Value.int .u8 ((c.toNat : Int) % 16) = bv (clampC i c) := by
  unfold bv clampC
  rw [if_pos h, UInt8.toNat_mod]
  exact congrArg (Value.int .u8) (by simp)
theorem clampC_b {i : Nat} (c : UInt8) (h : i % 4 = 0) (h0 : 0 < i) : Value.int .u8 ((c.toNat : Int) / 4 * 4) = bv (clampC i c) := by
  have hc := c.toNat_lt
  unfold bv clampC
  rw [if_neg (by omega), if_pos ⟨h, h0⟩, UInt8.toNat_mul, UInt8.toNat_div]
  refine congrArg (Value.int .u8) ?_
  have e : (4 : UInt8).toNat = 4 := rfl
  rw [e]
  omega
theorem clampC_c {i : Nat} (c : UInt8) (h3 : ¬ i % 4 = 3) (h : ¬ (i % 4 = 0 ∧ 0 < i)) : Value.int .u8 (c.toNat : Int) = bv (clampC i c) := by
  unfold bv clampC
  rw [if_neg h3, if_neg h]
def ClmRel (w : World) (k : List UInt8) (rv v : Value) (W : World) : Prop := ∃ i : Nat, v = .int .i64 (i : Int) ∧ i ≤ 16 ∧ W.ownsRow w.heap.size 5 1 rv i (((rB k).take i).map bv) ∧ Below w.heap.size w W
theorem clm_rel {w wr w' : World} {k : List UInt8} {i : Nat} {c : UInt8} {z : Int} {rv : Value} (hk : k.length = 32) (hi : i < 16) (hc : k[i]? = some c) (hz : Value.int .u8 z = bv (clampC i c)) (bl : Below w.heap.size w wr) (ho : w'.ownsRow w.heap.size 5 1 rv (i + 1) (((rB k).take i).map bv ++ [.int .u8 z])) (hb : Below w.heap.size wr w') : ClmRel w k rv (.int .i64 ((i : Int) + 1)) w' := by
  refine ⟨i + 1, by go_num, by omega, ?_, bl.trans hb⟩
  rw [rB_succ hk hi hc, List.map_append]
  rw [hz] at ho
  exact ho
noncomputable def body_clm : Code := (((Tryd.f24.body.map loopsOf).getD [])[0]?).getD .skip
set_option maxRecDepth 100000 in
set_option maxHeartbeats 2000000 in
theorem clm_loop (c0 c1 c3 c4 c7 c8 c9 c10 c11 c12 c13 c14 c15 c16 c17 c18 c19 c20 c21 c22 c23 c24 c25 c26 c27 c28 c29 c30 c31 c32 c33 c34 c35 c36 c37 c38 c39 c40 c41 c42 c43 c44 c45 c46 c47 c48 c49 c50 c51 c52 c53 c54 c55 c56 c57 c58 c59 c60 c61 c62 c63 c64 c65 c66 c67 c68 c69 c70 c71 c72 c73 c74 c75 c76 c77 c78 c79 c80 c81 c82 c83 c84 c85 c86 c87 c88 c89 c90 c91 c92 c93 c94 c95 c96 c97 c98 c99 c100 c101 c102 c103 c104 c105 c106 c107 c108 c109 c110 c111 c112 c113 c114 c115 c116 c117 c118 c119 c120 c121 c122 c123 c124 c125 c126 c127 c128 c129 c130 c131 c132 c133 c134 c135 c136 c137 c138 c139 c140 c141 c142 c143 c144 c145 c146 c147 c148 c149 c150 c151 c152 c153 c154 c155 c156 c157 c158 c159 c160 c161 c162 c163 c164 c165 c166 c167 c168 c169 c170 c171 c172 c173 c174 c175 c176 c177 c178 c179 c180 c181 c182 c183 c184 c185 c186 c187 c188 c189 c190 : Value) (KB : Nat) (T : TypeId) (k : List UInt8) (w : World) (hk : Hid (k.length = 32)) (hkb : Hid (Blk w KB T (k.map bv))) {Q : Exit → Act → World → Prop}
    (HQ : Hid (∀ (u6 u7 u24 u25 u26 u27 u28 u29 u30 u31 u32 u33 u34 u35 u36 u37 u38 u39 u40 u41 u42 u43 u44 u45 u46 u47 u48 u49 rv : Value) (wx : World), Hid (wx.ownsRow w.heap.size 5 1 rv 16 ((rB k).map bv)) → Hid (Below w.heap.size w wx) → Q (.exit 0) ⟨List.toArray (c0 :: c1 :: (.pointer (some ⟨KB, 0, none⟩)) :: c3 :: c4 :: rv :: u6 :: u7 :: c8 :: c9 :: c10 :: c11 :: c12 :: c13 :: c14 :: c15 :: c16 :: c17 :: c18 :: c19 :: c20 :: c21 :: c22 :: c23 :: u24 :: u25 :: u26 :: u27 :: u28 :: u29 :: u30 :: u31 :: u32 :: u33 :: u34 :: u35 :: u36 :: u37 :: u38 :: u39 :: u40 :: u41 :: u42 :: u43 :: u44 :: u45 :: u46 :: u47 :: u48 :: u49 :: c50 :: c51 :: c52 :: c53 :: c54 :: c55 :: c56 :: c57 :: c58 :: c59 :: c60 :: c61 :: c62 :: c63 :: c64 :: c65 :: c66 :: c67 :: c68 :: c69 :: c70 :: c71 :: c72 :: c73 :: c74 :: c75 :: c76 :: c77 :: c78 :: c79 :: c80 :: c81 :: c82 :: c83 :: c84 :: c85 :: c86 :: c87 :: c88 :: c89 :: c90 :: c91 :: c92 :: c93 :: c94 :: c95 :: c96 :: c97 :: c98 :: c99 :: c100 :: c101 :: c102 :: c103 :: c104 :: c105 :: c106 :: c107 :: c108 :: c109 :: c110 :: c111 :: c112 :: c113 :: c114 :: c115 :: c116 :: c117 :: c118 :: c119 :: c120 :: c121 :: c122 :: c123 :: c124 :: c125 :: c126 :: c127 :: c128 :: c129 :: c130 :: c131 :: c132 :: c133 :: c134 :: c135 :: c136 :: c137 :: c138 :: c139 :: c140 :: c141 :: c142 :: c143 :: c144 :: c145 :: c146 :: c147 :: c148 :: c149 :: c150 :: c151 :: c152 :: c153 :: c154 :: c155 :: c156 :: c157 :: c158 :: c159 :: c160 :: c161 :: c162 :: c163 :: c164 :: c165 :: c166 :: c167 :: c168 :: c169 :: c170 :: c171 :: c172 :: c173 :: c174 :: c175 :: c176 :: c177 :: c178 :: c179 :: c180 :: c181 :: c182 :: c183 :: c184 :: c185 :: c186 :: c187 :: c188 :: c189 :: c190 :: []), []⟩ wx)) :
    (Code.loop body_clm).wp Tryd.prog Q ⟨List.toArray (c0 :: c1 :: (.pointer (some ⟨KB, 0, none⟩)) :: c3 :: c4 :: (.slice none 0 0) :: (.int .i64 0) :: c7 :: c8 :: c9 :: c10 :: c11 :: c12 :: c13 :: c14 :: c15 :: c16 :: c17 :: c18 :: c19 :: c20 :: c21 :: c22 :: c23 :: c24 :: c25 :: c26 :: c27 :: c28 :: c29 :: c30 :: c31 :: c32 :: c33 :: c34 :: c35 :: c36 :: c37 :: c38 :: c39 :: c40 :: c41 :: c42 :: c43 :: c44 :: c45 :: c46 :: c47 :: c48 :: c49 :: c50 :: c51 :: c52 :: c53 :: c54 :: c55 :: c56 :: c57 :: c58 :: c59 :: c60 :: c61 :: c62 :: c63 :: c64 :: c65 :: c66 :: c67 :: c68 :: c69 :: c70 :: c71 :: c72 :: c73 :: c74 :: c75 :: c76 :: c77 :: c78 :: c79 :: c80 :: c81 :: c82 :: c83 :: c84 :: c85 :: c86 :: c87 :: c88 :: c89 :: c90 :: c91 :: c92 :: c93 :: c94 :: c95 :: c96 :: c97 :: c98 :: c99 :: c100 :: c101 :: c102 :: c103 :: c104 :: c105 :: c106 :: c107 :: c108 :: c109 :: c110 :: c111 :: c112 :: c113 :: c114 :: c115 :: c116 :: c117 :: c118 :: c119 :: c120 :: c121 :: c122 :: c123 :: c124 :: c125 :: c126 :: c127 :: c128 :: c129 :: c130 :: c131 :: c132 :: c133 :: c134 :: c135 :: c136 :: c137 :: c138 :: c139 :: c140 :: c141 :: c142 :: c143 :: c144 :: c145 :: c146 :: c147 :: c148 :: c149 :: c150 :: c151 :: c152 :: c153 :: c154 :: c155 :: c156 :: c157 :: c158 :: c159 :: c160 :: c161 :: c162 :: c163 :: c164 :: c165 :: c166 :: c167 :: c168 :: c169 :: c170 :: c171 :: c172 :: c173 :: c174 :: c175 :: c176 :: c177 :: c178 :: c179 :: c180 :: c181 :: c182 :: c183 :: c184 :: c185 :: c186 :: c187 :: c188 :: c189 :: c190 :: []), []⟩ w := by
  obtain ⟨i0, hi0, hz0, hz1, hz2⟩ := info_parts info_u8
  unfold body_clm
  conv => arg 2; arg 1; whnf
  go_loopw [5, 6] (fun rv v wx => ClmRel w k rv v wx) (fun _ v _ => 16 - (intOf v).toNat)
  case atStart => exact ⟨0, rfl, by omega, World.ownsRow_nil _ _ _ _, Below.refl _ _⟩
  case round =>
    obtain ⟨i, rfl, hi, own, bl⟩ := hrel
    by_cases hlt : i < 16
    · have hI : (i : Int) < 16 := by omega
      have hI32 : (i : Int) < 32 := by omega
      have qs : w.heap.size ≤ wr.heap.size := bl.size
      have qm : Hid (i + 1 ≤ maxLen) := by show i + 1 ≤ maxLen; unfold maxLen; omega
      have qb : Hid ((i + 1) * 1 ≤ 140737488355328) := by show (i + 1) * 1 ≤ 140737488355328; omega
      obtain ⟨c, hc⟩ : ∃ c, k[i]? = some c := ⟨_, List.getElem?_eq_getElem (by rw [hk.out]; omega)⟩
      have cc : wr.cell? ⟨KB, i, none⟩ = some (.int .u8 (c.toNat : Int)) := by
        rw [(hkb.out.below bl hkb.out.lt).cell i, List.getElem?_map, hc]
        rfl
      have cI : (c.toNat : Int) ≤ 255 := by have := c.toNat_lt; omega
      have HC := Lib.hid hc
      have HO := Lib.hid own
      have HBL := Lib.hid bl
      by_cases h3 : i % 4 = 3
      · have e3 : (((i : Int) % 4) == 3) = true := by rw [beq_iff_eq]; omega
        have e0 : (((i : Int) % 4) == 0) = false := by rw [beq_eq_false_iff_ne]; omega
        have HZ := Lib.hid (clampC_a c h3)
        clear hc own bl hi h3
        go_wp2_with (at_builtin
                     refine wpList_append_one _ _ _ rfl _ _ _ rfl w.heap.size 5 i0 _ 1 Tryd.underlying26 hi0 hz0 hz1 hz2 rfl rfl _ i _ rfl HO.out rfl qm.out qb.out qs ?_
                     intro v2 w2 own2 b2)
        go_roundw
        case rel => exact clm_rel hk.out hlt HC.out HZ.out HBL.out own2 b2
        case measure => simp [intOf]; omega
      · have e3 : (((i : Int) % 4) == 3) = false := by rw [beq_eq_false_iff_ne]; omega
        by_cases h0 : i % 4 = 0
        · have e0 : (((i : Int) % 4) == 0) = true := by rw [beq_iff_eq]; omega
          by_cases hp : 0 < i
          · have hpI : (0 : Int) < (i : Int) := by omega
            have HZ := Lib.hid (clampC_b c h0 hp)
            clear hc own bl hi h3 h0 hp
            go_wp2_with (at_builtin
                         refine wpList_append_one _ _ _ rfl _ _ _ rfl w.heap.size 5 i0 _ 1 Tryd.underlying26 hi0 hz0 hz1 hz2 rfl rfl _ i _ rfl HO.out rfl qm.out qb.out qs ?_
                         intro v2 w2 own2 b2)
            go_roundw
            case rel => exact clm_rel hk.out hlt HC.out HZ.out HBL.out own2 b2
            case measure => simp [intOf]; omega
          · have hpI : ¬ (0 : Int) < (i : Int) := by omega
            have HZ := Lib.hid (clampC_c c h3 (fun h => hp h.2))
            clear hc own bl hi h3 h0 hp
            go_wp2_with (at_builtin
                         refine wpList_append_one _ _ _ rfl _ _ _ rfl w.heap.size 5 i0 _ 1 Tryd.underlying26 hi0 hz0 hz1 hz2 rfl rfl _ i _ rfl HO.out rfl qm.out qb.out qs ?_
                         intro v2 w2 own2 b2)
            go_roundw
            case rel => exact clm_rel hk.out hlt HC.out HZ.out HBL.out own2 b2
            case measure => simp [intOf]; omega
        · have e0 : (((i : Int) % 4) == 0) = false := by rw [beq_eq_false_iff_ne]; omega
          have HZ := Lib.hid (clampC_c c h3 (fun h => h0 h.1))
          clear hc own bl hi h3 h0
          go_wp2_with (at_builtin
                       refine wpList_append_one _ _ _ rfl _ _ _ rfl w.heap.size 5 i0 _ 1 Tryd.underlying26 hi0 hz0 hz1 hz2 rfl rfl _ i _ rfl HO.out rfl qm.out qb.out qs ?_
                       intro v2 w2 own2 b2)
          go_roundw
          case rel => exact clm_rel hk.out hlt HC.out HZ.out HBL.out own2 b2
          case measure => simp [intOf]; omega
    · obtain rfl : i = 16 := by omega
      have HO : Hid (wr.ownsRow w.heap.size 5 1 u5 16 ((rB k).map bv)) := Lib.hid (by
        rw [List.take_of_length_le (by rw [rB_length hk.out]; omega)] at own
        exact own)
      have HBL := Lib.hid bl
      clear own bl
      go_wp2_with (fail)
      exact HQ.out _ _ _ _ _ _ _ _ _ _ _ _ _ _ _ _ _ _ _ _ _ _ _ _ _ _ _ _ _ _ HO HBL
end Go.Proofs.YtmoffodmbbkolaaDoor

/- What is asked of poly.Tag: the tag of all parts' bytes, one behind the other. No condition of its own. -/
namespace Go.Proofs.YtmoffodmbbkolaaDoor
open Go.RowKit

def TagG : Prop := ∀ (k : List UInt8) (v : Value) (xss : List (List UInt8)) (w : World), k.length = 32 → (Rs w v xss ∨ (v = .slice none 0 0 ∧ xss = [])) → xss.length ≤ 1000 → xss.flatten.length ≤ 1000000 →
  Calls Tryd.prog 30 #[arrV k, v] w fun e w' => e = .returned (arrV (tagB k xss.flatten)) ∧ Below w.heap.size w w'
end Go.Proofs.YtmoffodmbbkolaaDoor
