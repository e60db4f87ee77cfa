/- The contracts of the second reference's turn, cut, high and number: a word turned, a word cut, a number as bytes with the highest first and back. Conditions: words fit uint32; at most eight bytes. -/
import Derived.Test.YtpjidfcbckndfaaDoorMem
namespace Go.Proofs.YtpjidfcbckndfaaDoor
open Go.RowKit

def rot1 (n : Nat) : Nat := n / 2 + n % 2 * 2147483648
def rotN : Nat → Nat → Nat
  | 0, n => n
  | k + 1, n => rot1 (rotN k n)
def cutN : Nat → Nat → Nat
  | 0, n => n
  | k + 1, n => cutN k n / 2
theorem rot1_lt {n : Nat} (h : n < 4294967296) : rot1 n < 4294967296 := by unfold rot1; omega
theorem rotN_lt {n : Nat} (h : n < 4294967296) (k : Nat) : rotN k n < 4294967296 := by
  induction k with
  | zero => exact h
  | succ k ih => exact rot1_lt ih
theorem cutN_lt {n : Nat} (h : n < 4294967296) (k : Nat) : cutN k n < 4294967296 := by
  induction k with
  | zero => exact h
  | succ k ih => show cutN k n / 2 < 4294967296; omega

set_option maxHeartbeats 400000 in
theorem turn_any (n k : Nat) (w : World) (hn : n < 4294967296) (hk : k ≤ 32) :
    Calls Tryd.prog 26 #[.int .u32 n, .int .i64 k] w fun e w' => e = .returned (.int .u32 (rotN k n : Nat)) ∧ w = w' := by
  have HN := Lib.hid hn
  clear hn
  go_enter Tryd.func26, Tryd.ntmps26
  go_wp2_with (fail)
  go_loop [0, 5] (fun s i => ∃ j : Nat, i = .int .i64 j ∧ j ≤ k ∧ s = .int .u32 (rotN j n : Nat)) (fun _ i => k - (intOf i).toNat)
  case atStart => exact ⟨0, rfl, by omega, rfl⟩
  case round =>
    obtain ⟨j, rfl, hj, rfl⟩ := hrel
    obtain ⟨m, hm⟩ : ∃ m, m = rotN j n := ⟨_, rfl⟩
    rw [← hm]
    have hml : (m : Int) ≤ 4294967295 := by have := rotN_lt HN.out j; omega
    have HM := Lib.hid hm
    clear hm
    by_cases hlt : j < k
    · go_wp2
      go_round
      case rel =>
        refine ⟨j + 1, by go_num, by omega, ?_⟩
        rw [rotN, ← HM.out]
        exact congrArg (Value.int .u32) (by unfold rot1; omega)
      case measure => simp [intOf]; omega
    · have hj2 : Hid (j = k) := by show j = k; omega
      go_wp2
      go_ret
      exact ⟨ret_i (by rw [HM.out, hj2.out]), rfl⟩

set_option maxHeartbeats 400000 in
theorem cut_any (n k : Nat) (w : World) (hn : n < 4294967296) (hk : k ≤ 32) :
    Calls Tryd.prog 27 #[.int .u32 n, .int .i64 k] w fun e w' => e = .returned (.int .u32 (cutN k n : Nat)) ∧ w = w' := by
  have HN := Lib.hid hn
  clear hn
  go_enter Tryd.func27, Tryd.ntmps27
  go_wp2_with (fail)
  go_loop [0, 5] (fun s i => ∃ j : Nat, i = .int .i64 j ∧ j ≤ k ∧ s = .int .u32 (cutN j n : Nat)) (fun _ i => k - (intOf i).toNat)
  case atStart => exact ⟨0, rfl, by omega, rfl⟩
  case round =>
    obtain ⟨j, rfl, hj, rfl⟩ := hrel
    obtain ⟨m, hm⟩ : ∃ m, m = cutN j n := ⟨_, rfl⟩
    rw [← hm]
    have hml : (m : Int) ≤ 4294967295 := by have := cutN_lt HN.out j; omega
    have HM := Lib.hid hm
    clear hm
    by_cases hlt : j < k
    · go_wp2
      go_round
      case rel =>
        refine ⟨j + 1, by go_num, by omega, ?_⟩
        rw [cutN, ← HM.out]
        exact congrArg (Value.int .u32) (by omega)
      case measure => simp [intOf]; omega
    · have hj2 : Hid (j = k) := by show j = k; omega
      go_wp2
      go_ret
      exact ⟨ret_i (by rw [HM.out, hj2.out]), rfl⟩

/-- The number whose bytes these are, the highest first. -/
def numBE (xs : List UInt8) : Nat := xs.foldl (fun n x => n * 256 + x.toNat) 0
theorem numBE_snoc (xs : List UInt8) (c : UInt8) : numBE (xs ++ [c]) = numBE xs * 256 + c.toNat := by simp [numBE]
theorem numBE_lt (xs : List UInt8) : numBE xs < 256 ^ xs.length := by
  induction h : xs.length generalizing xs with
  | zero => simp [List.eq_nil_of_length_eq_zero h, numBE]
  | succ k ih =>
    have h1 : xs ≠ [] := by rintro rfl; simp at h
    rw [← List.dropLast_concat_getLast h1, numBE_snoc]
    have h2 := ih xs.dropLast (by simp [h])
    have h3 := (xs.getLast h1).toNat_lt
    rw [Nat.pow_succ]
    omega
set_option maxHeartbeats 400000 in
theorem number2_any (v : Value) (xs : List UInt8) (w : World) (h : Rd w v xs) (h8 : xs.length ≤ 8) :
    Calls Tryd.prog 25 #[v] w fun e w' => e = .returned (.int .u64 (numBE xs : Nat)) ∧ w = w' := by
  obtain ⟨A, c, rfl, hc1, hc2, hA⟩ := h.form
  unfold maxLen at hc2
  have HA := Lib.hid hA
  clear h hA
  go_enter Tryd.func25, Tryd.ntmps25
  go_wp2_with (fail)
  go_loop [3, 4] (fun s i => ∃ j : Nat, i = .int .i64 j ∧ j ≤ xs.length ∧ s = .int .u64 (numBE (xs.take j) : Nat)) (fun _ i => xs.length - (intOf i).toNat)
  case atStart => exact ⟨0, rfl, by omega, by simp [numBE]⟩
  case round =>
    obtain ⟨j, rfl, hj, rfl⟩ := hrel
    by_cases hlt : j < xs.length
    · obtain ⟨b, off, rfl, hb1, hb2⟩ := HA.out (by omega)
      have hc := hb2 j hlt
      obtain ⟨m, hm⟩ : ∃ m, m = numBE (xs.take j) := ⟨_, rfl⟩
      obtain ⟨x, hx⟩ : ∃ x, x = (xs[j]).toNat := ⟨_, rfl⟩
      rw [← hm]
      rw [← hx] at hc
      have e2 : numBE (xs.take (j + 1)) = m * 256 + x := by rw [List.take_succ_eq_append_getElem hlt, numBE_snoc, hm, hx]
      have hml : (m : Int) * 256 + x ≤ 18446744073709551615 := by
        have h1 := numBE_lt (xs.take (j + 1))
        have h3 : (256 : Nat) ^ (xs.take (j + 1)).length ≤ 256 ^ 8 := Nat.pow_le_pow_right (by omega) (by simp; omega)
        omega
      have HE := Lib.hid e2
      clear hx hm hb2 e2
      go_wp2
      go_round
      case rel =>
        refine ⟨j + 1, by go_num, by omega, ?_⟩
        rw [HE.out]
        exact congrArg (Value.int .u64) (by simp)
      case measure => simp [intOf]; omega
    · have hj2 : Hid (xs.take j = xs) := List.take_of_length_le (by omega)
      go_wp2
      go_ret
      exact ⟨ret_i (by rw [hj2.out]), rfl⟩

/-- The lowest k bytes of n, the highest first. -/
def beB : Nat → Nat → List UInt8
  | 0, _ => []
  | k + 1, n => beB k (n / 256) ++ [UInt8.ofNat (n % 256)]
theorem beB_length (k n : Nat) : (beB k n).length = k := by
  induction k generalizing n with
  | zero => rfl
  | succ k ih => simp [beB, ih]
theorem beB_cons (k n : Nat) : beB (k + 1) n = UInt8.ofNat (n / 256 ^ k % 256) :: beB k n := by
  induction k generalizing n with
  | zero => simp [beB]
  | succ k ih =>
    rw [beB, ih, beB, List.cons_append, Nat.div_div_eq_div_mul, Nat.pow_succ, Nat.mul_comm 256]
theorem make_one {z : Value} (hz : z.cells = #[z]) (n : Nat) : (madeCells z.cells (n * 1)).toList = List.replicate n z := by
  rw [hz, List.eq_replicate_iff]
  refine ⟨by simp [madeCells], fun b hb => ?_⟩
  simp only [madeCells, Array.toList_map, List.mem_map] at hb
  obtain ⟨x, _, rfl⟩ := hb
  have h : x % (#[z] : Array Value).size = 0 := by simp; omega
  rw [h]
  rfl
/-- The cells behind j rounds. -/
def highC (k n j : Nat) : List Value := List.replicate (k - j) (.int .u8 0) ++ (beB j n).map bv
theorem highC_set {k n j m : Nat} (hj : j < k) (hm : m = n / 256 ^ j) : (highC k n j).set (k - 1 - j) (.int .u8 ((m % 256 : Nat) : Int)) = highC k n (j + 1) := by
  unfold highC
  rw [beB_cons, List.map_cons, ← hm, show k - j = (k - (j + 1)) + 1 by omega, List.replicate_succ', List.append_assoc, List.set_append_right _ _ (by simp; omega)]
  have e : k - 1 - j - (List.replicate (k - (j + 1)) (Value.int .u8 0)).length = 0 := by simp; omega
  rw [e]
  have e2 : bv (UInt8.ofNat (m % 256)) = .int .u8 ((m % 256 : Nat) : Int) := by unfold bv; rw [UInt8.toNat_ofNat']; exact congrArg (Value.int .u8) (by omega)
  simp [e2]
def HighRel (w : World) (g k n : Nat) (s i : Value) (wr : World) : Prop :=
  ∃ j m : Nat, i = .int .i64 ((k : Int) - 1 - j) ∧ j ≤ k ∧ m = n / 256 ^ j ∧ s = .int .u64 m ∧ wr.ownsRow w.heap.size 5 1 (.slice (some ⟨g, 0, none⟩) k k) k (highC k n j) ∧ Below w.heap.size w wr
set_option maxRecDepth 100000 in
set_option maxHeartbeats 400000 in
theorem high_any (n k : Nat) (w : World) (hn : (n : Int) ≤ 18446744073709551615) (h8 : k ≤ 8) :
    Calls Tryd.prog 23 #[.int .u64 n, .int .i64 k] w (Own w 5 (beB k n)) := by
  obtain ⟨i0, hi, hz0, hz1, hz2⟩ := info_parts info_u8
  have HN := Lib.hid hn
  clear hn
  go_enter Tryd.func23, Tryd.ntmps23
  go_wp2_with (at_make
               refine wpList_make_full _ rfl _ _ _ rfl w.heap.size 5 i0 _ 1 Tryd.underlying22 hi hz0 hz1 _ _ _ _ k rfl rfl rfl rfl ?_ ?_ (Nat.le_refl _) ?_
               · rw [hz2]; omega
               · unfold maxLen; omega
               intro w1 own1 g1)
  go_loopw [0, 6] (fun s i wr => HighRel w w.heap.size k n s i wr) (fun _ i _ => ((intOf i) + 1).toNat)
  case atStart =>
    refine ⟨0, n, by simp, by omega, by simp, rfl, ?_, (Below.refl _ _).grown g1 (Nat.le_refl _) (by simp)⟩
    have e : highC k n 0 = (madeCells (Value.int .u8 0).cells (k * 1)).toList := by rw [make_one rfl]; simp [highC, beB]
    rw [e]
    exact own1
  case round =>
    obtain ⟨j, m, rfl, hj, hm, rfl, own2, hb2⟩ := hrel
    have hmn : (m : Int) ≤ 18446744073709551615 := by
      have h1 := HN.out
      have h2 := Nat.div_le_self n (256 ^ j)
      omega
    have HM := Lib.hid hm
    clear hm
    by_cases hlt : j < k
    · have hcell := own2.cellAt (g := w.heap.size) (k - 1 - j) (by omega)
      have hfr := own2.frozenAt (g := w.heap.size) (k - 1 - j)
      obtain ⟨u, hu⟩ : ∃ u, (highC k n j)[k - 1 - j]? = some u := ⟨_, List.getElem?_eq_getElem (by simp [highC, beB_length]; omega)⟩
      rw [hu] at hcell
      have HST := Lib.hid (own2.stored (g := w.heap.size) (k - 1 - j) (.int .u8 ((m % 256 : Nat) : Int)))
      have i1 : 0 ≤ (k : Int) - 1 - j := by omega
      have i2 : (k : Int) - 1 - j < k := by omega
      have i3 : Hid (((k : Int) - 1 - j).toNat = k - 1 - j) := by show ((k : Int) - 1 - j).toNat = k - 1 - j; omega
      clear hu
      go_wp2_with (fail)
      go_roundw
      case rel =>
        have h2 := HST.out
        rw [highC_set hlt HM.out] at h2
        refine ⟨j + 1, m / 256, ?_, by omega, ?_, by go_num, ?_, hb2.setCell (by simp) _⟩
        · exact congrArg (Value.int .i64) (by omega)
        · rw [HM.out, Nat.div_div_eq_div_mul, ← Nat.pow_succ]
        · have e : Value.int .u8 ((m : Int) % 256) = .int .u8 ((m % 256 : Nat) : Int) := congrArg (Value.int .u8) (by omega)
          rw [e]
          exact h2.1
      case measure => simp [intOf]; omega
    · have hj2 : j = k := by omega
      rw [hj2] at own2
      have e : highC k n k = (beB k n).map bv := by simp [highC]
      rw [e] at own2
      have HO := Lib.hid own2
      have hjk : (k : Int) ≤ j := by omega
      clear own2 hj2
      go_wp2_with (fail)
      go_ret
      exact ⟨_, rfl, by rw [beB_length]; exact HO.out, hb2⟩
end Go.Proofs.YtpjidfcbckndfaaDoor
