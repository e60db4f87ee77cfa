/- Part 14 of the words that the laws share: Bytes, Width, Get, Put. No condition of its own: each theorem says its own. -/
import Derived.Test.YtbodiioemohenaaDoorPart1
import Derived.Laws.BitsAllLaws

/- Numbers and their forms as bytes: plain words, with no program in sight. No condition of its own. -/
namespace Go.Proofs.YtbodiioemohenaaDoor
open Go.RowKit

/-- The number whose form these bytes are. -/
def numB : List UInt8 → Nat
  | [] => 0
  | x :: r => x.toNat + 256 * numB r
theorem numB_lt (xs : List UInt8) : numB xs < 256 ^ xs.length := by
  induction xs with
  | nil => simp [numB]
  | cons x r ih =>
    have := x.toNat_lt
    rw [numB, List.length_cons, Nat.pow_succ]
    omega
theorem numB_snoc (xs : List UInt8) (c : UInt8) : numB (xs ++ [c]) = numB xs + 256 ^ xs.length * c.toNat := by
  induction xs with
  | nil => simp [numB]
  | cons x r ih =>
    rw [List.cons_append, numB, ih, numB, List.length_cons, Nat.pow_succ]
    rw [Nat.mul_add, ← Nat.mul_assoc, Nat.mul_comm 256 (256 ^ _)]
    omega

theorem numB_drop (xs : List UInt8) (j : Nat) (h : j < xs.length) : numB (xs.drop j) = numB (xs.drop (j + 1)) * 256 + (xs[j]).toNat := by
  rw [List.drop_eq_getElem_cons h, numB]
  omega
/-- The lowest k bytes of n, the lowest first. -/
def leB : Nat → Nat → List UInt8
  | 0, _ => []
  | k + 1, n => UInt8.ofNat (n % 256) :: leB k (n / 256)
theorem leB_length (k n : Nat) : (leB k n).length = k := by
  induction k generalizing n with
  | zero => rfl
  | succ k ih => simp [leB, ih]
theorem leB_snoc (k n : Nat) : leB (k + 1) n = leB k n ++ [UInt8.ofNat (n / 256 ^ k % 256)] := by
  induction k generalizing n with
  | zero => simp [leB]
  | succ k ih =>
    rw [leB, ih, leB, List.cons_append]
    congr 3
    rw [Nat.div_div_eq_div_mul, Nat.pow_succ, Nat.mul_comm 256]
theorem pow8 (j : Nat) : (2 : Int) ^ (8 * j) = ((256 ^ j : Nat) : Int) := by
  rw [Int.pow_mul]
  simp
theorem byte_of (n j : Nat) : (n : Int) / 2 ^ (8 * j) % 256 = ((UInt8.ofNat (n / 256 ^ j % 256)).toNat : Int) := by
  rw [pow8, UInt8.toNat_ofNat']
  omega
end Go.Proofs.YtbodiioemohenaaDoor

/- The contract of num's isWidth. No condition of its own. -/
namespace Go.Proofs.YtbodiioemohenaaDoor
open Go.RowKit

def isW (k : Int) : Bool := decide (1 ≤ k) && decide (k ≤ 8)
set_option maxHeartbeats 400000 in
theorem isWidth_any (k : Int) (w : World) :
    Calls Tryd.prog 66 #[.int .i64 k] w fun e w' => e = .returned (.bool (isW k)) ∧ w = w' := by
  by_cases h1 : 1 ≤ k
  · have e : isW k = decide (k ≤ 8) := by simp [isW, h1]
    rw [e]
    go_enter Tryd.func66, Tryd.ntmps66
    go_wp2
    go_ret
    exact ⟨rfl, rfl⟩
  · have e : isW k = false := by simp [isW, h1]
    rw [e]
    go_enter Tryd.func66, Tryd.ntmps66
    go_wp2
    go_ret
    exact ⟨rfl, rfl⟩
end Go.Proofs.YtbodiioemohenaaDoor

/- The contract of num.Get at a width that may be, where there are bytes enough. No condition of its own. -/
namespace Go.Proofs.YtbodiioemohenaaDoor
open Go.RowKit

theorem pow8g (j : Nat) : (2 : Int) ^ (8 * j) = ((256 ^ j : Nat) : Int) := by
  rw [Int.pow_mul]
  simp
/-- A number of fewer than j bytes, and a byte ahead of them. -/
theorem or_byte (n c j : Nat) (hn : n < 256 ^ j) (hc : c < 256) (hj : j < 8) : bits .or .u64 (n : Int) (IntKind.u64.wrap ((c : Int) * 2 ^ (8 * j))) = ((n + 256 ^ j * c : Nat) : Int) := by
  have h1 : (256 : Nat) ^ j * 256 ≤ 18446744073709551616 := by
    have : (256 : Nat) ^ (j + 1) ≤ 256 ^ 8 := Nat.pow_le_pow_right (by omega) (by omega)
    rw [Nat.pow_succ] at this
    omega
  have h2 : 256 ^ j * c < 256 ^ j * 256 := Nat.mul_lt_mul_of_pos_left hc (Nat.pow_pos (by omega))
  have e : (c : Int) * 2 ^ (8 * j) = ((256 ^ j * c : Nat) : Int) := by rw [pow8g, Int.natCast_mul, Int.mul_comm]
  have h3 : n < 2 ^ (8 * j) := by rw [Nat.pow_mul]; exact hn
  have h4 := Nat.two_pow_add_eq_or_of_lt h3 c
  have e2 : (2 : Nat) ^ (8 * j) = 256 ^ j := by rw [Nat.pow_mul]
  rw [e, IntWalk.u64_in _ (by omega), u64_or_nat n (256 ^ j * c) (by omega) (by omega)]
  rw [e2] at h4
  rw [Nat.or_comm, ← h4, Nat.add_comm]

def GetRel (xs : List UInt8) (k : Nat) (s i : Value) : Prop := ∃ j : Nat, i = .int .i64 j ∧ j ≤ k ∧ s = .int .u64 (numB (xs.take j) : Nat)
set_option maxHeartbeats 400000 in
theorem get_yes (v : Value) (xs : List UInt8) (k : Nat) (w : World) (h : Rd w v xs) (h1 : 1 ≤ k) (h8 : k ≤ 8) (hk : k ≤ xs.length) :
    Calls Tryd.prog 80 #[v, .int .i64 k] w fun e w' => e = .returned (.tuple #[.int .u64 (numB (xs.take k) : Nat), .int .i64 0]) ∧ w = w' := by
  have hw : isW (k : Int) = true := by simp [isW]; omega
  have HW := Lib.hid hw
  obtain ⟨A, c, rfl, hc1, hc2, hA⟩ := h.form
  unfold maxLen at hc2
  obtain ⟨b, off, rfl, hb1, hb2⟩ := hA (by omega)
  have HB := Lib.hid hb2
  clear hw h hA hb2
  go_enter Tryd.func80, Tryd.ntmps80
  go_wp2_with (fail)
  refine (isWidth_any _ _).mono ?_
  rintro e w1 ⟨rfl, rfl⟩
  rw [HW.out]
  go_wp2_with (fail)
  go_loop [6, 16] (fun s i => GetRel xs k s i) (fun _ i => k - (intOf i).toNat)
  case atStart => exact ⟨0, rfl, by omega, rfl⟩
  case round =>
    obtain ⟨j, rfl, hj, rfl⟩ := hrel
    by_cases hlt : j < k
    · have hc := HB.out j (by omega)
      obtain ⟨m, hm⟩ : ∃ m, m = numB (xs.take j) := ⟨_, rfl⟩
      obtain ⟨x, hx⟩ : ∃ x, x = (xs[j]'(by omega)).toNat := ⟨_, rfl⟩
      rw [← hm]
      rw [← hx] at hc
      have hxl : x < 256 := by rw [hx]; exact UInt8.toNat_lt _
      have hml : m < 256 ^ j := by
        have := numB_lt (xs.take j)
        rw [List.length_take, Nat.min_eq_left (by omega)] at this
        rw [hm]; exact this
      have HO := or_byte m x j hml hxl (by omega)
      have HX := Lib.hid hx
      have HM := Lib.hid hm
      have HML := Lib.hid hml
      clear hx hm hml
      go_wp2
      go_round
      case rel =>
        refine ⟨j + 1, by go_num, by omega, ?_⟩
        have e1 : j < xs.length := by omega
        have e2 : numB (xs.take (j + 1)) = m + 256 ^ j * x := by
          rw [List.take_succ_eq_append_getElem e1, numB_snoc, List.length_take, Nat.min_eq_left (by omega), HM.out, HX.out]
        rw [e2]
        exact congrArg (Value.int .u64) (by simp)
      case measure => simp [intOf]; omega
    · obtain rfl : j = k := by omega
      go_wp2
      go_ret2
      exact ⟨rfl, rfl⟩

end Go.Proofs.YtbodiioemohenaaDoor

/- num.Put by its widths. Split out of Forms1. -/
namespace Go.Proofs.YtbodiioemohenaaDoor
open Go.RowKit

set_option maxHeartbeats 400000 in
theorem copied_any (v : Value) (xs : List UInt8) (more : Int) (w : World) (h : Rd w v xs) (hl : xs.length ≤ 1099511627776) (hm0 : 0 ≤ more) (hm : more ≤ 1000) :
    Calls Tryd.prog 67 #[v, .int .i64 more] w (Own w 5 xs) := by
  obtain ⟨i0, hi, hz0, hz1, hz2⟩ := info_parts info_u8
  obtain ⟨A, c, rfl, hc1, hc2, hA⟩ := h.form
  have HR := Lib.hid h
  have HA := Lib.hid hA
  clear hA h
  unfold maxLen at hc2
  go_enter Tryd.func67, Tryd.ntmps67
  go_wp2_with (first
    | (at_make
       refine wpList_make_own _ rfl _ _ _ rfl w.heap.size 5 i0 _ 1 Tryd.underlying23 hi hz0 hz1 _ _ _ (xs.length + more.toNat) rfl rfl ?_ ?_ ?_ (Nat.le_refl _) ?_
       · omega
       · rw [hz2]; omega
       · unfold maxLen; omega
       intro w1 own1 g1)
    | (at_builtin
       refine wpList_append_rd _ rfl _ _ _ rfl w.heap.size 5 i0 _ Tryd.underlying23 hi hz0 hz1 hz2 rfl _ 0 [] rfl own1 _ xs rfl (HR.out.below ((Below.refl _ _).grown g1 (Nat.le_refl _) (by simp))) ?_ ?_ ?_
       · omega
       · exact g1.size
       intro v2 w2 own2 g2))
  go_ret
  have hb1 : Below w.heap.size w w1 := (Below.refl _ _).grown g1 (Nat.le_refl _) (by simp)
  exact ⟨v2, rfl, by simpa using own2, hb1.grown g2 hb1.size (own_ge own1)⟩


def PutRel (w : World) (xs : List UInt8) (n k : Nat) (v i : Value) (wr : World) : Prop :=
  ∃ j : Nat, i = .int .i64 j ∧ j ≤ k ∧ wr.ownsRow w.heap.size 5 1 v (xs ++ leB j n).length ((xs ++ leB j n).map bv) ∧ Below w.heap.size w wr

set_option maxRecDepth 100000 in
set_option maxHeartbeats 400000 in
theorem put_yes (v : Value) (xs : List UInt8) (n k : Nat) (w : World) (h : Rd w v xs) (hl : xs.length ≤ 1000000000000) (hn : (n : Int) ≤ 18446744073709551615) (h1 : 1 ≤ k) (h8 : k ≤ 8) :
    Calls Tryd.prog 54 #[v, .int .u64 n, .int .i64 k] w (Own w 5 (xs ++ leB k n)) := by
  obtain ⟨i0, hi, hz0, hz1, hz2⟩ := info_parts info_u8
  have HR := Lib.hid h
  have hw : isW (k : Int) = true := by simp [isW]; omega
  have HW := Lib.hid hw
  have HLL := Lib.hid hl
  have HN := Lib.hid hn
  clear h hw hl hn
  go_enter Tryd.func54, Tryd.ntmps54
  go_wp2_with (fail)
  refine (isWidth_any _ _).mono ?_
  rintro e w1 ⟨rfl, rfl⟩
  rw [HW.out]
  go_wp2_with (fail)
  refine (copied_any v xs k _ HR.out (by have := HLL.out; omega) (by omega) (by omega)).mono ?_
  rintro e w1 ⟨v1, rfl, own1, hb1⟩
  go_wp2_with (fail)
  go_loopw [7, 16] (fun v i wr => PutRel w xs n k v i wr) (fun _ i _ => k - (intOf i).toNat)
  case atStart => exact ⟨0, rfl, by omega, by simpa [leB] using own1, hb1⟩
  case round =>
    obtain ⟨j, rfl, hj, own2, hb2⟩ := hrel
    have hb3 : w.heap.size ≤ wr.heap.size + 1 := by have := hb2.size; omega
    have HY : Hid ((xs ++ leB j n).length + 1 ≤ 140737488355328) := by
      have := HLL.out
      have e : (xs ++ leB j n).length = xs.length + j := by simp [leB_length]
      rw [e]
      show xs.length + j + 1 ≤ 140737488355328
      omega
    have HN2 := HN.out
    by_cases hlt : j < k
    · go_wp2_with (at_builtin
                   refine wpList_append_rd _ rfl _ _ _ rfl w.heap.size 5 i0 _ Tryd.underlying23 hi hz0 hz1 hz2 rfl u7 (xs ++ leB j n).length ((xs ++ leB j n).map bv) rfl (own2.alloc _) _ [UInt8.ofNat (n / 256 ^ j % 256)] rfl (rd_one ?hz) ?_ ?_ ?_
                   rotate_left
                   · exact HY.out
                   · simpa using hb3
                   intro v2 w2 own3 g2)
      case hz => exact byte_of n j
      go_roundw
      case rel =>
        have e : xs ++ leB (j + 1) n = (xs ++ leB j n) ++ [UInt8.ofNat (n / 256 ^ j % 256)] := by rw [leB_snoc, List.append_assoc]
        refine ⟨j + 1, by go_num, by omega, ?_, (hb2.alloc hb2.size _).grown g2 (by simpa using hb3) (own_ge own2)⟩
        rw [e, List.length_append, List.map_append]
        exact own3
      case measure => simp [intOf]; omega
    · obtain rfl : j = k := by omega
      go_wp2
      go_ret
      exact ⟨u7, rfl, own2, hb2⟩

set_option maxHeartbeats 400000 in
theorem put_no (v : Value) (xs : List UInt8) (n : Nat) (k : Int) (w : World) (h : Rd w v xs) (hl : xs.length ≤ 1000000000000) (hw : isW k = false) :
    Calls Tryd.prog 54 #[v, .int .u64 n, .int .i64 k] w (Own w 5 xs) := by
  have HR := Lib.hid h
  have HW := Lib.hid hw
  have HLL := Lib.hid hl
  clear h hw hl
  go_enter Tryd.func54, Tryd.ntmps54
  go_wp2_with (fail)
  refine (isWidth_any _ _).mono ?_
  rintro e w1 ⟨rfl, rfl⟩
  rw [HW.out]
  go_wp2_with (fail)
  refine (copied_any v xs 0 _ HR.out (by have := HLL.out; omega) (by omega) (by omega)).mono ?_
  rintro e w1 ⟨v1, rfl, own1, hb1⟩
  go_wp2_with (fail)
  go_rounds 1
  go_ret
  exact ⟨v1, rfl, own1, hb1⟩
end Go.Proofs.YtbodiioemohenaaDoor
