/- Part 29 of the words that the laws share: Put, Form. No condition of its own: each theorem says its own. -/
import Derived.Test.YtcicdbhffkpldaaPart2
import Derived.Test.YtcicdbhffkpldaaPart16
import Derived.Laws.BitsAllLaws

/- num.Put by its widths. Split out of Forms1. -/
namespace Go.Proofs.Ytcicdbhffkpldaa
open Go.RowKit

def PutRel (w : World) (xs : List UInt8) (n k : Nat) (v i : Value) (wr : World) : Prop :=
  ∃ j : Nat, i = .int .i64 j ∧ j ≤ k ∧ wr.ownsRow w.heap.size 5 1 v (xs ++ leB j n).length ((xs ++ leB j n).map bv) ∧ Below w.heap.size w wr

set_option maxRecDepth 100000 in
set_option maxHeartbeats 400000 in
theorem put_yes (v : Value) (xs : List UInt8) (n k : Nat) (w : World) (h : Rd w v xs) (hl : xs.length ≤ 1000000000000) (hn : (n : Int) ≤ 18446744073709551615) (h1 : 1 ≤ k) (h8 : k ≤ 8) :
    Calls Try.prog 21 #[v, .int .u64 n, .int .i64 k] w (Own w 5 (xs ++ leB k n)) := by
  obtain ⟨i0, hi, hz0, hz1, hz2⟩ := info_parts info_u8
  have HR := Lib.hid h
  have hw : isW (k : Int) = true := by simp [isW]; omega
  have HW := Lib.hid hw
  have HLL := Lib.hid hl
  have HN := Lib.hid hn
  clear h hw hl hn
  go_enter Try.func21, Try.ntmps21
  go_wp2_with (fail)
  refine (isWidth_any _ _).mono ?_
  rintro e w1 ⟨rfl, rfl⟩
  rw [HW.out]
  go_wp2_with (fail)
  refine (copied_any v xs k _ HR.out (by have := HLL.out; omega) (by omega) (by omega)).mono ?_
  rintro e w1 ⟨v1, rfl, own1, hb1⟩
  go_wp2_with (fail)
  go_loopw [7, 16] (fun v i wr => PutRel w xs n k v i wr) (fun _ i _ => k - (intOf i).toNat)
  case atStart => exact ⟨0, rfl, by omega, by simpa [leB] using own1, hb1⟩
  case round =>
    obtain ⟨j, rfl, hj, own2, hb2⟩ := hrel
    have hb3 : w.heap.size ≤ wr.heap.size + 1 := by have := hb2.size; omega
    have HY : Hid ((xs ++ leB j n).length + 1 ≤ 140737488355328) := by
      have := HLL.out
      have e : (xs ++ leB j n).length = xs.length + j := by simp [leB_length]
      rw [e]
      show xs.length + j + 1 ≤ 140737488355328
      omega
    have HN2 := HN.out
    by_cases hlt : j < k
    · go_wp2_with (at_builtin
                   refine wpList_append_rd _ rfl _ _ _ rfl w.heap.size 5 i0 _ Try.underlying25 hi hz0 hz1 hz2 rfl u7 (xs ++ leB j n).length ((xs ++ leB j n).map bv) rfl (own2.alloc _) _ [UInt8.ofNat (n / 256 ^ j % 256)] rfl (rd_one ?hz) ?_ ?_ ?_
                   rotate_left
                   · exact HY.out
                   · simpa using hb3
                   intro v2 w2 own3 g2)
      case hz => exact byte_of n j
      go_roundw
      case rel =>
        have e : xs ++ leB (j + 1) n = (xs ++ leB j n) ++ [UInt8.ofNat (n / 256 ^ j % 256)] := by rw [leB_snoc, List.append_assoc]
        refine ⟨j + 1, by go_num, by omega, ?_, (hb2.alloc hb2.size _).grown g2 (by simpa using hb3) (own_ge own2)⟩
        rw [e, List.length_append, List.map_append]
        exact own3
      case measure => simp [intOf]; omega
    · obtain rfl : j = k := by omega
      go_wp2
      go_ret
      exact ⟨u7, rfl, own2, hb2⟩

set_option maxHeartbeats 400000 in
theorem put_no (v : Value) (xs : List UInt8) (n : Nat) (k : Int) (w : World) (h : Rd w v xs) (hl : xs.length ≤ 1000000000000) (hw : isW k = false) :
    Calls Try.prog 21 #[v, .int .u64 n, .int .i64 k] w (Own w 5 xs) := by
  have HR := Lib.hid h
  have HW := Lib.hid hw
  have HLL := Lib.hid hl
  clear h hw hl
  go_enter Try.func21, Try.ntmps21
  go_wp2_with (fail)
  refine (isWidth_any _ _).mono ?_
  rintro e w1 ⟨rfl, rfl⟩
  rw [HW.out]
  go_wp2_with (fail)
  refine (copied_any v xs 0 _ HR.out (by have := HLL.out; omega) (by omega) (by omega)).mono ?_
  rintro e w1 ⟨v1, rfl, own1, hb1⟩
  go_wp2_with (fail)
  go_rounds 1
  go_ret
  exact ⟨v1, rfl, own1, hb1⟩
end Go.Proofs.Ytcicdbhffkpldaa

/- The reference's Form: the lowest bytes of a number. Split out of Forms1, which wants more of num than a later layer reaches. -/
namespace Go.Proofs.Ytcicdbhffkpldaa
open Go.RowKit

/-! The reference's Form and Number. -/
def FormRel (w : World) (n k : Nat) (s v i : Value) (wr : World) : Prop :=
  ∃ (j m : Nat), i = .int .i64 j ∧ s = .int .u64 m ∧ m = n / 256 ^ j ∧ j ≤ k ∧ wr.ownsRow w.heap.size 5 1 v (leB j n).length ((leB j n).map bv) ∧ Below w.heap.size w wr

set_option maxRecDepth 100000 in
set_option maxHeartbeats 400000 in
theorem form_any (n k : Nat) (w : World) (hn : (n : Int) ≤ 18446744073709551615) (h8 : k ≤ 8) :
    Calls Try.prog 30 #[.int .u64 n, .int .i64 k] w (Own w 5 (leB k n)) := by
  obtain ⟨i0, hi, hz0, hz1, hz2⟩ := info_parts info_u8
  have HN := Lib.hid hn
  clear hn
  go_enter Try.func30, Try.ntmps30
  go_wp2_with (fail)
  go_loopw [0, 5, 6] (fun s v i wr => FormRel w n k s v i wr) (fun _ _ i _ => k - (intOf i).toNat)
  case atStart => exact ⟨0, n, rfl, rfl, by simp, by omega, World.ownsRow_nil _ _ _ _, Below.refl _ _⟩
  case round =>
    obtain ⟨j, m, rfl, rfl, hm, hj, own2, hb2⟩ := hrel
    have hb3 : w.heap.size ≤ wr.heap.size + 1 := by have := hb2.size; omega
    have HY : Hid ((leB j n).length + 1 ≤ 140737488355328) := by
      rw [leB_length]
      show j + 1 ≤ 140737488355328
      omega
    have hmn : (m : Int) ≤ 18446744073709551615 := by
      have h1 := HN.out
      have h2 := Nat.div_le_self n (256 ^ j)
      omega
    have HM := Lib.hid hm
    clear hm
    by_cases hlt : j < k
    · go_wp2_with (at_builtin
                   refine wpList_append_rd _ rfl _ _ _ rfl w.heap.size 5 i0 _ Try.underlying25 hi hz0 hz1 hz2 rfl u5 (leB j n).length ((leB j n).map bv) rfl (own2.alloc _) _ [UInt8.ofNat (m % 256)] rfl (rd_one ?hz) ?_ ?_ ?_
                   rotate_left
                   · exact HY.out
                   · simpa using hb3
                   intro v2 w2 own3 g2)
      case hz => rw [UInt8.toNat_ofNat']; omega
      go_roundw
      case rel =>
        have e : leB (j + 1) n = leB j n ++ [UInt8.ofNat (m % 256)] := by rw [leB_snoc, HM.out]
        refine ⟨j + 1, m / 256, by go_num, by go_num, ?_, by omega, ?_, (hb2.alloc hb2.size _).grown g2 (by simpa using hb3) (own_ge own2)⟩
        · rw [HM.out, Nat.div_div_eq_div_mul, ← Nat.pow_succ]
        · rw [e, List.length_append, List.map_append]
          exact own3
      case measure => simp [intOf]; omega
    · obtain rfl : j = k := by omega
      go_wp2
      go_ret
      exact ⟨u5, rfl, own2, hb2⟩

end Go.Proofs.Ytcicdbhffkpldaa
