/- num.Put by its widths. Split out of Forms1. -/
import Derived.Test.YtmdpoceadjdhmaaWidth
namespace Go.Proofs.Ytmdpoceadjdhmaa
open Go.RowKit

set_option maxHeartbeats 400000 in
theorem copied_any (v : Value) (xs : List UInt8) (more : Int) (w : World) (h : Rd w v xs) (hl : xs.length ≤ 1099511627776) (hm0 : 0 ≤ more) (hm : more ≤ 1000) :
    Calls Try.prog 23 #[v, .int .i64 more] w (Own w 5 xs) := by
  obtain ⟨i0, hi, hz0, hz1, hz2⟩ := info_parts info_u8
  obtain ⟨A, c, rfl, hc1, hc2, hA⟩ := h.form
  have HR := Lib.hid h
  have HA := Lib.hid hA
  clear hA h
  unfold maxLen at hc2
  go_enter Try.func23, Try.ntmps23
  go_wp2_with (first
    | (at_make
       refine wpList_make_own _ rfl _ _ _ rfl w.heap.size 5 i0 _ 1 Try.underlying49 hi hz0 hz1 _ _ _ (xs.length + more.toNat) rfl rfl ?_ ?_ ?_ (Nat.le_refl _) ?_
       · omega
       · rw [hz2]; omega
       · unfold maxLen; omega
       intro w1 own1 g1)
    | (at_builtin
       refine wpList_append_rd _ rfl _ _ _ rfl w.heap.size 5 i0 _ Try.underlying49 hi hz0 hz1 hz2 rfl _ 0 [] rfl own1 _ xs rfl (HR.out.below ((Below.refl _ _).grown g1 (Nat.le_refl _) (by simp))) ?_ ?_ ?_
       · omega
       · exact g1.size
       intro v2 w2 own2 g2))
  go_ret
  have hb1 : Below w.heap.size w w1 := (Below.refl _ _).grown g1 (Nat.le_refl _) (by simp)
  exact ⟨v2, rfl, by simpa using own2, hb1.grown g2 hb1.size (own_ge own1)⟩


def PutRel (w : World) (xs : List UInt8) (n k : Nat) (v i : Value) (wr : World) : Prop :=
  ∃ j : Nat, i = .int .i64 j ∧ j ≤ k ∧ wr.ownsRow w.heap.size 5 1 v (xs ++ leB j n).length ((xs ++ leB j n).map bv) ∧ Below w.heap.size w wr

set_option maxRecDepth 100000 in
set_option maxHeartbeats 400000 in
theorem put_yes (v : Value) (xs : List UInt8) (n k : Nat) (w : World) (h : Rd w v xs) (hl : xs.length ≤ 1000000000000) (hn : (n : Int) ≤ 18446744073709551615) (h1 : 1 ≤ k) (h8 : k ≤ 8) :
    Calls Try.prog 20 #[v, .int .u64 n, .int .i64 k] w (Own w 5 (xs ++ leB k n)) := by
  obtain ⟨i0, hi, hz0, hz1, hz2⟩ := info_parts info_u8
  have HR := Lib.hid h
  have hw : isW (k : Int) = true := by simp [isW]; omega
  have HW := Lib.hid hw
  have HLL := Lib.hid hl
  have HN := Lib.hid hn
  clear h hw hl hn
  go_enter Try.func20, Try.ntmps20
  go_wp2_with (fail)
  refine (isWidth_any _ _).mono ?_
  rintro e w1 ⟨rfl, rfl⟩
  rw [HW.out]
  go_wp2_with (fail)
  refine (copied_any v xs k _ HR.out (by have := HLL.out; omega) (by omega) (by omega)).mono ?_
  rintro e w1 ⟨v1, rfl, own1, hb1⟩
  go_wp2_with (fail)
  go_loopw [7, 16] (fun v i wr => PutRel w xs n k v i wr) (fun _ i _ => k - (intOf i).toNat)
  case atStart => exact ⟨0, rfl, by omega, by simpa [leB] using own1, hb1⟩
  case round =>
    obtain ⟨j, rfl, hj, own2, hb2⟩ := hrel
    have hb3 : w.heap.size ≤ wr.heap.size + 1 := by have := hb2.size; omega
    have HY : Hid ((xs ++ leB j n).length + 1 ≤ 140737488355328) := by
      have := HLL.out
      have e : (xs ++ leB j n).length = xs.length + j := by simp [leB_length]
      rw [e]
      show xs.length + j + 1 ≤ 140737488355328
      omega
    have HN2 := HN.out
    by_cases hlt : j < k
    · go_wp2_with (at_builtin
                   refine wpList_append_rd _ rfl _ _ _ rfl w.heap.size 5 i0 _ Try.underlying49 hi hz0 hz1 hz2 rfl u7 (xs ++ leB j n).length ((xs ++ leB j n).map bv) rfl (own2.alloc _) _ [UInt8.ofNat (n / 256 ^ j % 256)] rfl (rd_one ?hz) ?_ ?_ ?_
                   rotate_left
                   · exact HY.out
                   · simpa using hb3
                   intro v2 w2 own3 g2)
      case hz => exact byte_of n j
      go_roundw
      case rel =>
        have e : xs ++ leB (j + 1) n = (xs ++ leB j n) ++ [UInt8.ofNat (n / 256 ^ j % 256)] := by rw [leB_snoc, List.append_assoc]
        refine ⟨j + 1, by go_num, by omega, ?_, (hb2.alloc hb2.size _).grown g2 (by simpa using hb3) (own_ge own2)⟩
        rw [e, List.length_append, List.map_append]
        exact own3
      case measure => simp [intOf]; omega
    · obtain rfl : j = k := by omega
      go_wp2
      go_ret
      exact ⟨u7, rfl, own2, hb2⟩

set_option maxHeartbeats 400000 in
theorem put_no (v : Value) (xs : List UInt8) (n : Nat) (k : Int) (w : World) (h : Rd w v xs) (hl : xs.length ≤ 1000000000000) (hw : isW k = false) :
    Calls Try.prog 20 #[v, .int .u64 n, .int .i64 k] w (Own w 5 xs) := by
  have HR := Lib.hid h
  have HW := Lib.hid hw
  have HLL := Lib.hid hl
  clear h hw hl
  go_enter Try.func20, Try.ntmps20
  go_wp2_with (fail)
  refine (isWidth_any _ _).mono ?_
  rintro e w1 ⟨rfl, rfl⟩
  rw [HW.out]
  go_wp2_with (fail)
  refine (copied_any v xs 0 _ HR.out (by have := HLL.out; omega) (by omega) (by omega)).mono ?_
  rintro e w1 ⟨v1, rfl, own1, hb1⟩
  go_wp2_with (fail)
  go_rounds 1
  go_ret
  exact ⟨v1, rfl, own1, hb1⟩
end Go.Proofs.Ytmdpoceadjdhmaa
