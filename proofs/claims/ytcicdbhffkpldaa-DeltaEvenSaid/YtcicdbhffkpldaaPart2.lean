/- Part 2 of the words that the laws share: Bytes, PutShort, Width, Get, GetNo. No condition of its own: each theorem says its own. -/
import Derived.Test.YtcicdbhffkpldaaPart1
import Derived.Test.YtcicdbhffkpldaaPart16
import Derived.Laws.BitsAllLaws

/- Numbers and their forms as bytes: plain words, with no program in sight. No condition of its own. -/
namespace Go.Proofs.Ytcicdbhffkpldaa
open Go.RowKit

/-- The number whose form these bytes are. -/
def numB : List UInt8 → Nat
  | [] => 0
  | x :: r => x.toNat + 256 * numB r
theorem numB_lt (xs : List UInt8) : numB xs < 256 ^ xs.length := by
  induction xs with
  | nil => simp [numB]
  | cons x r ih =>
    have := x.toNat_lt
    rw [numB, List.length_cons, Nat.pow_succ]
    omega
theorem numB_snoc (xs : List UInt8) (c : UInt8) : numB (xs ++ [c]) = numB xs + 256 ^ xs.length * c.toNat := by
  induction xs with
  | nil => simp [numB]
  | cons x r ih =>
    rw [List.cons_append, numB, ih, numB, List.length_cons, Nat.pow_succ]
    rw [Nat.mul_add, ← Nat.mul_assoc, Nat.mul_comm 256 (256 ^ _)]
    omega

theorem numB_drop (xs : List UInt8) (j : Nat) (h : j < xs.length) : numB (xs.drop j) = numB (xs.drop (j + 1)) * 256 + (xs[j]).toNat := by
  rw [List.drop_eq_getElem_cons h, numB]
  omega
/-- The lowest k bytes of n, the lowest first. -/
def leB : Nat → Nat → List UInt8
  | 0, _ => []
  | k + 1, n => UInt8.ofNat (n % 256) :: leB k (n / 256)
theorem leB_length (k n : Nat) : (leB k n).length = k := by
  induction k generalizing n with
  | zero => rfl
  | succ k ih => simp [leB, ih]
theorem leB_snoc (k n : Nat) : leB (k + 1) n = leB k n ++ [UInt8.ofNat (n / 256 ^ k % 256)] := by
  induction k generalizing n with
  | zero => simp [leB]
  | succ k ih =>
    rw [leB, ih, leB, List.cons_append]
    congr 3
    rw [Nat.div_div_eq_div_mul, Nat.pow_succ, Nat.mul_comm 256]
theorem pow8 (j : Nat) : (2 : Int) ^ (8 * j) = ((256 ^ j : Nat) : Int) := by
  rw [Int.pow_mul]
  simp
theorem byte_of (n j : Nat) : (n : Int) / 2 ^ (8 * j) % 256 = ((UInt8.ofNat (n / 256 ^ j % 256)).toNat : Int) := by
  rw [pow8, UInt8.toNat_ofNat']
  omega
end Go.Proofs.Ytcicdbhffkpldaa

/- The contract of num's PutShort: new memory, what came in and the short form behind it. Conditions: what comes in reads as at most 2^40 bytes; the number fits uint64. -/
namespace Go.Proofs.Ytcicdbhffkpldaa
open Go.RowKit

theorem short_last {m : Nat} (h : (m : Int) < 128) : (m : Int) = ((UInt8.ofNat m).toNat : Int) := by
  rw [UInt8.toNat_ofNat']
  omega
theorem short_more (m : Nat) : bits .or .u8 ((m : Int) % 256) 128 = ((UInt8.ofNat (m % 128 + 128)).toNat : Int) := by
  have h : ∀ a : Fin 256, a.val ||| 128 = a.val % 128 + 128 := by decide +kernel
  have h1 := h ⟨m % 256, by omega⟩
  have h2 := u8_or_nat (m % 256) 128 (by omega) (by omega)
  have h3 : ((m : Int) % 256) = ((m % 256 : Nat) : Int) := by omega
  rw [h3]
  refine Eq.trans h2 ?_
  rw [UInt8.toNat_ofNat']
  simp only at h1
  omega
theorem short_fuel {f m : Nat} (h : ¬ (m : Int) < 128) (hm : m < 2 * 128 ^ f) : ∃ g, f = g + 1 ∧ m / 128 < 2 * 128 ^ g := by
  cases f with
  | zero => simp at hm; omega
  | succ g => exact ⟨g, rfl, by rw [Nat.pow_succ] at hm; omega⟩
def PsRel (w : World) (xs zs : List UInt8) (i v : Value) (wr : World) : Prop :=
  ∃ (f m : Nat) (ys : List UInt8), i = .int .u64 m ∧ m < 2 * 128 ^ f ∧ f ≤ 9 ∧ ys.length + f ≤ xs.length + 9 ∧ wr.ownsRow w.heap.size 5 1 v ys.length (ys.map bv) ∧ Below w.heap.size w wr ∧ ys ++ shortB f m = zs

set_option maxRecDepth 100000 in
set_option maxHeartbeats 400000 in
theorem putShort_any (v : Value) (xs : List UInt8) (n : Nat) (w : World) (h : Rd w v xs) (hl : xs.length ≤ 1000000000000) (hn : (n : Int) ≤ 18446744073709551615) :
    Calls Try.prog 33 #[v, .int .u64 n] w (Own w 5 (xs ++ shortB 9 n)) := by
  obtain ⟨i0, hi, hz0, hz1, hz2⟩ := info_parts info_u8
  have HR := Lib.hid h
  clear h
  go_enter Try.func33, Try.ntmps33
  go_wp2_with (fail)
  refine (copied_any v xs 10 _ HR.out (by omega) (by omega) (by omega)).mono ?_
  rintro e w1 ⟨v1, rfl, own1, hb1⟩
  go_wp2_with (fail)
  obtain ⟨zs, hzs⟩ : ∃ zs, zs = xs ++ shortB 9 n := ⟨_, rfl⟩
  rw [← hzs]
  have HZ := Lib.hid hzs
  clear hzs
  go_loopw [1, 5] (fun i v wr => PsRel w xs zs i v wr) (fun i _ _ => (intOf i).toNat)
  case atStart => exact ⟨9, n, xs, rfl, by omega, by omega, by omega, own1, hb1, HZ.out.symm⟩
  case round =>
    obtain ⟨f, m, ys, rfl, hm, hf, hy, own2, hb2, heq⟩ := hrel
    have HE := Lib.hid heq
    have HM := Lib.hid hm
    have hmm : (m : Int) ≤ 18446744073709551615 := by
      have : (128 : Nat) ^ f ≤ 128 ^ 9 := Nat.pow_le_pow_right (by omega) hf
      omega
    have HB := Lib.hid hl
    clear heq hm hn
    clear hl
    have hb3 : w.heap.size ≤ wr.heap.size + 1 := by have := hb2.size; have := hb1.size; omega
    have hy3 : ys.length + 1 ≤ 140737488355328 := by have := HB.out; omega
    have HY := Lib.hid hy3
    clear hy3
    by_cases h128 : (m : Int) < 128
    · go_wp2_with (at_builtin
                   refine wpList_append_rd _ rfl _ _ _ rfl w.heap.size 5 i0 _ Try.underlying25 hi hz0 hz1 hz2 rfl u5 ys.length (ys.map bv) rfl (own2.alloc _) _ [UInt8.ofNat m] rfl (rd_one ?_) ?_ ?_ ?_
                   · exact short_last h128
                   · exact HY.out
                   · simpa using hb3
                   intro v2 w2 own3 g2)
      go_ret
      have hX : xs ++ shortB 9 n = ys ++ [UInt8.ofNat m] := by rw [← HZ.out, ← HE.out, shortB_last h128]
      rw [hX]
      exact ⟨v2, rfl, by simpa using own3, (hb2.alloc hb2.size _).grown g2 (by simpa using hb3) (own_ge own2)⟩
    · go_wp2_with (at_builtin
                   refine wpList_append_rd _ rfl _ _ _ rfl w.heap.size 5 i0 _ Try.underlying25 hi hz0 hz1 hz2 rfl u5 ys.length (ys.map bv) rfl (own2.alloc _) _ [UInt8.ofNat (m % 128 + 128)] rfl (rd_one ?_) ?_ ?_ ?_
                   · exact short_more m
                   · exact HY.out
                   · simpa using hb3
                   intro v2 w2 own3 g2)
      go_roundw
      case rel =>
        obtain ⟨g, rfl, hg⟩ := short_fuel h128 HM.out
        refine ⟨g, m / 128, ys ++ [UInt8.ofNat (m % 128 + 128)], by go_num, hg, by omega, by simp; omega, by simpa using own3, (hb2.alloc hb2.size _).grown g2 (by simpa using hb3) (own_ge own2), ?_⟩
        rw [← HE.out, shortB_more h128]
        simp
      case measure => simp [intOf]; omega
end Go.Proofs.Ytcicdbhffkpldaa

/- The contract of num's isWidth. No condition of its own. -/
namespace Go.Proofs.Ytcicdbhffkpldaa
open Go.RowKit

def isW (k : Int) : Bool := decide (1 ≤ k) && decide (k ≤ 8)
set_option maxHeartbeats 400000 in
theorem isWidth_any (k : Int) (w : World) :
    Calls Try.prog 36 #[.int .i64 k] w fun e w' => e = .returned (.bool (isW k)) ∧ w = w' := by
  by_cases h1 : 1 ≤ k
  · have e : isW k = decide (k ≤ 8) := by simp [isW, h1]
    rw [e]
    go_enter Try.func36, Try.ntmps36
    go_wp2
    go_ret
    exact ⟨rfl, rfl⟩
  · have e : isW k = false := by simp [isW, h1]
    rw [e]
    go_enter Try.func36, Try.ntmps36
    go_wp2
    go_ret
    exact ⟨rfl, rfl⟩
end Go.Proofs.Ytcicdbhffkpldaa

/- The contract of num.Get at a width that may be, where there are bytes enough. No condition of its own. -/
namespace Go.Proofs.Ytcicdbhffkpldaa
open Go.RowKit

theorem pow8g (j : Nat) : (2 : Int) ^ (8 * j) = ((256 ^ j : Nat) : Int) := by
  rw [Int.pow_mul]
  simp
/-- A number of fewer than j bytes, and a byte ahead of them. -/
theorem or_byte (n c j : Nat) (hn : n < 256 ^ j) (hc : c < 256) (hj : j < 8) : bits .or .u64 (n : Int) (IntKind.u64.wrap ((c : Int) * 2 ^ (8 * j))) = ((n + 256 ^ j * c : Nat) : Int) := by
  have h1 : (256 : Nat) ^ j * 256 ≤ 18446744073709551616 := by
    have : (256 : Nat) ^ (j + 1) ≤ 256 ^ 8 := Nat.pow_le_pow_right (by omega) (by omega)
    rw [Nat.pow_succ] at this
    omega
  have h2 : 256 ^ j * c < 256 ^ j * 256 := Nat.mul_lt_mul_of_pos_left hc (Nat.pow_pos (by omega))
  have e : (c : Int) * 2 ^ (8 * j) = ((256 ^ j * c : Nat) : Int) := by rw [pow8g, Int.natCast_mul, Int.mul_comm]
  have h3 : n < 2 ^ (8 * j) := by rw [Nat.pow_mul]; exact hn
  have h4 := Nat.two_pow_add_eq_or_of_lt h3 c
  have e2 : (2 : Nat) ^ (8 * j) = 256 ^ j := by rw [Nat.pow_mul]
  rw [e, IntWalk.u64_in _ (by omega), u64_or_nat n (256 ^ j * c) (by omega) (by omega)]
  rw [e2] at h4
  rw [Nat.or_comm, ← h4, Nat.add_comm]

def GetRel (xs : List UInt8) (k : Nat) (s i : Value) : Prop := ∃ j : Nat, i = .int .i64 j ∧ j ≤ k ∧ s = .int .u64 (numB (xs.take j) : Nat)
set_option maxHeartbeats 400000 in
theorem get_yes (v : Value) (xs : List UInt8) (k : Nat) (w : World) (h : Rd w v xs) (h1 : 1 ≤ k) (h8 : k ≤ 8) (hk : k ≤ xs.length) :
    Calls Try.prog 26 #[v, .int .i64 k] w fun e w' => e = .returned (.tuple #[.int .u64 (numB (xs.take k) : Nat), .int .i64 0]) ∧ w = w' := by
  have hw : isW (k : Int) = true := by simp [isW]; omega
  have HW := Lib.hid hw
  obtain ⟨A, c, rfl, hc1, hc2, hA⟩ := h.form
  unfold maxLen at hc2
  obtain ⟨b, off, rfl, hb1, hb2⟩ := hA (by omega)
  have HB := Lib.hid hb2
  clear hw h hA hb2
  go_enter Try.func26, Try.ntmps26
  go_wp2_with (fail)
  refine (isWidth_any _ _).mono ?_
  rintro e w1 ⟨rfl, rfl⟩
  rw [HW.out]
  go_wp2_with (fail)
  go_loop [6, 16] (fun s i => GetRel xs k s i) (fun _ i => k - (intOf i).toNat)
  case atStart => exact ⟨0, rfl, by omega, rfl⟩
  case round =>
    obtain ⟨j, rfl, hj, rfl⟩ := hrel
    by_cases hlt : j < k
    · have hc := HB.out j (by omega)
      obtain ⟨m, hm⟩ : ∃ m, m = numB (xs.take j) := ⟨_, rfl⟩
      obtain ⟨x, hx⟩ : ∃ x, x = (xs[j]'(by omega)).toNat := ⟨_, rfl⟩
      rw [← hm]
      rw [← hx] at hc
      have hxl : x < 256 := by rw [hx]; exact UInt8.toNat_lt _
      have hml : m < 256 ^ j := by
        have := numB_lt (xs.take j)
        rw [List.length_take, Nat.min_eq_left (by omega)] at this
        rw [hm]; exact this
      have HO := or_byte m x j hml hxl (by omega)
      have HX := Lib.hid hx
      have HM := Lib.hid hm
      have HML := Lib.hid hml
      clear hx hm hml
      go_wp2
      go_round
      case rel =>
        refine ⟨j + 1, by go_num, by omega, ?_⟩
        have e1 : j < xs.length := by omega
        have e2 : numB (xs.take (j + 1)) = m + 256 ^ j * x := by
          rw [List.take_succ_eq_append_getElem e1, numB_snoc, List.length_take, Nat.min_eq_left (by omega), HM.out, HX.out]
        rw [e2]
        exact congrArg (Value.int .u64) (by simp)
      case measure => simp [intOf]; omega
    · obtain rfl : j = k := by omega
      go_wp2
      go_ret2
      exact ⟨rfl, rfl⟩

end Go.Proofs.Ytcicdbhffkpldaa

/- The developers' Get of too few bytes. Condition: at least one byte is asked, at most eight. -/
namespace Go.Proofs.Ytcicdbhffkpldaa
open Go.RowKit

set_option maxHeartbeats 400000 in
theorem get_no (v : Value) (xs : List UInt8) (k : Nat) (w : World) (h : Rd w v xs) (h1 : 1 ≤ k) (h8 : k ≤ 8) (hk : xs.length < k) :
    Calls Try.prog 26 #[v, .int .i64 k] w fun e w' => e = .returned (.tuple #[.int .u64 0, .int .i64 2]) ∧ w = w' := by
  have hw : isW (k : Int) = true := by simp [isW]; omega
  have HW := Lib.hid hw
  obtain ⟨A, c, rfl, hc1, hc2, hA⟩ := h.form
  obtain ⟨n, hn⟩ : ∃ n, n = xs.length := ⟨_, rfl⟩
  rw [← hn] at hk ⊢
  have kI : (n : Int) < k := by omega
  clear hw h hA hn hc1 hc2
  go_enter Try.func26, Try.ntmps26
  go_wp2_with (fail)
  refine (isWidth_any _ _).mono ?_
  rintro e w1 ⟨rfl, rfl⟩
  rw [HW.out]
  go_wp2_with (fail)
  go_ret2
  exact ⟨rfl, rfl⟩
end Go.Proofs.Ytcicdbhffkpldaa
