/- The contracts of num's copied and PutShort: new memory, what came in and the short form behind it. Conditions: what comes in reads as at most 2^40 bytes; the number fits uint64. -/
import Derived.Test.YtenmdogalnhbjaaMem
import Derived.Laws.BitsAllLaws
namespace Go.Proofs.Ytenmdogalnhbjaa
open Go.RowKit

set_option maxHeartbeats 400000 in
theorem copied_any (v : Value) (xs : List UInt8) (more : Int) (w : World) (h : Rd w v xs) (hl : xs.length ≤ 1099511627776) (hm0 : 0 ≤ more) (hm : more ≤ 1000) :
    Calls Try.prog 26 #[v, .int .i64 more] w (Own w 5 xs) := by
  obtain ⟨i0, hi, hz0, hz1, hz2⟩ := info_parts info_u8
  obtain ⟨A, c, rfl, hc1, hc2, hA⟩ := h.form
  have HR := Lib.hid h
  have HA := Lib.hid hA
  clear hA h
  unfold maxLen at hc2
  go_enter Try.func26, Try.ntmps26
  go_wp2_with (first
    | (at_make
       refine wpList_make_own _ rfl _ _ _ rfl w.heap.size 5 i0 _ 1 Try.underlying22 hi hz0 hz1 _ _ _ (xs.length + more.toNat) rfl rfl ?_ ?_ ?_ (Nat.le_refl _) ?_
       · omega
       · rw [hz2]; omega
       · unfold maxLen; omega
       intro w1 own1 g1)
    | (at_builtin
       refine wpList_append_rd _ rfl _ _ _ rfl w.heap.size 5 i0 _ Try.underlying22 hi hz0 hz1 hz2 rfl _ 0 [] rfl own1 _ xs rfl (HR.out.below ((Below.refl _ _).grown g1 (Nat.le_refl _) (by simp))) ?_ ?_ ?_
       · omega
       · exact g1.size
       intro v2 w2 own2 g2))
  go_ret
  have hb1 : Below w.heap.size w w1 := (Below.refl _ _).grown g1 (Nat.le_refl _) (by simp)
  exact ⟨v2, rfl, by simpa using own2, hb1.grown g2 hb1.size (own_ge own1)⟩

/-- The bytes of a short form. -/
def shortB (fuel : Nat) (n : Nat) : List UInt8 :=
  match fuel with
  | 0 => [UInt8.ofNat n]
  | fuel + 1 => if n < 128 then [UInt8.ofNat n] else UInt8.ofNat (n % 128 + 128) :: shortB fuel (n / 128)

theorem short_last {m : Nat} (h : (m : Int) < 128) : (m : Int) = ((UInt8.ofNat m).toNat : Int) := by
  rw [UInt8.toNat_ofNat']
  omega
theorem short_more (m : Nat) : bits .or .u8 ((m : Int) % 256) 128 = ((UInt8.ofNat (m % 128 + 128)).toNat : Int) := by
  have h : ∀ a : Fin 256, a.val ||| 128 = a.val % 128 + 128 := by decide +kernel
  have h1 := h ⟨m % 256, by omega⟩
  have h2 := u8_or_nat (m % 256) 128 (by omega) (by omega)
  have h3 : ((m : Int) % 256) = ((m % 256 : Nat) : Int) := by omega
  rw [h3]
  refine Eq.trans h2 ?_
  rw [UInt8.toNat_ofNat']
  simp only at h1
  omega
theorem shortB_last {f m : Nat} (h : (m : Int) < 128) : shortB f m = [UInt8.ofNat m] := by
  cases f with
  | zero => rfl
  | succ f => rw [shortB, if_pos (by omega)]
theorem shortB_more {f m : Nat} (h : ¬ (m : Int) < 128) : shortB (f + 1) m = UInt8.ofNat (m % 128 + 128) :: shortB f (m / 128) := by
  rw [shortB, if_neg (by omega)]
theorem short_fuel {f m : Nat} (h : ¬ (m : Int) < 128) (hm : m < 2 * 128 ^ f) : ∃ g, f = g + 1 ∧ m / 128 < 2 * 128 ^ g := by
  cases f with
  | zero => simp at hm; omega
  | succ g => exact ⟨g, rfl, by rw [Nat.pow_succ] at hm; omega⟩
def PsRel (w : World) (xs zs : List UInt8) (i v : Value) (wr : World) : Prop :=
  ∃ (f m : Nat) (ys : List UInt8), i = .int .u64 m ∧ m < 2 * 128 ^ f ∧ f ≤ 9 ∧ ys.length + f ≤ xs.length + 9 ∧ wr.ownsRow w.heap.size 5 1 v ys.length (ys.map bv) ∧ Below w.heap.size w wr ∧ ys ++ shortB f m = zs

set_option maxRecDepth 100000 in
set_option maxHeartbeats 400000 in
theorem putShort_any (v : Value) (xs : List UInt8) (n : Nat) (w : World) (h : Rd w v xs) (hl : xs.length ≤ 1000000000000) (hn : (n : Int) ≤ 18446744073709551615) :
    Calls Try.prog 24 #[v, .int .u64 n] w (Own w 5 (xs ++ shortB 9 n)) := by
  obtain ⟨i0, hi, hz0, hz1, hz2⟩ := info_parts info_u8
  have HR := Lib.hid h
  clear h
  go_enter Try.func24, Try.ntmps24
  go_wp2_with (fail)
  refine (copied_any v xs 10 _ HR.out (by omega) (by omega) (by omega)).mono ?_
  rintro e w1 ⟨v1, rfl, own1, hb1⟩
  go_wp2_with (fail)
  obtain ⟨zs, hzs⟩ : ∃ zs, zs = xs ++ shortB 9 n := ⟨_, rfl⟩
  rw [← hzs]
  have HZ := Lib.hid hzs
  clear hzs
  go_loopw [1, 5] (fun i v wr => PsRel w xs zs i v wr) (fun i _ _ => (intOf i).toNat)
  case atStart => exact ⟨9, n, xs, rfl, by omega, by omega, by omega, own1, hb1, HZ.out.symm⟩
  case round =>
    obtain ⟨f, m, ys, rfl, hm, hf, hy, own2, hb2, heq⟩ := hrel
    have HE := Lib.hid heq
    have HM := Lib.hid hm
    have hmm : (m : Int) ≤ 18446744073709551615 := by
      have : (128 : Nat) ^ f ≤ 128 ^ 9 := Nat.pow_le_pow_right (by omega) hf
      omega
    have HB := Lib.hid hl
    clear heq hm hn
    clear hl
    have hb3 : w.heap.size ≤ wr.heap.size + 1 := by have := hb2.size; have := hb1.size; omega
    have hy3 : ys.length + 1 ≤ 140737488355328 := by have := HB.out; omega
    have HY := Lib.hid hy3
    clear hy3
    by_cases h128 : (m : Int) < 128
    · go_wp2_with (at_builtin
                   refine wpList_append_rd _ rfl _ _ _ rfl w.heap.size 5 i0 _ Try.underlying22 hi hz0 hz1 hz2 rfl u5 ys.length (ys.map bv) rfl (own2.alloc _) _ [UInt8.ofNat m] rfl (rd_one ?_) ?_ ?_ ?_
                   · exact short_last h128
                   · exact HY.out
                   · simpa using hb3
                   intro v2 w2 own3 g2)
      go_ret
      have hX : xs ++ shortB 9 n = ys ++ [UInt8.ofNat m] := by rw [← HZ.out, ← HE.out, shortB_last h128]
      rw [hX]
      exact ⟨v2, rfl, by simpa using own3, (hb2.alloc hb2.size _).grown g2 (by simpa using hb3) (own_ge own2)⟩
    · go_wp2_with (at_builtin
                   refine wpList_append_rd _ rfl _ _ _ rfl w.heap.size 5 i0 _ Try.underlying22 hi hz0 hz1 hz2 rfl u5 ys.length (ys.map bv) rfl (own2.alloc _) _ [UInt8.ofNat (m % 128 + 128)] rfl (rd_one ?_) ?_ ?_ ?_
                   · exact short_more m
                   · exact HY.out
                   · simpa using hb3
                   intro v2 w2 own3 g2)
      go_roundw
      case rel =>
        obtain ⟨g, rfl, hg⟩ := short_fuel h128 HM.out
        refine ⟨g, m / 128, ys ++ [UInt8.ofNat (m % 128 + 128)], by go_num, hg, by omega, by simp; omega, by simpa using own3, (hb2.alloc hb2.size _).grown g2 (by simpa using hb3) (own_ge own2), ?_⟩
        rw [← HE.out, shortB_more h128]
        simp
      case measure => simp [intOf]; omega
end Go.Proofs.Ytenmdogalnhbjaa
