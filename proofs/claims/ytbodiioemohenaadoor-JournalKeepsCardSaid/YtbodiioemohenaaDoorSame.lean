/- The contract of the reference's Same: are two rows of bytes one? Conditions: both read as bytes, of at most 2^40. -/
import Derived.Test.YtbodiioemohenaaDoorPart1
namespace Go.Proofs.YtbodiioemohenaaDoor
open Go.RowKit

theorem same_step {xs ys : List UInt8} {k : Nat} (hk : k < xs.length) (hl : xs.length = ys.length) (h : xs.take k = ys.take k) (he : xs[k] = ys[k]'(by omega)) : xs.take (k + 1) = ys.take (k + 1) := by
  rw [List.take_succ_eq_append_getElem hk, List.take_succ_eq_append_getElem (by omega), h, he]
theorem same_no {xs ys : List UInt8} {k : Nat} (hk : k < xs.length) (hl : xs.length = ys.length) (he : xs[k] ≠ ys[k]'(by omega)) : decide (xs = ys) = false := by
  rw [decide_eq_false_iff_not]
  rintro rfl
  exact he rfl

set_option maxHeartbeats 400000 in
theorem same_any (va vb : Value) (xs ys : List UInt8) (w : World) (ha : Rd w va xs) (hb : Rd w vb ys) :
    Calls Tryd.prog 14 #[va, vb] w fun e w' => e = .returned (.bool (decide (xs = ys))) ∧ ∃ n, w' = w.drewN n := by
  obtain ⟨A, c, rfl, hc1, hc2, hA⟩ := ha.form
  obtain ⟨B, d, rfl, hd1, hd2, hB⟩ := hb.form
  unfold maxLen at hc2 hd2
  by_cases hl : xs.length = ys.length
  · have HL := Lib.hid hl
    have hL1 : ((xs.length : Int) != ys.length) = false := by rw [bne_eq_false_iff_eq]; omega
    have HA := Lib.hid hA
    have HB := Lib.hid hB
    clear hA hB hl ha hb
    go_enter Tryd.func14, Tryd.ntmps14
    go_wp2
    go_loopw [5] (fun i wr => ∃ k n : Nat, k ≤ xs.length ∧ i = .int .i64 k ∧ wr = w.drewN n ∧ xs.take k = ys.take k) (fun i _ => xs.length - (intOf i).toNat)
    case atStart => exact ⟨0, 0, by omega, rfl, rfl, rfl⟩
    case round =>
      obtain ⟨k, n, hk, rfl, rfl, ht⟩ := hrel
      have HT := Lib.hid ht
      clear ht
      by_cases hlt : k < xs.length
      · obtain ⟨b, off, rfl, hb1, hb2⟩ := HA.out (by omega)
        obtain ⟨b', off', rfl, hb1', hb2'⟩ := HB.out (by have := HL.out; omega)
        have hlt' : k < ys.length := by have := HL.out; omega
        have c1 := hb2 k hlt
        have c2 := hb2' k hlt'
        clear hb2 hb2'
        by_cases he : xs[k] = ys[k]
        · have k1 : ((xs[k].toNat : Int) != (ys[k].toNat : Int)) = false := by rw [he]; simp
          have HE := Lib.hid he
          clear he
          go_wp2
          go_quiet (fail)
          go_wp2
          go_roundw
          case rel => exact ⟨k + 1, _, by omega, by go_num, rfl, same_step hlt HL.out HT.out HE.out⟩
          case measure => simp [intOf]; omega
        · have k1 : ((xs[k].toNat : Int) != (ys[k].toNat : Int)) = true := by
            rw [bne_iff_ne]
            intro h
            exact he (UInt8.toNat_inj.1 (by omega))
          have HE := Lib.hid he
          clear he
          go_wp2
          go_quiet (fail)
          go_wp2
          go_ret
          exact ⟨ret_b (same_no hlt HL.out HE.out).symm, n + _, World.drewN_drewN _ _ _⟩
      · have HX : Hid (xs = ys) := by
          have h1 := HT.out
          have h2 := HL.out
          rwa [List.take_of_length_le (by omega), List.take_of_length_le (by omega)] at h1
        go_wp2
        go_ret
        exact ⟨ret_b (decide_eq_true HX.out).symm, _, rfl⟩
  · have hL1 : ((xs.length : Int) != ys.length) = true := by rw [bne_iff_ne]; omega
    have HL := Lib.hid hl
    clear hl hA hB ha hb
    go_enter Tryd.func14, Tryd.ntmps14
    go_wp2
    go_ret
    exact ⟨ret_b (decide_eq_false fun h => HL.out (by rw [h])).symm, 0, rfl⟩
end Go.Proofs.YtbodiioemohenaaDoor
