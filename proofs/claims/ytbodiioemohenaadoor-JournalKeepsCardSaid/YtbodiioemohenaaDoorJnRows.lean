/- The contract of the reference's SameRows: are two rows of rows of bytes one? Conditions: both read as rows of bytes. -/
import Derived.Test.YtbodiioemohenaaDoorPart12
import Derived.Test.YtbodiioemohenaaDoorSame
import Derived.Test.YtbodiioemohenaaDoorPart4
import Derived.BigQuiet
namespace Go.Proofs.YtbodiioemohenaaDoor
open Go.RowKit

theorem rows_step {xs ys : List (List UInt8)} {k : Nat} (hk : k < xs.length) (hl : xs.length = ys.length) (h : xs.take k = ys.take k) (he : xs[k] = ys[k]'(by omega)) : xs.take (k + 1) = ys.take (k + 1) := by
  rw [List.take_succ_eq_append_getElem hk, List.take_succ_eq_append_getElem (by omega), h, he]
theorem rows_no {xs ys : List (List UInt8)} {k : Nat} (hk : k < xs.length) (hl : xs.length = ys.length) (he : xs[k] ≠ ys[k]'(by omega)) : decide (xs = ys) = false := by
  rw [decide_eq_false_iff_not]
  rintro rfl
  exact he rfl
set_option maxHeartbeats 1000000 in
theorem rows_any (va vb : Value) (xs ys : List (List UInt8)) (w : World) (ha : RsA w va xs) (hb : RsA w vb ys) :
    Calls Tryd.prog 15 #[va, vb] w fun e w' => e = .returned (.bool (decide (xs = ys))) ∧ ∃ n, w' = w.drewN n := by
  obtain ⟨A, c, rfl, hc, hA⟩ := ha.ex
  obtain ⟨B, d, rfl, hd, hB⟩ := hb.ex
  unfold maxLen at hc hd
  by_cases hl : xs.length = ys.length
  · have HL := Lib.hid hl
    have hL1 : ((xs.length : Int) != ys.length) = false := by rw [bne_eq_false_iff_eq]; omega
    have HA := Lib.hid hA
    have HB := Lib.hid hB
    clear hA hB hl ha hb
    go_enter Tryd.func15, Tryd.ntmps15
    go_wp2
    go_loopw [5] (fun i wr => ∃ k n : Nat, k ≤ xs.length ∧ i = .int .i64 k ∧ wr = w.drewN n ∧ xs.take k = ys.take k) (fun i _ => xs.length - (intOf i).toNat)
    case atStart => exact ⟨0, 0, by omega, rfl, rfl, rfl⟩
    case round =>
      obtain ⟨k, n, hk, rfl, rfl, ht⟩ := hrel
      have HT := Lib.hid ht
      clear ht
      by_cases hlt : k < xs.length
      · have hlt' : k < ys.length := by have := HL.out; omega
        obtain ⟨b, off, u, rfl, _, c1, r1, _⟩ := HA.out k hlt
        obtain ⟨b', off', u', rfl, _, c1', r1', _⟩ := HB.out k hlt'
        have M1 : Hid (∀ m, Calls Tryd.prog 14 #[u, u'] (w.drewN m) fun e w' => e = .returned (.bool (decide (xs[k] = ys[k]))) ∧ ∃ q, w' = (w.drewN m).drewN q) := Lib.hid fun m => same_any u u' _ _ _ (r1.drewN m) (r1'.drewN m)
        clear r1 r1'
        by_cases he : xs[k] = ys[k]
        · rw [decide_eq_true he] at M1
          have HE := Lib.hid he
          clear he
          go_wp2
          go_quiet (first | (go_at_call 14; exact quiet_add (M1.out _)))
          go_wp2
          go_roundw
          case rel => exact ⟨k + 1, _, by omega, by go_num, rfl, rows_step hlt HL.out HT.out HE.out⟩
          case measure => simp [intOf]; omega
        · rw [decide_eq_false he] at M1
          have HE := Lib.hid he
          clear he
          go_wp2
          go_quiet (first | (go_at_call 14; exact quiet_add (M1.out _)))
          go_wp2
          go_ret
          exact ⟨ret_b (rows_no hlt HL.out HE.out).symm, n + _, World.drewN_drewN _ _ _⟩
      · have HX : Hid (xs = ys) := by
          have h1 := HT.out
          have h2 := HL.out
          rwa [List.take_of_length_le (by omega), List.take_of_length_le (by omega)] at h1
        go_wp2
        go_ret
        exact ⟨ret_b (decide_eq_true HX.out).symm, _, rfl⟩
  · have hL1 : ((xs.length : Int) != ys.length) = true := by rw [bne_iff_ne]; omega
    have HL := Lib.hid hl
    clear hl hA hB ha hb
    go_enter Tryd.func15, Tryd.ntmps15
    go_wp2
    go_ret
    exact ⟨ret_b (decide_eq_false fun h => HL.out (by rw [h])).symm, 0, rfl⟩
end Go.Proofs.YtbodiioemohenaaDoor
