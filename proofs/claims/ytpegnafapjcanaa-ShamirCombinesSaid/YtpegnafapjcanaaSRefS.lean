/- The contract of the eighth reference's SameShares. Conditions: shares of 33 bytes, at most 1000. -/
import Derived.Test.YtpegnafapjcanaaSRefP
namespace Go.Proofs.Ytpegnafapjcanaa
open Go.RowKit

def SamRel (A B : List (List UInt8)) (w : World) (v : Value) (W : World) : Prop := ∃ i m : Nat, v = .int .i64 (i : Int) ∧ i ≤ A.length ∧ (∀ q, q < i → A.getD q [] = B.getD q []) ∧ W = w.drewN m
theorem same_lists {A B : List (List UInt8)} (hl : A.length = B.length) (h : ∀ q, q < A.length → A.getD q [] = B.getD q []) : A = B := by
  apply List.ext_getElem hl
  intro q h1 h2
  have h3 := h q h1
  rw [List.getD, List.getD, List.getElem?_eq_getElem h1, List.getElem?_eq_getElem h2] at h3
  exact h3
set_option maxRecDepth 100000 in
set_option maxHeartbeats 2000000 in
theorem refSame_any (va vb : Value) (A B : List (List UInt8)) (w : World) (hra : Rf 33 w va A) (hrb : Rf 33 w vb B) (hna : A.length ≤ 1000) (hnb : B.length ≤ 1000) :
    Calls Try.prog 14 #[va, vb] w fun e w' => e = .returned (.bool (decide (A = B))) ∧ ∃ m, w' = w.drewN m := by
  obtain ⟨Aa, ca, rfl, _, _, hA⟩ := hra.form
  obtain ⟨Ab, cb, rfl, _, _, hB⟩ := hrb.form
  have HA := Lib.hid hA
  have HB := Lib.hid hB
  have HL1 := Lib.hid hra.1
  have HL2 := Lib.hid hrb.1
  have aI : (A.length : Int) ≤ 1000 := by omega
  have bI : (B.length : Int) ≤ 1000 := by omega
  have HI : Hid ((Try.prog.info? 31).map (·.size) = some 33) := Lib.hid (size_of info_share)
  clear hA hB hra hrb hna hnb
  by_cases hl : A.length = B.length
  · have lI : (A.length : Int) = B.length := by omega
    have HLL := Lib.hid hl
    go_enter Try.func14, Try.ntmps14
    rw [hl]
    clear hl lI
    go_wp2_with (fail)
    go_loopw [5] (fun v wx => SamRel A B w v wx) (fun v _ => B.length - (intOf v).toNat)
    case atStart => exact ⟨0, 0, rfl, by omega, fun q h => by omega, rfl⟩
    case round =>
      obtain ⟨i, m0, rfl, hi, hno, rfl⟩ := hrel
      by_cases hlt : i < B.length
      · have hI : (i : Int) < B.length := by omega
        obtain ⟨b, off, rfl, hb1, hb3⟩ := HA.out (by have := HLL.out; omega)
        obtain ⟨g, og, rfl, hg1, hg3⟩ := HB.out (by omega)
        obtain ⟨xs, hxs⟩ : ∃ xs, xs = A.getD i [] := ⟨_, rfl⟩
        obtain ⟨ys, hys⟩ : ∃ ys, ys = B.getD i [] := ⟨_, rfl⟩
        have RX : Hid (∀ W, (∃ n, W = (w.drewN m0).drewN n) → W.rangeAt b (off + i * 33) (xs.map bv)) := Lib.hid (range_drewN (by
          rw [hxs]
          exact range_drewN (el_range HL1.out hb3 (by have := HLL.out; omega)) _ ⟨m0, rfl⟩))
        have RY : Hid (∀ W, (∃ n, W = (w.drewN m0).drewN n) → W.rangeAt g (og + i * 33) (ys.map bv)) := Lib.hid (range_drewN (by
          rw [hys]
          exact range_drewN (el_range HL2.out hg3 hlt) _ ⟨m0, rfl⟩))
        have LX : Hid ((xs.map bv).length = 33) := Lib.hid (by rw [List.length_map, hxs]; exact len_get HL1.out (by have := HLL.out; omega))
        have LY : Hid ((ys.map bv).length = 33) := Lib.hid (by rw [List.length_map, hys]; exact len_get HL2.out hlt)
        have hq : ∀ W, (Op.equalIn 10000 31 (.agg (xs.map bv).toArray) (.agg (ys.map bv).toArray)).run Try.prog W = .ok (decide (xs = ys)) W := fun W => run_equalIn_share xs ys (by simpa using LX.out) (by simpa using LY.out) W
        have HLT := Lib.hid hlt
        by_cases hxy : xs = ys
        · have hd : decide (xs = ys) = true := decide_eq_true hxy
          have HNO : Hid (∀ q, q < i + 1 → A.getD q [] = B.getD q []) := Lib.hid fun q h => by
            by_cases e : q = i
            · rw [e, ← hxs, ← hys]; exact hxy
            · exact hno q (by omega)
          rw [hd] at hq
          clear hb3 hg3 hxs hys hno hxy hd hlt hi
          go_wp2_with (fail)
          refine wp_region_quiet_lit (by kernel_rfl) (by kernel_rfl) ?_
          repeat (go_big_quiet_step (fail))
          refine wpQuiet_load_mid rfl 20 rfl 31 (.tmp 19) rfl b (off + i * 33) rfl (xs.map bv) _ RX.out Try.underlying31 rfl (by rw [LX.out]; exact HI.out) ?_
          simp only [List.set_cons_zero, List.set_cons_succ]
          repeat (go_big_quiet_step (fail))
          refine wpQuiet_load_mid rfl 24 rfl 31 (.tmp 23) rfl g (og + i * 33) rfl (ys.map bv) _ RY.out Try.underlying31 rfl (by rw [LY.out]; exact HI.out) ?_
          simp only [List.set_cons_zero, List.set_cons_succ]
          repeat (go_big_quiet_step (fail))
          refine wpQuiet_nil ?_
          intro wq hwq
          obtain ⟨nq, rfl⟩ := hwq
          go_wp2_with (fail)
          refine ⟨⟨i + 1, _, by go_num, by have h1 := HLL.out; have h2 := HLT.out; omega, HNO.out, rfl⟩, by have h2 := HLT.out; simp [intOf]; omega⟩
        · have hd : decide (xs = ys) = false := decide_eq_false hxy
          have HNE : Hid (decide (A = B) = false) := Lib.hid (decide_eq_false fun e => hxy (by rw [hxs, hys, e]))
          rw [hd] at hq
          clear hb3 hg3 hxs hys hno hxy hd hlt hi
          go_wp2_with (fail)
          refine wp_region_quiet_lit (by kernel_rfl) (by kernel_rfl) ?_
          repeat (go_big_quiet_step (fail))
          refine wpQuiet_load_mid rfl 20 rfl 31 (.tmp 19) rfl b (off + i * 33) rfl (xs.map bv) _ RX.out Try.underlying31 rfl (by rw [LX.out]; exact HI.out) ?_
          simp only [List.set_cons_zero, List.set_cons_succ]
          repeat (go_big_quiet_step (fail))
          refine wpQuiet_load_mid rfl 24 rfl 31 (.tmp 23) rfl g (og + i * 33) rfl (ys.map bv) _ RY.out Try.underlying31 rfl (by rw [LY.out]; exact HI.out) ?_
          simp only [List.set_cons_zero, List.set_cons_succ]
          repeat (go_big_quiet_step (fail))
          refine wpQuiet_nil ?_
          intro wq hwq
          obtain ⟨nq, rfl⟩ := hwq
          go_wp2_with (fail)
          go_ret
          exact ⟨by rw [HNE.out]; rfl, m0 + nq, World.drewN_drewN ..⟩
      · have HE : Hid (decide (A = B) = true) := Lib.hid (decide_eq_true (same_lists HLL.out fun q hq => hno q (by have := HLL.out; omega)))
        obtain rfl : i = B.length := by have := HLL.out; omega
        clear hno hi hlt
        go_wp2_with (fail)
        go_ret
        exact ⟨by rw [HE.out]; rfl, m0, rfl⟩
  · have lI : (A.length : Int) ≠ B.length := by omega
    have HNE : Hid (decide (A = B) = false) := Lib.hid (decide_eq_false fun e => hl (by rw [e]))
    clear hl
    go_enter Try.func14, Try.ntmps14
    go_wp2_with (fail)
    go_ret
    exact ⟨by rw [HNE.out]; rfl, 0, rfl⟩
end Go.Proofs.Ytpegnafapjcanaa
