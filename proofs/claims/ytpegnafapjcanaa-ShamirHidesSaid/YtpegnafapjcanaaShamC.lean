/- What the eighth layer's laws need of shamir's functions, and the walk of the example over that. Premises: the contracts themselves. -/
import Derived.Test.YtpegnafapjcanaaShSpec
import Derived.Test.YtpegnafapjcanaaShVal
import Derived.Test.YtpegnafapjcanaaShEq
import Derived.Test.YtpegnafapjcanaaQLoad
import Derived.Great.Walk
import Derived.Deep.Cut
namespace Go.Proofs.Ytpegnafapjcanaa
open Go.RowKit

def SplitC : Prop := ∀ (sec : List UInt8) (n t : Nat) (v : Value) (draws : List UInt8) (w : World), sec.length = 32 → 1 ≤ t → t ≤ n → n ≤ 12 → Rd w v draws → draws.length ≤ 1000 →
  Calls Try.prog 9 #[arrV sec, .int .i64 (n : Int), .int .i64 (t : Int), v] w fun e w' => ∃ s, e = .returned (.tuple #[s, .int .i64 0]) ∧ Rf 33 w' s (splitB sec n t draws) ∧ Below w.heap.size w w'
def SplitE : Prop := ∀ (sec : List UInt8) (n t : Int) (v : Value) (draws : List UInt8) (w : World), sec.length = 32 → (Lit.int .i64 n).wf = true → (Lit.int .i64 t).wf = true → t < 1 ∨ n < t ∨ 255 < n → Rd w v draws → draws.length ≤ 1000 →
  Calls Try.prog 9 #[arrV sec, .int .i64 n, .int .i64 t, v] w fun e w' => ∃ s, e = .returned (.tuple #[s, .int .i64 1]) ∧ Rf 33 w' s [] ∧ Below w.heap.size w w'
def CombC : Prop := ∀ (v : Value) (L : List (List UInt8)) (w : World), Rf 33 w v L → 0 < L.length → L.length ≤ 8 → placesB L = 0 →
  Calls Try.prog 11 #[v] w fun e w' => e = .returned (.tuple #[arrV (combB L), .int .i64 0]) ∧ Below w.heap.size w w'
def CombE : Prop := ∀ (v : Value) (L : List (List UInt8)) (w : World) (k : Nat), Rf 33 w v L → L.length ≤ 8 → L = [] ∧ k = 6 ∨ L ≠ [] ∧ placesB L ≠ 0 ∧ k = placesB L →
  Calls Try.prog 11 #[v] w fun e w' => e = .returned (.tuple #[arrV zeros32, .int .i64 (k : Int)]) ∧ Below w.heap.size w w'
def RefrC : Prop := ∀ (v : Value) (L : List (List UInt8)) (t : Nat) (vd : Value) (draws : List UInt8) (w : World), Rf 33 w v L → L.length ≤ 8 → 1 ≤ t → t ≤ 12 → Rd w vd draws → draws.length ≤ 1000 → placesB L = 0 →
  Calls Try.prog 12 #[v, .int .i64 (t : Int), vd] w fun e w' => ∃ s, e = .returned (.tuple #[s, .int .i64 0]) ∧ Rf 33 w' s (refrB L t draws) ∧ Below w.heap.size w w'
def RefrE : Prop := ∀ (v : Value) (L : List (List UInt8)) (t : Int) (vd : Value) (draws : List UInt8) (w : World) (k : Nat), Rf 33 w v L → L.length ≤ 8 → (Lit.int .i64 t).wf = true → t ≤ 12 → Rd w vd draws → draws.length ≤ 1000 → t < 1 ∧ k = 1 ∨ 1 ≤ t ∧ placesB L ≠ 0 ∧ k = placesB L →
  Calls Try.prog 12 #[v, .int .i64 t, vd] w fun e w' => ∃ s, e = .returned (.tuple #[s, .int .i64 (k : Int)]) ∧ Rf 33 w' s [] ∧ Below w.heap.size w w'
def key7 : List UInt8 := [7, 7, 7] ++ List.replicate 29 0
theorem key7_split : (splitB key7 3 1 []).getD 2 [] = 3 :: key7 := by decide +kernel
set_option maxRecDepth 100000 in
set_option maxHeartbeats 1000000 in
theorem shamAwake_any (HS : SplitC) (w : World) :
    Calls Try.prog 8 #[] w fun e w' => e = .returned (.bool true) ∧ Below w.heap.size w w' := by
  obtain ⟨W0, hW0⟩ : ∃ W : World, W = w.alloc (.cells (zeros32.map bv).toArray 23) := ⟨_, rfl⟩
  have O0 : Hid (Blk W0 w.heap.size 23 (zeros32.map bv)) := Lib.hid (by rw [hW0]; exact Blk.made w _ _)
  have D0 : Hid (Below w.heap.size w W0) := Lib.hid (by rw [hW0]; exact (Below.refl _ _).alloc (Nat.le_refl _) _)
  have HZ : Hid ((Try.prog.info? 23).bind (·.zero) = some (.agg (zeros32.map bv).toArray)) := Lib.hid (zero_of info_key)
  have HB : Hid (Try.prog.built 23 [(0, .int .u8 7), (1, .int .u8 7), (2, .int .u8 7)] = some (key7.map bv).toArray) := Lib.hid (by kernel_rfl)
  have HKL : Hid ((key7.map bv).length = 32) := Lib.hid (by simp [key7])
  have HZL : Hid ((zeros32.map bv).length = 32) := Lib.hid (by simp [zeros32])
  have HI : Hid ((Try.prog.info? 23).map (·.size) = some 32) := Lib.hid (size_of info_key)
  have HK : Hid (key7.length = 32) := Lib.hid (by simp [key7])
  go_enter Try.func8, Try.ntmps8
  go_upto_region 2 with (first
    | refine wpList_build_is rfl 23 _ rfl _ rfl _ HB.out ?_
    | (refine wpList_alloc_z rfl 23 rfl _ HZ.out w.heap.size rfl ?_
       rw [← hW0])
    | (refine wpList_store_blk rfl 23 _ _ rfl w.heap.size 23 _ O0.out (key7.map bv) rfl rfl (by rw [HKL.out, HZL.out]) (by rw [HKL.out]; exact HI.out) (bv_one _) ?_
       intro w1 hb1 hs1
       have O1 := Lib.hid hb1
       have D1 : Hid (Below w.heap.size w w1) := Lib.hid (D0.out.trans hs1.below)
       clear hb1 hs1))
  clear hW0 HB HZ O0 D0
  go_wp2_with (first
    | refine wpList_load_blk rfl 23 (.tmp 1) rfl w.heap.size rfl 23 (key7.map bv) _ O1.out Try.underlying23 rfl (by rw [HKL.out]; exact HI.out) ?_)
  refine (HS key7 3 1 _ [] w1 HK.out (by decide) (by decide) (by decide) (Rd.nil _) (by decide)).mono ?_
  rintro e w2 ⟨s, rfl, hr, hb⟩
  obtain ⟨L, hL⟩ : ∃ L, L = splitB key7 3 1 [] := ⟨_, rfl⟩
  rw [← hL] at hr
  have hl3 : L.length = 3 := by rw [hL, splitB_length]
  have hl2 : L.getD 2 [] = 3 :: key7 := by rw [hL]; exact key7_split
  obtain ⟨A, c, rfl, hc1, hc2, hA⟩ := hr.form
  obtain ⟨b, off, rfl, hb1, hb3⟩ := hA (by omega)
  have c1 : w2.cell? ⟨b, off + 66, none⟩ = some (.int .u8 3) := by
    rw [show off + 66 = off + 2 * 33 + 0 by omega, hb3 2 0 (by omega) (by decide), hl2]
    rfl
  have RY : Hid (∀ W, (∃ n, W = w2.drewN n) → W.rangeAt b (off + 66 + 1) (key7.map bv)) := Lib.hid (range_drewN (by
    have h := el_range_from hr.1 hb3 (i := 2) (by omega) 1
    rw [hl2] at h
    exact h))
  have RK : Hid (∀ W, (∃ n, W = w2.drewN n) → W.rangeAt w.heap.size 0 (key7.map bv)) := Lib.hid (range_drewN (by
    have h := (O1.out.below hb O1.out.lt).range 0
    exact h))
  have D2 : Hid (Below w.heap.size w w2) := Lib.hid (D1.out.trans (hb.mono D1.out.size))
  have hq : ∀ W, (Op.equalIn 10000 23 (.agg (key7.map bv).toArray) (.agg (key7.map bv).toArray)).run Try.prog W = .ok true W := fun W => by
    have h := run_equalIn_key 9998 key7 key7 HK.out HK.out W
    rw [decide_eq_true rfl] at h
    exact h
  rw [hl3]
  clear hL hl3 hl2 hA hb1 hb3 hr hb hc1 O1 D1
  go_wp2_with (fail)
  refine wp_region_quiet_lit (by kernel_rfl) (by kernel_rfl) ?_
  repeat (go_big_quiet_step (fail))
  refine wpQuiet_load_mid rfl 28 rfl 23 (.tmp 27) rfl b (off + 66 + 1) rfl (key7.map bv) _ RY.out Try.underlying23 rfl (by rw [HKL.out]; exact HI.out) ?_
  simp only [List.set_cons_zero, List.set_cons_succ]
  refine wpQuiet_load_mid rfl 29 rfl 23 (.tmp 1) rfl w.heap.size 0 rfl (key7.map bv) _ RK.out Try.underlying23 rfl (by rw [HKL.out]; exact HI.out) ?_
  simp only [List.set_cons_zero, List.set_cons_succ]
  repeat (go_big_quiet_step (fail))
  refine wpQuiet_nil ?_
  intro wq hwq
  obtain ⟨nq, rfl⟩ := hwq
  go_wp2_with (fail)
  go_ret
  exact ⟨rfl, below_drewN D2.out nq⟩
end Go.Proofs.Ytpegnafapjcanaa
