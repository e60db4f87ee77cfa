/- slices.Index, slices.Contains at labels. Condition: at most 20 labels. -/
import Derived.Test.YtckgpocfcanokaaLbSme
import Derived.BigQuiet
namespace Go.Proofs.Ytckgpocfcanokaa
open Go.RowKit

/-- A label of this name and this value. -/
def likeL (n v : ByteArray) (q : Qu) : Bool := (n.toList == q.n.toList) && (v.toList == q.v.toList)
set_option maxRecDepth 100000 in
set_option maxHeartbeats 2000000 in
theorem ixL_any (A : Option Addr) (c : Nat) (qs : List Qu) (n v : ByteArray) (w : World) (hr : RsLb w (.slice A qs.length c) qs) (hl : qs.length ≤ 20) :
    Calls Try.prog 39 #[.slice A qs.length c, .agg #[.string n, .string v]] w fun e w' => ∃ k : Int, e = .returned (.int .i64 k) ∧ decide (0 ≤ k) = qs.any (likeL n v) ∧ Below w.heap.size w w' := by
  obtain ⟨X, hX⟩ : ∃ X, X = w.heap.size := ⟨_, rfl⟩
  obtain ⟨W0, hW0⟩ : ∃ W : World, W = w.alloc (.cells #[.string n, .string v] 39) := ⟨_, rfl⟩
  have D0 : Hid (Below w.heap.size w W0) := Lib.hid (by rw [hW0]; exact (Below.refl _ _).alloc (Nat.le_refl _) _)
  have K0 : Hid (Blk W0 X 39 [.string n, .string v]) := Lib.hid (by rw [hW0, hX]; exact Blk.made w _ _)
  have HX : Hid (W0 = w.alloc (.cells #[.string n, .string v] 39)) := Lib.hid hW0
  have HR := Lib.hid (hr.below D0.out)
  have pI : (qs.length : Int) ≤ 20 := by omega
  clear hr hl hW0
  go_enter Try.func39, Try.ntmps39
  go_upto_region 1 with (fail)
  rw [← HX.out, ← hX]
  clear HX hX
  go_wp2_with (fail)
  go_loopw [8] (fun i wr => ∃ j m : Nat, i = .int .i64 (j : Int) ∧ j ≤ qs.length ∧ (∀ i q, i < j → qs[i]? = some q → likeL n v q = false) ∧ wr = W0.drewN m) (fun i _ => qs.length - (intOf i).toNat)
  case atStart => exact ⟨0, 0, rfl, Nat.zero_le _, fun i q h => by omega, rfl⟩
  case round =>
    obtain ⟨j, m, rfl, hj, hall, hwm⟩ := hrel
    have HALL := Lib.hid hall
    have HWM := Lib.hid hwm
    have HRW : Hid (RsLb wr (.slice A qs.length c) qs) := Lib.hid (hwm ▸ HR.out.drewN m)
    have HKW : Hid (Blk wr X 39 [.string n, .string v]) := Lib.hid (hwm ▸ K0.out.drewN m)
    clear hall hwm
    by_cases hlt : j < qs.length
    · have jI : (j : Int) < qs.length := by omega
      have HLT := Lib.hid hlt
      obtain ⟨q, hq⟩ : ∃ q, qs[j]? = some q := ⟨_, List.getElem?_eq_getElem hlt⟩
      have HQ := Lib.hid hq
      obtain ⟨g, o, rfl⟩ := HRW.out.addr hq
      obtain ⟨_, q0, q1⟩ := HRW.out.cells hq
      have x0 : wr.cell? ⟨X, 0, none⟩ = some (.string n) := HKW.out.cell 0
      have x1 : wr.cell? ⟨X, 1, none⟩ = some (.string v) := HKW.out.cell 1
      obtain ⟨k, hk⟩ : ∃ k, k = likeL n v q := ⟨_, rfl⟩
      have HK := Lib.hid hk
      have hEQ : ∀ W, (Op.equalIn 10000 39 (.agg #[.string n, .string v]) (.agg #[.string q.n, .string q.v])).run Try.prog W = .ok k W := fun W => by rw [hk]; exact run_equal_lb n v q.n q.v W
      clear hq hj hlt hk
      cases k with
      | true =>
        have HA : Hid (decide ((0 : Int) ≤ (j : Int)) = qs.any (likeL n v)) := Lib.hid (by
          rw [decide_eq_true (by omega)]
          exact (List.any_eq_true.2 ⟨q, List.mem_of_getElem? HQ.out, HK.out.symm⟩).symm)
        go_wp2_with (fail)
        go_quiet (fail)
        go_wp2_with (fail)
        go_ret
        exact ⟨(j : Int), rfl, HA.out, by rw [HWM.out]; exact below_drewN (below_drewN D0.out _) _⟩
      | false =>
        go_wp2_with (fail)
        go_quiet (fail)
        go_wp2_with (fail)
        have hlt := HLT.out
        refine ⟨⟨j + 1, _, by go_num, hlt, fun i p hi hp => ?_, by rw [HWM.out, World.drewN_drewN]⟩, by simp [intOf]; omega⟩
        by_cases e : i = j
        · subst e
          rw [HQ.out] at hp
          injection hp with hp
          rw [← hp]
          exact HK.out.symm
        · exact HALL.out i p (by omega) hp
    · have HA : Hid (decide ((0 : Int) ≤ -1) = qs.any (likeL n v)) := Lib.hid (by
        rw [decide_eq_false (by omega)]
        refine (List.any_eq_false.2 fun q hq => ?_).symm
        obtain ⟨i, hi, rfl⟩ := List.getElem_of_mem hq
        rw [HALL.out i _ (by omega) (List.getElem?_eq_getElem hi)]
        exact Bool.false_ne_true)
      have k1 : decide ((j : Int) < qs.length) = false := decide_eq_false (by omega)
      have k2 : decide (j < qs.length) = false := decide_eq_false hlt
      clear hj hlt
      go_wp2_with (fail)
      go_ret
      exact ⟨-1, rfl, HA.out, by rw [HWM.out]; exact below_drewN D0.out _⟩
set_option maxRecDepth 100000 in
set_option maxHeartbeats 1000000 in
theorem conL_any (A : Option Addr) (c : Nat) (qs : List Qu) (n v : ByteArray) (w : World) (hr : RsLb w (.slice A qs.length c) qs) (hl : qs.length ≤ 20) :
    Calls Try.prog 30 #[.slice A qs.length c, .agg #[.string n, .string v]] w fun e w' => e = .returned (.bool (qs.any (likeL n v))) ∧ Below w.heap.size w w' := by
  obtain ⟨X, hX⟩ : ∃ X, X = w.heap.size := ⟨_, rfl⟩
  obtain ⟨W0, hW0⟩ : ∃ W : World, W = w.alloc (.cells #[.string n, .string v] 39) := ⟨_, rfl⟩
  have D0 : Hid (Below w.heap.size w W0) := Lib.hid (by rw [hW0]; exact (Below.refl _ _).alloc (Nat.le_refl _) _)
  have K0 : Hid (Blk W0 X 39 [.string n, .string v]) := Lib.hid (by rw [hW0, hX]; exact Blk.made w _ _)
  have HX : Hid (W0 = w.alloc (.cells #[.string n, .string v] 39)) := Lib.hid hW0
  have HC := Lib.hid (ixL_any A c qs n v W0 (hr.below D0.out) hl)
  have x0 : W0.cell? ⟨X, 0, none⟩ = some (.string n) := K0.out.cell 0
  have x1 : W0.cell? ⟨X, 1, none⟩ = some (.string v) := K0.out.cell 1
  clear hr hl hW0
  go_enter Try.func30, Try.ntmps30
  go_upto_region 1 with (fail)
  rw [← HX.out, ← hX]
  clear HX hX
  go_wp2_with (fail)
  refine HC.out.mono ?_
  rintro e w1 ⟨k, rfl, hk, hb⟩
  have HK := Lib.hid hk
  have HB := Lib.hid (D0.out.trans (hb.mono D0.out.size))
  clear hk hb
  go_wp2_with (fail)
  go_ret
  rw [← HK.out]
  exact ⟨rfl, HB.out⟩
end Go.Proofs.Ytckgpocfcanokaa
