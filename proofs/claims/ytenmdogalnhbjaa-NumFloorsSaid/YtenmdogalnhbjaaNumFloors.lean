/- The law NumFloors holds: any quotient that goes downwards is the document's, at every two numbers of int64. Conditions: none. -/
import Derived.Test.YtenmdogalnhbjaaAwake
import Derived.ProofKit
import Derived.OpenShut
import Derived.Carry
namespace Go.Proofs.Ytenmdogalnhbjaa.numFloors
open Go.ChangeShapes Go.WideShapes Go.ChangeAt Go.RowKit

theorem fl_e_zero {a b : Int} (h : (flE a b != 0) = false) : ¬ b = 0 ∧ flOver a b = false := by
  rw [bne_eq_false_iff_eq] at h
  unfold flE at h
  by_cases h0 : b = 0
  · rw [if_pos h0] at h; cases h
  · rw [if_neg h0] at h
    refine ⟨h0, ?_⟩
    by_cases h1 : flOver a b = true
    · rw [if_pos h1] at h; cases h
    · simpa using h1

set_option maxHeartbeats 400000 in
theorem walk (a b : Int) (w : World) (wa : (Lit.int .i64 a).wf = true) (wb : (Lit.int .i64 b).wf = true) :
    Calls Try.prog 6 #[.int .i64 a, .int .i64 b] w fun e w' => e = .returned (.bool true) ∧ Below w.heap.size w w' := by
  have ha := bounds_i64 wa
  have hb := bounds_i64 wb
  have hf := Lib.hid (floor_any a b w ha)
  have hg := Lib.hid (refFloor_any a b w ha)
  by_cases he : (flE a b != 0) = true
  · clear ha hb
    go_enter Try.func6, Try.ntmps6
    go_wp2_with (fail)
    refine hf.out.mono ?_
    rintro e w1 ⟨rfl, rfl⟩
    go_wp2_with (fail)
    refine hg.out.mono ?_
    rintro e w2 ⟨rfl, rfl⟩
    go_wp2_with (fail)
    refine (awake_any _).mono ?_
    rintro e w3 ⟨rfl, hb3⟩
    go_wp2_with (fail)
    go_ret
    exact ⟨rfl, hb3⟩
  · have he0 : (flE a b != 0) = false := by simpa using he
    obtain ⟨z1, z2⟩ := fl_e_zero he0
    clear he
    by_cases hbig : 2147483648 < a ∨ a < -2147483648 ∨ 2147483648 < b ∨ b < -2147483648
    · have hor : 2147483648 < a ∨ (a ≤ 2147483648 ∧ a < -2147483648) ∨ (a ≤ 2147483648 ∧ -2147483648 ≤ a ∧ 2147483648 < b) ∨ (a ≤ 2147483648 ∧ -2147483648 ≤ a ∧ b ≤ 2147483648 ∧ b < -2147483648) := by omega
      clear hbig ha hb z1 z2
      rcases hor with c1 | ⟨c1, c2⟩ | ⟨c1, c2, c3⟩ | ⟨c1, c2, c3, c4⟩
      all_goals
        go_enter Try.func6, Try.ntmps6
        go_wp2_with (fail)
        refine hf.out.mono ?_
        rintro e w1 ⟨rfl, rfl⟩
        go_wp2_with (fail)
        refine hg.out.mono ?_
        rintro e w2 ⟨rfl, rfl⟩
        go_wp2_with (fail)
        all_goals try omega
        refine (awake_any _).mono ?_
        rintro e w3 ⟨rfl, hb3⟩
        go_wp2_with (fail)
        go_ret
        exact ⟨rfl, hb3⟩
    · have c1 : a ≤ 2147483648 := by omega
      have c2 : -2147483648 ≤ a := by omega
      have c3 : b ≤ 2147483648 := by omega
      have c4 : -2147483648 ≤ b := by omega
      clear hbig
      obtain ⟨q, hq⟩ : ∃ q, q = flQ a b := ⟨_, rfl⟩
      by_cases hneg : b < 0
      · have hl := fl_low_neg a b hneg z2
        rw [← hq] at hl hf hg
        have L0 : -9223372036854775808 ≤ q * b ∧ q * b ≤ 9223372036854775807 := by omega
        have L1 := hl.1
        have L2 := hl.2
        have L3 : -9223372036854775808 ≤ a - q * b ∧ a - q * b ≤ 9223372036854775807 := by omega
        have HQ := Lib.hid hq
        clear hl hq ha hb z1 z2
        go_enter Try.func6, Try.ntmps6
        go_wp2_with (fail)
        refine hf.out.mono ?_
        rintro e w1 ⟨rfl, rfl⟩
        go_wp2_with (fail)
        refine hg.out.mono ?_
        rintro e w2 ⟨rfl, rfl⟩
        go_wp2_with (fail)
        all_goals try omega
        refine (awake_any _).mono ?_
        rintro e w3 ⟨rfl, hb3⟩
        go_wp2_with (fail)
        go_ret
        exact ⟨rfl, hb3⟩
      · have hl := fl_low_pos a b (by omega)
        rw [← hq] at hl hf hg
        have L0 : -9223372036854775808 ≤ q * b ∧ q * b ≤ 9223372036854775807 := by omega
        have L1 := hl.1
        have L2 := hl.2
        have L3 : -9223372036854775808 ≤ a - q * b ∧ a - q * b ≤ 9223372036854775807 := by omega
        have HQ := Lib.hid hq
        clear hl hq ha hb z1 z2
        go_enter Try.func6, Try.ntmps6
        go_wp2_with (fail)
        refine hf.out.mono ?_
        rintro e w1 ⟨rfl, rfl⟩
        go_wp2_with (fail)
        refine hg.out.mono ?_
        rintro e w2 ⟨rfl, rfl⟩
        go_wp2_with (fail)
        all_goals try omega
        refine (awake_any _).mono ?_
        rintro e w3 ⟨rfl, hb3⟩
        go_wp2_with (fail)
        go_ret
        exact ⟨rfl, hb3⟩

theorem own : ownKnob Try.prog.godebug = none := by kernel_rfl

set_option maxRecDepth 100000 in
theorem lifted (os : Os) (started : os.Started) (H : Type) (enc : TypeId × Value → H) :
    ReturnsInHanded {} Try.checked os 6 .any (Rows.numFloorsSpec.pre6 enc Try.prog Try.f6 Rows.numFloorsRow.domain false) (Rows.numFloorsSpec.post enc Try.prog Try.f6 false true false false) := by
  refine returnsInHanded_of_change (C := Try.checked) own started (by kernel_rfl) Try.func6
    (ChangeSpec.witness6 (enc := enc) (C := Try.checked) false ⟨#[], #[.int .i64 0, .int .i64 0], []⟩ 8 (by kernel_rfl) (by kernel_rfl) (by kernel_rfl) (by kernel_rfl)) ?_
  intro W base args ds gs before hval0 hW hcnd _
  have hval : ∀ (j : Nat) t v, Try.f6.params[j]? = some t → args[j]? = some v → Value.okWide Try.prog W .any base t v := hval0
  have hW' := hW
  obtain ⟨p, q, hA0, hV, rfl, hfz, hnd⟩ := hW
  have hA : DataW.TrodAll enc Try.prog W 0 (fun _ => true) true Try.f6.params.toList args.toList ds p := hA0
  rw [Try.params6] at hA hval
  obtain ⟨v0, vs0, dd0, ds0, p0, q0, hargs, rfl, rfl, h0, r0⟩ := trodAll_cons hA
  obtain ⟨v1, vs1, dd1, ds1, p1, q1, rfl, rfl, rfl, h1, r1⟩ := trodAll_cons r0
  obtain ⟨rfl, rfl, rfl⟩ := trodAll_nil r1
  obtain rfl : args = #[v0, v1] := by cases args; simp_all
  obtain ⟨rfl, rfl⟩ := trodVars_none hV
  obtain ⟨a0, rfl, rfl, rfl, k0⟩ := open_int Try.underlying2 (hval 0 2 v0 rfl rfl) h0
  obtain ⟨a1, rfl, rfl, rfl, k1⟩ := open_int Try.underlying2 (hval 1 2 v1 rfl rfl) h1
  clear hA0 hval0
  refine (walk a0 a1 W k0 k1).mono fun e W' ⟨he, bel⟩ => ?_
  subst he
  exact ⟨_, rfl, _, _, _, [], _, [], hW', trodAll_mk1 (shut_bool Try.underlying4 _), (trodAll_cons_mk (shut_int Try.underlying2 k0) (trodAll_cons_mk (shut_int Try.underlying2 k1) trodAll_mk0)), rfl, bel.frame _, fun h => by cases h⟩

theorem over : Rows.numFloorsRow.holds Try.pinned (OpenSpec.ofChange Rows.numFloorsSpec) :=
  OpenClaim.holds_of_wide 6 Try.f6 rfl rfl rfl rfl rfl rfl rfl ⟨rfl, rfl, rfl, rfl, rfl⟩ rfl rfl rfl rfl rfl (by kernel_rfl) Try.func6 (by kernel_rfl)
    (of_decide_eq_true (by kernel_rfl)) (by unfold Func.isWrapper; first | (rw [if_pos (by decide +kernel)]; kernel_rfl) | (rw [if_neg (by decide +kernel)]; exact ⟨rfl, rfl⟩))
    (fun os started H enc _ => lifted os started H enc)

theorem proved : Rows.NumFloorsSaid := over
#print axioms proved
end Go.Proofs.Ytenmdogalnhbjaa.numFloors
