/- What is proved: 'PolySame' (law 5) returns true whatever comes in: poly.Same tells whether two rows of bytes are one, as the reference does; the arguments read afterwards as before.
   Conditions: none of its own. -/
import Derived.Test.YtlcpplnajaldgaaPTag
import Derived.Test.YtlcpplnajaldgaaPSame
import Derived.Test.YtlcpplnajaldgaaSame
import Derived.ProofKit
import Derived.OpenShut
import Derived.Carry
namespace Go.Proofs.Ytlcpplnajaldgaa.polySame
open Go.ChangeShapes Go.WideShapes Go.ChangeAt Go.RowKit

set_option maxRecDepth 100000 in
set_option maxHeartbeats 1000000 in
theorem walk (v0 : Value) (x0 : List UInt8) (v1 : Value) (x1 : List UInt8) (w : World) (k0 : Rd w v0 x0) (k1 : Rd w v1 x1) :
    Calls Try.prog 5 #[v0, v1] w fun e w' => e = .returned (.bool true) ∧ Below w.heap.size w w' := by
  obtain ⟨A, c, rfl, hc1, hc2, _⟩ := k0.form
  obtain ⟨B, d, rfl, hd1, hd2, _⟩ := k1.form
  have R0 := Lib.hid k0
  have R1 := Lib.hid k1
  unfold maxLen at hc2 hd2
  clear k0 k1
  by_cases h0 : 300 < x0.length
  · have lI : (300 : Int) < (x0.length : Int) := by omega
    go_enter Try.func5, Try.ntmps5
    go_wp2_with (fail)
    refine (polAwake_any tagc _).mono ?_
    rintro e w3 ⟨rfl, hb3⟩
    go_wp2_with (fail)
    go_ret
    exact ⟨rfl, hb3⟩
  have lI0 : (x0.length : Int) ≤ 300 := by omega
  have d0 : decide ((300 : Int) < (x0.length : Int)) = false := decide_eq_false (by omega)
  by_cases h1 : 300 < x1.length
  · have lI : (300 : Int) < (x1.length : Int) := by omega
    go_enter Try.func5, Try.ntmps5
    go_wp2_with (fail)
    refine (polAwake_any tagc _).mono ?_
    rintro e w3 ⟨rfl, hb3⟩
    go_wp2_with (fail)
    go_ret
    exact ⟨rfl, hb3⟩
  have lI1 : (x1.length : Int) ≤ 300 := by omega
  have d1 : decide ((300 : Int) < (x1.length : Int)) = false := decide_eq_false (by omega)
  have HL : Hid (x0.length ≤ 300 ∧ x1.length ≤ 300) := Lib.hid ⟨by omega, by omega⟩
  obtain ⟨b, hb⟩ : ∃ b, b = decide (x0 = x1) := ⟨_, rfl⟩
  have HP : Hid (∀ V, Rd V (.slice A x0.length c) x0 → Rd V (.slice B x1.length d) x1 → Calls Try.prog 15 #[.slice A x0.length c, .slice B x1.length d] V fun e w' => e = .returned (.bool b) ∧ ∃ n, w' = V.drewN n) := Lib.hid fun V ha hc => by
    rw [hb]
    exact psame_any _ _ _ _ V ha hc (by have := HL.out; omega) (by have := HL.out; omega)
  have HS : Hid (∀ V, Rd V (.slice A x0.length c) x0 → Rd V (.slice B x1.length d) x1 → Calls Try.prog 14 #[.slice A x0.length c, .slice B x1.length d] V fun e w' => e = .returned (.bool b) ∧ ∃ n, w' = V.drewN n) := Lib.hid fun V ha hc => by
    rw [hb]
    exact same_any _ _ _ _ V ha hc
  have HT : Hid (∀ V, Rd V (.slice B x1.length d) x1 → Calls Try.prog 15 #[.slice B x1.length d, .slice B x1.length d] V fun e w' => e = .returned (.bool true) ∧ ∃ n, w' = V.drewN n) := Lib.hid fun V hc => by
    have h := psame_any _ _ _ _ V hc hc (by have := HL.out; omega) (by have := HL.out; omega)
    rw [decide_eq_true rfl] at h
    exact h
  clear hb h0 h1
  cases b
  all_goals
    go_enter Try.func5, Try.ntmps5
    go_wp2_with (fail)
    refine (HP.out w R0.out R1.out).mono ?_
    rintro e w1 ⟨rfl, n1, rfl⟩
    go_wp2_with (fail)
    refine (HS.out (w.drewN n1) (R0.out.drewN _) (R1.out.drewN _)).mono ?_
    rintro e w2 ⟨rfl, n2, rfl⟩
    go_wp2_with (fail)
    refine (HT.out _ (R1.out.drewN _)).mono ?_
    rintro e w3 ⟨rfl, n3, rfl⟩
    go_wp2_with (fail)
    refine (polAwake_any tagc _).mono ?_
    rintro e w4 ⟨rfl, hb4⟩
    go_wp2_with (fail)
    go_ret
    exact ⟨rfl, (below_drewN (Below.refl _ _) _).trans hb4⟩

theorem own : ownKnob Try.prog.godebug = none := by kernel_rfl
theorem laidOut : laidOutB Try.prog = true := by kernel_rfl

set_option maxRecDepth 100000 in
theorem lifted (os : Os) (started : os.Started) (H : Type) (enc : TypeId × Value → H) :
    ReturnsInHanded {} Try.checked os 5 .any (Rows.polySameSpec.pre6 enc Try.prog Try.f5 Rows.polySameRow.domain false) (Rows.polySameSpec.post enc Try.prog Try.f5 false true false false) := by
  refine returnsInHanded_of_change (C := Try.checked) own started (by kernel_rfl) Try.func5
    (ChangeSpec.witness6 (enc := enc) (C := Try.checked) false ⟨#[], #[.slice none 0 0, .slice none 0 0], []⟩ 8 (by kernel_rfl) (by kernel_rfl) (by kernel_rfl) (by kernel_rfl)) ?_
  intro W base args ds gs before hval0 hW hcnd _
  have hval : ∀ (j : Nat) t v, Try.f5.params[j]? = some t → args[j]? = some v → Value.okWide Try.prog W .any base t v := hval0
  have hW' := hW
  obtain ⟨p, q, hA0, hV, rfl, hfz, hnd⟩ := hW
  have hA : DataW.TrodAll enc Try.prog W 0 (fun _ => true) true Try.f5.params.toList args.toList ds p := hA0
  rw [Try.params5] at hA hval
  obtain ⟨v0, vs0, dd0, ds0, p0, q0, hargs, rfl, rfl, h0, r0⟩ := trodAll_cons hA
  obtain ⟨v1, vs1, dd1, ds1, p1, q1, rfl, rfl, rfl, h1, r1⟩ := trodAll_cons r0
  obtain ⟨rfl, rfl, rfl⟩ := trodAll_nil r1
  obtain rfl : args = #[v0, v1] := by cases args; simp_all
  obtain ⟨rfl, rfl⟩ := trodVars_none hV
  obtain ⟨A0, n0, c0, rfl⟩ := okWide_slice Try.underlying24 (hval 0 24 v0 rfl rfl)
  have g0 := h0
  have lt0 : ∀ x ∈ p0, x.block < W.heap.size := by obtain ⟨m, hm⟩ := g0; exact DataW.trod_lt m _ _ _ hm
  obtain ⟨x0, k0⟩ : ∃ xs, Rd W (.slice A0 n0 c0) xs := by
    obtain ⟨fuel, hf⟩ := h0
    rcases open_ints Try.underlying24 Try.underlying5 (by kernel_rfl) hf with ⟨hcs, _⟩ | ⟨x, l, c, zs, hcs, _, hl, hm, hz, _, hcell, hwz⟩
    · simp [Value.cells] at hcs
      obtain ⟨rfl, rfl, rfl⟩ := hcs
      exact ⟨[], Rd.nil W⟩
    · simp [Value.cells] at hcs
      obtain ⟨rfl, rfl, rfl⟩ := hcs
      exact rd_of_row hl hm (by simpa using hz) hcell hwz
  obtain ⟨A1, n1, c1, rfl⟩ := okWide_slice Try.underlying24 (hval 1 24 v1 rfl rfl)
  have g1 := h1
  have lt1 : ∀ x ∈ p1, x.block < W.heap.size := by obtain ⟨m, hm⟩ := g1; exact DataW.trod_lt m _ _ _ hm
  obtain ⟨x1, k1⟩ : ∃ xs, Rd W (.slice A1 n1 c1) xs := by
    obtain ⟨fuel, hf⟩ := h1
    rcases open_ints Try.underlying24 Try.underlying5 (by kernel_rfl) hf with ⟨hcs, _⟩ | ⟨x, l, c, zs, hcs, _, hl, hm, hz, _, hcell, hwz⟩
    · simp [Value.cells] at hcs
      obtain ⟨rfl, rfl, rfl⟩ := hcs
      exact ⟨[], Rd.nil W⟩
    · simp [Value.cells] at hcs
      obtain ⟨rfl, rfl, rfl⟩ := hcs
      exact rd_of_row hl hm (by simpa using hz) hcell hwz
  clear hA0 hval0
  refine (walk _ x0 _ x1 W k0 k1).mono fun e W' ⟨he, bel⟩ => ?_
  subst he
  exact ⟨_, rfl, _, _, _, [], _, [], hW', trodAll_mk1 (shut_bool Try.underlying4 _), (trodAll_cons_mk (Below.trod laidOut (by kernel_rfl) (of_decide_eq_true (by kernel_rfl)) g0 bel lt0) (trodAll_cons_mk (Below.trod laidOut (by kernel_rfl) (of_decide_eq_true (by kernel_rfl)) g1 bel lt1) trodAll_mk0)), rfl, bel.frame _, fun h => by cases h⟩

theorem over : Rows.polySameRow.holds Try.pinned (OpenSpec.ofChange Rows.polySameSpec) :=
  OpenClaim.holds_of_wide 5 Try.f5 rfl rfl rfl rfl rfl rfl rfl ⟨rfl, rfl, rfl, rfl, rfl⟩ rfl rfl rfl rfl rfl (by kernel_rfl) Try.func5 (by kernel_rfl)
    (of_decide_eq_true (by kernel_rfl)) (by unfold Func.isWrapper; first | (rw [if_pos (by decide +kernel)]; kernel_rfl) | (rw [if_neg (by decide +kernel)]; exact ⟨rfl, rfl⟩))
    (fun os started H enc _ => lifted os started H enc)

theorem proved : Rows.PolySameSaid := over
#print axioms proved
end Go.Proofs.Ytlcpplnajaldgaa.polySame
