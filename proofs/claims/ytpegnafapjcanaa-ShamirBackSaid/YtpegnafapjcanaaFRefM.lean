/- The contracts of the seventh reference's Mul, Pow and Inv. Conditions: bytes, a number of at most 1000. -/
import Derived.Test.YtpegnafapjcanaaFRef
namespace Go.Proofs.Ytpegnafapjcanaa
open Go.RowKit

theorem gprod_lt {a b : Nat} (ha : a < 256) : gprod a b < 2 ^ 16 := gpart_eq a b ▸ gpart_lt ha 8 (by omega)
set_option maxRecDepth 100000 in
set_option maxHeartbeats 1000000 in
theorem refMulG_any (a b : Nat) (w : World) (ha : a < 256) (hb : b < 256) :
    Calls Try.prog 18 #[.int .u8 (a : Int), .int .u8 (b : Int)] w fun e w' => e = .returned (.int .u8 (gmul a b : Nat)) ∧ w = w' := by
  go_enter Try.func18, Try.ntmps18
  go_wp2_with (fail)
  refine fma_loop _ _ _ _ _ _ _ _ _ _ _ _ _ _ _ _ _ _ _ _ _ _ _ _ _ _ _ _ _ _ _ _ _ _ _ _ _ _ _ _ a b ha hb w (Lib.hid ?_)
  intro u6 u8 u9 u10 u11 u12 u13 u14 u15 u16 u17 u18 u19 u20 u21 u22 u23 u24 u25
  go_wp2_with (fail)
  refine fmb_loop _ _ _ _ _ _ _ _ _ _ _ _ _ _ _ _ _ _ _ _ _ _ _ _ _ _ _ _ _ _ _ _ _ _ _ _ _ _ _ _ _ _ (gprod a b) (gprod_lt ha) w (Lib.hid ?_)
  intro u7 u26 u27 u28 u29 u30 u31 u32 u33 u34 u35 u36 u37 u38 u39 u40 u41
  obtain ⟨g, hg⟩ : ∃ g, g = gred (gprod a b) := ⟨_, rfl⟩
  have hl : (g : Int) ≤ 255 := by have := gmul_lt ha hb; unfold gmul at this; omega
  have HG : Hid (gmul a b = g) := Lib.hid (by rw [hg]; rfl)
  rw [← hg]
  clear hg
  go_wp2_with (fail)
  go_ret
  exact ⟨by rw [HG.out]; rfl, rfl⟩
def FpwRel (a : Nat) (w : World) (p v : Value) (W : World) (n : Nat) : Prop := ∃ i : Nat, v = .int .i64 (i : Int) ∧ i ≤ n ∧ p = .int .u8 (gpow a i : Nat) ∧ W = w
noncomputable def body_fpw : Code := (((Try.f21.body.map loopsOf).getD [])[0]?).getD .skip
set_option maxRecDepth 100000 in
set_option maxHeartbeats 1000000 in
theorem fpw_loop (c2 c3 c4 c7 c8 c9 c10 c11 c12 c13 c14 c15 : Value) (a n : Nat) (ha : a < 256) (hn : n ≤ 1000) (w : World) {Q : Exit → Act → World → Prop}
    (HQ : Hid (∀ (u6 u7 u8 u9 u10 u11 u12 u13 u14 : Value), Q (.exit 0) ⟨List.toArray ((.int .u8 (a : Int)) :: (.int .i64 (n : Int)) :: c2 :: c3 :: c4 :: (.int .u8 (gpow a n : Nat)) :: u6 :: u7 :: u8 :: u9 :: u10 :: u11 :: u12 :: u13 :: u14 :: c15 :: []), []⟩ w)) :
    (Code.loop body_fpw).wp Try.prog Q ⟨List.toArray ((.int .u8 (a : Int)) :: (.int .i64 (n : Int)) :: c2 :: c3 :: c4 :: (.int .u8 1) :: (.int .i64 0) :: c7 :: c8 :: c9 :: c10 :: c11 :: c12 :: c13 :: c14 :: c15 :: []), []⟩ w := by
  unfold body_fpw
  conv => arg 2; arg 1; whnf
  go_loopw [5, 6] (fun p v wx => FpwRel a w p v wx n) (fun _ v _ => n - (intOf v).toNat)
  case atStart => exact ⟨0, rfl, by omega, rfl, rfl⟩
  case round =>
    obtain ⟨i, rfl, hi, rfl, rfl⟩ := hrel
    by_cases hlt : i < n
    · have hI : (i : Int) < n := by omega
      have nI : (n : Int) ≤ 1000 := by omega
      have HM := Lib.hid (refMulG_any (gpow a i) a wr (gpow_lt ha i) ha)
      go_wp2_with (fail)
      refine HM.out.mono ?_
      rintro e w2 ⟨rfl, rfl⟩
      go_wp2_with (fail)
      exact ⟨⟨i + 1, by go_num, by omega, rfl, rfl⟩, by simp [intOf]; omega⟩
    · obtain rfl : i = n := by omega
      have nI : (i : Int) ≤ 1000 := by omega
      go_wp2_with (fail)
      exact HQ.out _ _ _ _ _ _ _ _ _
set_option maxRecDepth 100000 in
set_option maxHeartbeats 1000000 in
theorem refPow_any (a n : Nat) (w : World) (ha : a < 256) (hn : n ≤ 1000) :
    Calls Try.prog 21 #[.int .u8 (a : Int), .int .i64 (n : Int)] w fun e w' => e = .returned (.int .u8 (gpow a n : Nat)) ∧ w = w' := by
  go_enter Try.func21, Try.ntmps21
  go_wp2_with (fail)
  refine fpw_loop _ _ _ _ _ _ _ _ _ _ _ _ a n ha hn w (Lib.hid ?_)
  intro u6 u7 u8 u9 u10 u11 u12 u13 u14
  go_wp2_with (fail)
  go_ret
  exact ⟨rfl, rfl⟩
def FivRel (a : Nat) (w : World) (v : Value) (W : World) : Prop := ∃ i : Nat, v = .int .i64 (i : Int) ∧ 1 ≤ i ∧ i ≤ 256 ∧ (∀ j, 1 ≤ j → j < i → gmul a j ≠ 1) ∧ W = w
set_option maxRecDepth 100000 in
set_option maxHeartbeats 1000000 in
theorem refInvG_any (a : Nat) (w : World) (ha : a < 256) :
    Calls Try.prog 17 #[.int .u8 (a : Int)] w fun e w' => e = .returned (.int .u8 (ginv a : Nat)) ∧ w = w' := by
  go_enter Try.func17, Try.ntmps17
  go_wp2_with (fail)
  go_loopw [3] (fun v wx => FivRel a w v wx) (fun v _ => 256 - (intOf v).toNat)
  case atStart => exact ⟨1, rfl, by omega, by omega, fun j h1 h2 => by omega, rfl⟩
  case round =>
    obtain ⟨i, rfl, h1, hi, hno, rfl⟩ := hrel
    by_cases hlt : i < 256
    · have hI : (i : Int) < 256 := by omega
      have HM := Lib.hid (refMulG_any a i wr ha hlt)
      have HNO := Lib.hid hno
      clear hno
      go_wp2_with (fail)
      refine HM.out.mono ?_
      rintro e w2 ⟨rfl, rfl⟩
      by_cases hg : gmul a i = 1
      · have hgI : ((gmul a i : Nat) : Int) = 1 := by omega
        go_wp2_with (fail)
        go_ret
        exact ⟨by rw [← ginv_only ha hlt hg]; rfl, rfl⟩
      · have hgI : ((gmul a i : Nat) : Int) ≠ 1 := by omega
        go_wp2_with (fail)
        refine ⟨⟨i + 1, by go_num, by omega, by omega, fun j h3 h4 => ?_, rfl⟩, by simp [intOf]; omega⟩
        by_cases e : j = i
        · rw [e]; exact hg
        · exact HNO.out j h3 (by omega)
    · obtain rfl : i = 256 := by omega
      have e0 : a = 0 := by
        rcases Nat.eq_zero_or_pos a with h | h
        · exact h
        · exfalso
          have hg := gmul_ginv ha (by omega)
          have hp : 1 ≤ ginv a := by
            rcases Nat.eq_zero_or_pos (ginv a) with h2 | h2
            · rw [h2, gmul_zero] at hg; cases hg
            · exact h2
          exact hno (ginv a) hp (ginv_lt a) hg
      subst e0
      go_wp2_with (fail)
      go_ret
      exact ⟨rfl, rfl⟩
end Go.Proofs.Ytpegnafapjcanaa
