/- The walk of 'DeltaReads' (law 14). Premise: the contracts. -/
import Derived.Test.YtcicdbhffkpldaaPart45
import Derived.Test.YtcicdbhffkpldaaNumber
import Derived.Test.YtcicdbhffkpldaaLent
namespace Go.Proofs.Ytcicdbhffkpldaa
open Go.RowKit

theorem numB_take2 (xs : List UInt8) : numB (xs.take 2) < 65536 := by
  have h := numB_lt (xs.take 2)
  have h2 : (256 : Nat) ^ (xs.take 2).length ≤ 256 ^ 2 := Nat.pow_le_pow_right (by omega) (by simp; omega)
  omega
set_option maxRecDepth 100000 in
set_option maxHeartbeats 4000000 in
theorem deltaReads.walkC (DC : DeltaC) (v0 : Value) (xs : List UInt8) (w : World) (k0 : Rd w v0 xs) :
    Calls Try.prog 4 #[v0] w fun e w' => e = .returned (.bool true) ∧ Below w.heap.size w w' := by
  obtain ⟨A0, c0, rfl, hc1, hc2, _⟩ := k0.form
  unfold maxLen at hc2
  have K0 := Lib.hid k0
  have HA : Hid (∀ W : World, Calls Try.prog 7 #[] W fun e W' => e = .returned (.bool true) ∧ Below W.heap.size W W') := Lib.hid (awakeD_any DC)
  have nI : (xs.length : Int) ≤ 9223372036854775807 := by omega
  have HC : Hid (xs.length ≤ c0) := Lib.hid hc1
  clear k0
  by_cases h1 : 1000 < xs.length
  · have lI : decide ((1000 : Int) < (xs.length : Int)) = true := decide_eq_true (by omega)
    clear h1 hc1 hc2
    go_enter Try.func4, Try.ntmps4
    go_wp2_with (fail)
    refine (HA.out _).mono ?_
    rintro e w1 ⟨rfl, hb⟩
    have B := Lib.hid hb
    clear hb
    go_wp2_with (fail)
    go_ret
    exact ⟨rfl, B.out⟩
  have lI : decide ((1000 : Int) < (xs.length : Int)) = false := decide_eq_false (by omega)
  have HL : Hid (xs.length ≤ 1000) := Lib.hid (by omega)
  clear h1 hc1 hc2
  go_enter Try.func4, Try.ntmps4
  go_wp2_with (fail)
  refine (lent_any _ xs w K0.out (by have := HL.out; omega)).mono ?_
  rintro e w1 ⟨g, rfl, hg, hge, hb1⟩
  have HG1 := Lib.hid hg
  have B1 := Lib.hid hb1
  have RI := Lib.hid (hg.rd (by have := HL.out; omega))
  clear hg hb1
  go_wp2_with (fail)
  refine (DC.read _ xs w1 RI.out (by have := HL.out; omega)).mono ?_
  rintro e w2 ⟨u, m, k, rfl, hm, hra, hb2⟩
  have HG2 := Lib.hid (HG1.out.below hb2)
  have B2 := Lib.hid (B1.out.trans (hb2.mono B1.out.size))
  have HM2 := Lib.hid hm
  have HRA := Lib.hid hra
  clear hm hra hb2
  go_wp2_with (fail)
  refine (kept_any g _ xs w2 HG2.out (K0.out.below B2.out) (by have := HL.out; omega)).mono ?_
  rintro e w3 ⟨rfl, m3, hw3⟩
  have B3 : Hid (Below w.heap.size w w3) := Lib.hid (by rw [hw3]; exact below_drewN B2.out m3)
  have HM3 : Hid (RsP w3 u m) := Lib.hid (by rw [hw3]; exact HM2.out.below (below_drewN (Below.refl _ _) m3))
  clear hw3 hge
  by_cases h2 : xs.length < 2
  · have l2 : decide ((xs.length : Int) < 2) = true := decide_eq_true (by omega)
    have HSH : Hid (shortD xs) := Lib.hid (.inl h2)
    clear h2
    rcases HRA.out with ⟨_, h4, h5⟩ | ⟨rfl, rfl, _⟩ | ⟨_, _, h4, _⟩
    · exact absurd HSH.out (h5 ▸ lay_not_short h4)
    · obtain ⟨Au, cu, rfl, _⟩ := HM3.out.form
      go_wp2_with (fail)
      refine (HA.out _).mono ?_
      rintro e w10 ⟨rfl, hb⟩
      have B10 := Lib.hid (B3.out.trans (hb.mono B3.out.size))
      clear hb
      go_wp2_with (fail)
      go_ret
      exact ⟨rfl, B10.out⟩
    · exact absurd HSH.out h4
  have l2 : decide ((xs.length : Int) < 2) = false := decide_eq_false (by omega)
  have cI : (2 : Int) ≤ c0 := by have := HC.out; omega
  have cn : ¬ c0 = 0 := by have := HC.out; omega
  obtain ⟨t, ht⟩ : ∃ t, t = xs.length - 2 := ⟨_, rfl⟩
  have lw : IntKind.i64.wrap ((xs.length : Int) - 2) = (t : Int) := by rw [IntWalk.i64_in _ (by omega)]; omega
  obtain ⟨n, hn⟩ : ∃ n, n = numB (xs.take 2) := ⟨_, rfl⟩
  have hn2 := numB_take2 xs
  rw [← hn] at hn2
  have hnI : (n : Int) ≤ 65535 := by omega
  have HNU : Hid (∀ W, Below w.heap.size w W → Calls Try.prog 19 #[.slice A0 2 c0] W fun e w' => e = .returned (.int .u64 (n : Int)) ∧ W = w') := Lib.hid fun W hb => by
    rw [hn]
    exact number_any _ (xs.take 2) W (rd_cut (K0.out.below hb) 2 (by omega)) (by simp; omega)
  have HSD : Hid (shortD xs ↔ t < n) := Lib.hid (by
    unfold shortD
    rw [← hn, ht]
    exact ⟨fun h => h.resolve_left h2, .inr⟩)
  clear ht hn hn2 h2
  go_wp2_with (fail)
  refine (HNU.out _ B3.out).mono ?_
  rintro e w4 ⟨rfl, hw4⟩
  subst hw4
  by_cases h3 : t < n
  · have l3 : decide ((t : Int) < (n : Int)) = true := decide_eq_true (by omega)
    have l3' : decide (t < n) = true := decide_eq_true h3
    have HSH : Hid (shortD xs) := Lib.hid (HSD.out.2 h3)
    clear h3
    rcases HRA.out with ⟨_, h4, h5⟩ | ⟨rfl, rfl, _⟩ | ⟨_, _, h4, _⟩
    · exact absurd HSH.out (h5 ▸ lay_not_short h4)
    · obtain ⟨Au, cu, rfl, _⟩ := HM3.out.form
      go_wp2_with (fail)
      refine (HA.out _).mono ?_
      rintro e w10 ⟨rfl, hb⟩
      have B10 := Lib.hid (B3.out.trans (hb.mono B3.out.size))
      clear hb
      go_wp2_with (fail)
      go_ret
      exact ⟨rfl, B10.out⟩
    · exact absurd HSH.out h4
  · have l3 : decide ((t : Int) < (n : Int)) = false := decide_eq_false (by omega)
    have l3' : decide (t < n) = false := decide_eq_false h3
    have HSH : Hid (¬ shortD xs) := Lib.hid fun h => h3 (HSD.out.1 h)
    clear h3
    rcases HRA.out with ⟨rfl, h4, h5⟩ | ⟨_, _, h4⟩ | ⟨rfl, rfl, _, _⟩
    · have HML := Lib.hid h4
      have HE := Lib.hid h5
      have hck := check_ok.2 h4
      have RC : Hid (∀ W, Below w3.heap.size w3 W → Calls Try.prog 9 #[u] W fun e w' => e = .returned (.int .i64 0) ∧ Below W.heap.size W w') := Lib.hid fun W hb => by
        have h6 := refCheckD_any _ m W (HM3.out.below hb) (by have := h4.few; omega) fun p hp => by have := (h4.may p hp).2; omega
        rw [hck] at h6
        exact h6
      clear h4 h5 hck
      go_wp2_with (fail)
      refine (RC.out _ (Below.refl _ _)).mono ?_
      rintro e w5 ⟨rfl, hb5⟩
      have B5 := Lib.hid (B3.out.trans (hb5.mono B3.out.size))
      have HM5 := Lib.hid (HM3.out.below hb5)
      clear hb5
      go_wp2_with (fail)
      refine (refLayD_any u m w5 HM5.out HML.out).mono ?_
      rintro e w6 ⟨u6, rfl, own6, hb6⟩
      have B6 := Lib.hid (B5.out.trans (hb6.mono B5.out.size))
      have HS := Lib.hid (same_any u6 _ _ xs w6 (Rd.of_own own6) (K0.out.below B6.out))
      rw [decide_eq_true HE.out] at HS
      clear own6 hb6
      go_wp2_with (fail)
      refine HS.out.mono ?_
      rintro e w8 ⟨rfl, m8, hw8⟩
      have B8 : Hid (Below w.heap.size w w8) := Lib.hid (by rw [hw8]; exact below_drewN B6.out m8)
      clear hw8
      go_wp2_with (fail)
      refine (HA.out _).mono ?_
      rintro e w10 ⟨rfl, hb⟩
      have B10 := Lib.hid (B8.out.trans (hb.mono B8.out.size))
      clear hb
      go_wp2_with (fail)
      go_ret
      exact ⟨rfl, B10.out⟩
    · exact absurd h4 HSH.out
    · obtain ⟨Au, cu, rfl, _⟩ := HM3.out.form
      go_wp2_with (fail)
      refine (HA.out _).mono ?_
      rintro e w10 ⟨rfl, hb⟩
      have B10 := Lib.hid (B3.out.trans (hb.mono B3.out.size))
      clear hb
      go_wp2_with (fail)
      go_ret
      exact ⟨rfl, B10.out⟩
end Go.Proofs.Ytcicdbhffkpldaa
