/- Part 45 of the words that the laws share: WDLA. No condition of its own: each theorem says its own. -/
import Derived.Test.YtcicdbhffkpldaaPart7
import Derived.Test.YtcicdbhffkpldaaPart38
import Derived.Test.YtcicdbhffkpldaaPart44
import Derived.Test.YtcicdbhffkpldaaPart14

/- The walk of 'DeltaLays' (law 14). Premise: the contracts. -/
namespace Go.Proofs.Ytcicdbhffkpldaa
open Go.RowKit

set_option maxRecDepth 100000 in
set_option maxHeartbeats 4000000 in
theorem deltaLays.walkC (DC : DeltaC) (v0 : Value) (l : List Pc) (w : World) (k0 : RsP w v0 l) :
    Calls Try.prog 3 #[v0] w fun e w' => e = .returned (.bool true) ∧ Below w.heap.size w w' := by
  obtain ⟨A0, c0, rfl, hm0⟩ := k0.form
  have K0 := Lib.hid k0
  have HA : Hid (∀ W : World, Calls Try.prog 7 #[] W fun e W' => e = .returned (.bool true) ∧ Below W.heap.size W W') := Lib.hid (awakeD_any DC)
  clear k0 hm0
  go_enter Try.func3, Try.ntmps3
  go_wp2_with (fail)
  refine (refGreatP_any 270 _ l w K0.out).mono ?_
  rintro e wg ⟨b, rfl, hb0, hwg⟩
  replace hwg := hwg.symm
  subst hwg
  cases b with
  | true =>
    clear hb0
    go_wp2_with (fail)
    refine (HA.out _).mono ?_
    rintro e w1 ⟨rfl, hb⟩
    have B := Lib.hid hb
    clear hb
    go_wp2_with (fail)
    go_ret
    exact ⟨rfl, B.out⟩
  | false =>
    have N0 := Lib.hid (hb0 rfl)
    have HN : Hid (l.length ≤ 1000 ∧ ∀ p ∈ l, p.s.size ≤ 1000) := Lib.hid ⟨by have := N0.out.1; omega, fun p hp => by have := N0.out.2 p hp; omega⟩
    obtain ⟨k, hk⟩ : ∃ k, k = checkD l := ⟨_, rfl⟩
    obtain ⟨r, hr⟩ : ∃ r, r = roomD l := ⟨_, rfl⟩
    have HK := Lib.hid hk
    have CL := Lib.hid (DC.lay _ l w K0.out HN.out.1 HN.out.2)
    have CC : Hid (∀ W, Below w.heap.size w W → Calls Try.prog 10 #[.slice A0 l.length c0] W fun e w' => e = .returned (.int .i64 (k : Int)) ∧ Below W.heap.size W w') := Lib.hid fun W hb => by
      rw [hk]
      exact DC.check _ l W (K0.out.below hb) HN.out.1 HN.out.2
    have CR : Hid (∀ W, Below w.heap.size w W → Calls Try.prog 11 #[.slice A0 l.length c0] W fun e w' => e = .returned (.int .i64 (r : Int)) ∧ Below W.heap.size W w') := Lib.hid fun W hb => by
      rw [hr]
      exact DC.room _ l W (K0.out.below hb) HN.out.1 HN.out.2
    have RC : Hid (∀ W, Below w.heap.size w W → Calls Try.prog 9 #[.slice A0 l.length c0] W fun e w' => e = .returned (.int .i64 (k : Int)) ∧ Below W.heap.size W w') := Lib.hid fun W hb => by
      rw [hk]
      exact refCheckD_any _ l W (K0.out.below hb) HN.out.1 HN.out.2
    have RR : Hid (∀ W, Below w.heap.size w W → Calls Try.prog 12 #[.slice A0 l.length c0] W fun e w' => e = .returned (.int .i64 (r : Int)) ∧ ∃ m, w' = W.drewN m) := Lib.hid fun W hb => by
      rw [hr]
      exact refRoom_any _ l W (K0.out.below hb) HN.out.1 HN.out.2
    rw [← hk] at CL
    clear hb0 hk hr
    go_wp2_with (fail)
    refine CL.out.mono ?_
    rintro e w1 ⟨u, rfl, hu, hb1⟩
    have B1 := Lib.hid hb1
    have HU := Lib.hid hu
    clear hb1 hu
    go_wp2_with (fail)
    refine (RC.out _ B1.out).mono ?_
    rintro e w2 ⟨rfl, hb2⟩
    have B2 := Lib.hid (B1.out.trans (hb2.mono B1.out.size))
    have HU2 := Lib.hid (HU.out.below hb2)
    clear hb2
    go_wp2_with (fail)
    refine (CC.out _ B2.out).mono ?_
    rintro e w3 ⟨rfl, hb3⟩
    have B3 := Lib.hid (B2.out.trans (hb3.mono B2.out.size))
    have HU3 := Lib.hid (HU2.out.below hb3)
    clear hb3
    go_wp2_with (fail)
    refine (CR.out _ B3.out).mono ?_
    rintro e w4 ⟨rfl, hb4⟩
    have B4 := Lib.hid (B3.out.trans (hb4.mono B3.out.size))
    have HU4 := Lib.hid (HU3.out.below hb4)
    clear hb4
    go_wp2_with (fail)
    refine (RR.out _ B4.out).mono ?_
    rintro e w5 ⟨rfl, m5, hw5⟩
    have B5 : Hid (Below w.heap.size w w5) := Lib.hid (by rw [hw5]; exact below_drewN B4.out m5)
    have HU5 : Hid (Rd w5 u (if k = 0 then layD l else [])) := Lib.hid (by rw [hw5]; exact HU4.out.drewN m5)
    clear hw5
    by_cases hk0 : k = 0
    · subst hk0
      have hml : MayLay l := check_ok.1 HK.out.symm
      have HM := Lib.hid hml
      have hu6 := HU5.out
      rw [if_pos rfl] at hu6
      have HU6 := Lib.hid hu6
      have CD := Lib.hid (DC.read u (layD l) w5 hu6 (by rw [lay_len hml]; have := hml.room; omega))
      clear hml hu6
      go_wp2_with (fail)
      refine CD.out.mono ?_
      rintro e w6 ⟨u6, m, k6, rfl, hm6, hra, hb6⟩
      obtain ⟨rfl, rfl⟩ := read_laid HM.out K0.out.ok hm6.ok hra
      have B6 := Lib.hid (B5.out.trans (hb6.mono B5.out.size))
      have HU7 := Lib.hid (HU6.out.below hb6)
      have HM6 := Lib.hid hm6
      clear hra hm6 hb6
      go_wp2_with (fail)
      refine (refLayD_any _ m w6 (K0.out.below B6.out) HM.out).mono ?_
      rintro e w7 ⟨u7, rfl, own7, hb7⟩
      have B7 := Lib.hid (B6.out.trans (hb7.mono B6.out.size))
      have HS := Lib.hid (same_any u u7 _ _ w7 (HU7.out.below hb7) (Rd.of_own own7))
      rw [decide_eq_true rfl] at HS
      have HM7 := Lib.hid (HM6.out.below hb7)
      clear own7 hb7
      go_wp2_with (fail)
      refine HS.out.mono ?_
      rintro e w8 ⟨rfl, m8, hw8⟩
      have B8 : Hid (Below w.heap.size w w8) := Lib.hid (by rw [hw8]; exact below_drewN B7.out m8)
      have HM8 : Hid (RsP w8 u6 m) := Lib.hid (by rw [hw8]; exact HM7.out.drewR m8)
      clear hw8
      go_wp2_with (fail)
      refine (refSameP_yes u6 _ m w8 HM8.out (K0.out.below B8.out)).mono ?_
      rintro e w9 ⟨rfl, m9, hw9⟩
      have B9 : Hid (Below w.heap.size w w9) := Lib.hid (by rw [hw9]; exact below_drewN B8.out m9)
      clear hw9
      go_wp2_with (fail)
      refine (HA.out _).mono ?_
      rintro e w10 ⟨rfl, hb⟩
      have B10 := Lib.hid (B9.out.trans (hb.mono B9.out.size))
      clear hb
      go_wp2_with (fail)
      go_ret
      exact ⟨rfl, B10.out⟩
    · have hu6 := HU5.out
      rw [if_neg hk0] at hu6
      obtain ⟨A, c, rfl, _⟩ := hu6.form
      have kn : ((k : Int) == 0) = false := by rw [beq_eq_false_iff_ne]; omega
      have kn2 : ((k : Int) != 0) = true := by rw [bne, kn]; rfl
      clear hu6 hk0
      go_wp2_with (fail)
      refine (HA.out _).mono ?_
      rintro e w10 ⟨rfl, hb⟩
      have B10 := Lib.hid (B5.out.trans (hb.mono B5.out.size))
      clear hb
      go_wp2_with (fail)
      go_ret
      exact ⟨rfl, B10.out⟩
end Go.Proofs.Ytcicdbhffkpldaa
