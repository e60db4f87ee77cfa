/- What is proved: 'HkdfExpands' (law 3) returns true whatever comes in: any key is expanded to any number of bytes as the document says, or refused; fewer bytes are the beginning of more; the arguments read afterwards as before.
   Conditions: none of its own. The table of the rounds reads as the program's text lays it (the card ties it; the translation is a pruned copy of the project). -/
import Derived.Test.YtpjidfcbckndfaaDoorCards
import Derived.Test.YtpjidfcbckndfaaDoorTie
import Derived.Test.YtpjidfcbckndfaaDoorLaid
import Derived.Test.YtpjidfcbckndfaaDoorHkAwake
import Derived.Test.YtpjidfcbckndfaaDoorHExpand
import Derived.SevenTiedAt
namespace Go.Proofs.YtpjidfcbckndfaaDoor.hkdfExpands
open Go.ChangeShapes Go.WideShapes Go.ChangeAt Go.ChangeMaps Go.RowKit

set_option maxRecDepth 100000 in
set_option maxHeartbeats 2000000 in
theorem walk (v0 : Value) (x0 : List UInt8) (v1 : Value) (x1 : List UInt8) (a2 a3 : Int) (w : World) (h0 : Rd w v0 x0) (h1 : Rd w v1 x1) (k2 : (Lit.int .i64 a2).wf = true) (k3 : (Lit.int .i64 a3).wf = true) (hk : Salts w) :
    Calls Tryd.prog 4 #[v0, v1, .int .i64 a2, .int .i64 a3] w fun e w' => e = .returned (.bool true) ∧ Below w.heap.size w w' := by
  obtain ⟨i0, hi, hz0, hz1, hz2⟩ := info_parts info_u8
  obtain ⟨A, c, rfl, hc1, hc2, _⟩ := h0.form
  obtain ⟨A1, c1, rfl, hd1, hd2, _⟩ := h1.form
  have HA := Lib.hid fun W hW => hkdfAwake_any W hW
  have HK := Lib.hid hk
  have R0 := Lib.hid h0
  have R1 := Lib.hid h1
  have b2 := bounds_i64 k2
  have b3 := bounds_i64 k3
  clear h0 h1 hk hc1 hc2 hd1 hd2 k2 k3
  rcases Int.lt_or_le 200 (x0.length : Int) with lI | lI
  · go_enter Tryd.func4, Tryd.ntmps4
    go_wp2_with (fail)
    all_goals (try (exfalso; omega))
    all_goals
      refine (HA.out _ HK.out).mono ?_
      rintro e w9 ⟨rfl, hb9⟩
      go_wp2_with (fail)
      go_ret
      exact ⟨rfl, hb9⟩
  rcases Int.lt_or_le 200 (x1.length : Int) with mI | mI
  · go_enter Tryd.func4, Tryd.ntmps4
    go_wp2_with (fail)
    all_goals (try (exfalso; omega))
    all_goals
      refine (HA.out _ HK.out).mono ?_
      rintro e w9 ⟨rfl, hb9⟩
      go_wp2_with (fail)
      go_ret
      exact ⟨rfl, hb9⟩
  by_cases hn : 200 < a2 ∧ a2 ≤ 8160
  · obtain ⟨n1, n2⟩ := hn
    go_enter Tryd.func4, Tryd.ntmps4
    go_wp2_with (fail)
    all_goals (try (exfalso; omega))
    all_goals
      refine (HA.out _ HK.out).mono ?_
      rintro e w9 ⟨rfl, hb9⟩
      go_wp2_with (fail)
      go_ret
      exact ⟨rfl, hb9⟩
  by_cases hm : 200 < a3 ∧ a3 ≤ 8160
  · obtain ⟨m1, m2⟩ := hm
    rcases Int.lt_or_le 8160 a2 with n1 | n1
    · go_enter Tryd.func4, Tryd.ntmps4
      go_wp2_with (fail)
      all_goals (try (exfalso; omega))
      all_goals
        refine (HA.out _ HK.out).mono ?_
        rintro e w9 ⟨rfl, hb9⟩
        go_wp2_with (fail)
        go_ret
        exact ⟨rfl, hb9⟩
    · have n2 : a2 ≤ 200 := by omega
      clear hn n1
      go_enter Tryd.func4, Tryd.ntmps4
      go_wp2_with (fail)
      all_goals (try (exfalso; omega))
      all_goals
        refine (HA.out _ HK.out).mono ?_
        rintro e w9 ⟨rfl, hb9⟩
        go_wp2_with (fail)
        go_ret
        exact ⟨rfl, hb9⟩
  rcases Int.lt_or_le 8160 a2 with n1 | n1
  · clear hn
    rcases Int.lt_or_le 8160 a3 with m1 | m1
    · clear hm
      go_enter Tryd.func4, Tryd.ntmps4
      go_wp2_with (fail)
      all_goals (try (exfalso; omega))
      refine (hexpand_no _ _ a2 _ (by omega)).mono ?_
      rintro e w1 ⟨rfl, hw1⟩
      have D1 : Hid (Below w.heap.size w w1) := by rw [hw1]; exact Lib.hid (Below.refl _ _)
      have HW1 := Lib.hid hw1
      clear hw1
      go_wp2_with (fail)
      all_goals (try (exfalso; omega))
      refine (hexpand_no _ _ a3 _ (by omega)).mono ?_
      rintro e w2 ⟨rfl, hw2⟩
      have D2 : Hid (Below w.heap.size w w2) := by rw [hw2]; exact D1
      have HW2 := Lib.hid hw2
      clear hw2
      go_wp2_with (fail)
      all_goals (try (exfalso; omega))
      all_goals
        refine (HA.out _ (HK.out.below D2.out)).mono ?_
        rintro e w9 ⟨rfl, hb9⟩
        have D9 := Lib.hid (D2.out.trans (hb9.mono D2.out.size))
        clear hb9
        go_wp2_with (fail)
        go_ret
        exact ⟨rfl, D9.out⟩
    have m2 : a3 ≤ 200 := by omega
    clear hm m1
    rcases Int.lt_or_le a3 0 with m1 | m1
    · skip
      go_enter Tryd.func4, Tryd.ntmps4
      go_wp2_with (fail)
      all_goals (try (exfalso; omega))
      refine (hexpand_no _ _ a2 _ (by omega)).mono ?_
      rintro e w1 ⟨rfl, hw1⟩
      have D1 : Hid (Below w.heap.size w w1) := by rw [hw1]; exact Lib.hid (Below.refl _ _)
      have HW1 := Lib.hid hw1
      clear hw1
      go_wp2_with (fail)
      all_goals (try (exfalso; omega))
      refine (hexpand_no _ _ a3 _ (by omega)).mono ?_
      rintro e w2 ⟨rfl, hw2⟩
      have D2 : Hid (Below w.heap.size w w2) := by rw [hw2]; exact D1
      have HW2 := Lib.hid hw2
      clear hw2
      go_wp2_with (fail)
      all_goals (try (exfalso; omega))
      all_goals
        refine (HA.out _ (HK.out.below D2.out)).mono ?_
        rintro e w9 ⟨rfl, hb9⟩
        have D9 := Lib.hid (D2.out.trans (hb9.mono D2.out.size))
        clear hb9
        go_wp2_with (fail)
        go_ret
        exact ⟨rfl, D9.out⟩
    obtain ⟨M, rfl⟩ : ∃ M : Nat, a3 = (M : Int) := ⟨a3.toNat, by omega⟩
    go_enter Tryd.func4, Tryd.ntmps4
    go_wp2_with (fail)
    all_goals (try (exfalso; omega))
    refine (hexpand_no _ _ a2 _ (by omega)).mono ?_
    rintro e w1 ⟨rfl, hw1⟩
    have D1 : Hid (Below w.heap.size w w1) := by rw [hw1]; exact Lib.hid (Below.refl _ _)
    have HW1 := Lib.hid hw1
    clear hw1
    go_wp2_with (fail)
    all_goals (try (exfalso; omega))
    refine (hexpand_yes _ _ x0 x1 M _ (R0.out.below D1.out) (R1.out.below D1.out) (by omega) (by omega) (by omega) (HK.out.below D1.out)).mono ?_
    rintro e w2 ⟨v2, rfl, r2, hb2⟩
    have Q2 := Lib.hid r2
    have D2 := Lib.hid (D1.out.trans (hb2.mono D1.out.size))
    clear r2 hb2
    go_wp2_with (fail)
    all_goals (try (exfalso; omega))
    all_goals
      refine (HA.out _ (HK.out.below D2.out)).mono ?_
      rintro e w9 ⟨rfl, hb9⟩
      have D9 := Lib.hid (D2.out.trans (hb9.mono D2.out.size))
      clear hb9
      go_wp2_with (fail)
      go_ret
      exact ⟨rfl, D9.out⟩
  have n2 : a2 ≤ 200 := by omega
  clear hn n1
  rcases Int.lt_or_le a2 0 with n1 | n1
  · skip
    rcases Int.lt_or_le 8160 a3 with m1 | m1
    · clear hm
      go_enter Tryd.func4, Tryd.ntmps4
      go_wp2_with (fail)
      all_goals (try (exfalso; omega))
      refine (hexpand_no _ _ a2 _ (by omega)).mono ?_
      rintro e w1 ⟨rfl, hw1⟩
      have D1 : Hid (Below w.heap.size w w1) := by rw [hw1]; exact Lib.hid (Below.refl _ _)
      have HW1 := Lib.hid hw1
      clear hw1
      go_wp2_with (fail)
      all_goals (try (exfalso; omega))
      refine (hexpand_no _ _ a3 _ (by omega)).mono ?_
      rintro e w2 ⟨rfl, hw2⟩
      have D2 : Hid (Below w.heap.size w w2) := by rw [hw2]; exact D1
      have HW2 := Lib.hid hw2
      clear hw2
      go_wp2_with (fail)
      all_goals (try (exfalso; omega))
      all_goals
        refine (HA.out _ (HK.out.below D2.out)).mono ?_
        rintro e w9 ⟨rfl, hb9⟩
        have D9 := Lib.hid (D2.out.trans (hb9.mono D2.out.size))
        clear hb9
        go_wp2_with (fail)
        go_ret
        exact ⟨rfl, D9.out⟩
    have m2 : a3 ≤ 200 := by omega
    clear hm m1
    rcases Int.lt_or_le a3 0 with m1 | m1
    · skip
      go_enter Tryd.func4, Tryd.ntmps4
      go_wp2_with (fail)
      all_goals (try (exfalso; omega))
      refine (hexpand_no _ _ a2 _ (by omega)).mono ?_
      rintro e w1 ⟨rfl, hw1⟩
      have D1 : Hid (Below w.heap.size w w1) := by rw [hw1]; exact Lib.hid (Below.refl _ _)
      have HW1 := Lib.hid hw1
      clear hw1
      go_wp2_with (fail)
      all_goals (try (exfalso; omega))
      refine (hexpand_no _ _ a3 _ (by omega)).mono ?_
      rintro e w2 ⟨rfl, hw2⟩
      have D2 : Hid (Below w.heap.size w w2) := by rw [hw2]; exact D1
      have HW2 := Lib.hid hw2
      clear hw2
      go_wp2_with (fail)
      all_goals (try (exfalso; omega))
      all_goals
        refine (HA.out _ (HK.out.below D2.out)).mono ?_
        rintro e w9 ⟨rfl, hb9⟩
        have D9 := Lib.hid (D2.out.trans (hb9.mono D2.out.size))
        clear hb9
        go_wp2_with (fail)
        go_ret
        exact ⟨rfl, D9.out⟩
    obtain ⟨M, rfl⟩ : ∃ M : Nat, a3 = (M : Int) := ⟨a3.toNat, by omega⟩
    go_enter Tryd.func4, Tryd.ntmps4
    go_wp2_with (fail)
    all_goals (try (exfalso; omega))
    refine (hexpand_no _ _ a2 _ (by omega)).mono ?_
    rintro e w1 ⟨rfl, hw1⟩
    have D1 : Hid (Below w.heap.size w w1) := by rw [hw1]; exact Lib.hid (Below.refl _ _)
    have HW1 := Lib.hid hw1
    clear hw1
    go_wp2_with (fail)
    all_goals (try (exfalso; omega))
    refine (hexpand_yes _ _ x0 x1 M _ (R0.out.below D1.out) (R1.out.below D1.out) (by omega) (by omega) (by omega) (HK.out.below D1.out)).mono ?_
    rintro e w2 ⟨v2, rfl, r2, hb2⟩
    have Q2 := Lib.hid r2
    have D2 := Lib.hid (D1.out.trans (hb2.mono D1.out.size))
    clear r2 hb2
    go_wp2_with (fail)
    all_goals (try (exfalso; omega))
    all_goals
      refine (HA.out _ (HK.out.below D2.out)).mono ?_
      rintro e w9 ⟨rfl, hb9⟩
      have D9 := Lib.hid (D2.out.trans (hb9.mono D2.out.size))
      clear hb9
      go_wp2_with (fail)
      go_ret
      exact ⟨rfl, D9.out⟩
  obtain ⟨N, rfl⟩ : ∃ N : Nat, a2 = (N : Int) := ⟨a2.toNat, by omega⟩
  rcases Int.lt_or_le 8160 a3 with m1 | m1
  · clear hm
    go_enter Tryd.func4, Tryd.ntmps4
    go_wp2_with (fail)
    all_goals (try (exfalso; omega))
    refine (hexpand_yes _ _ x0 x1 N _ R0.out R1.out (by omega) (by omega) (by omega) HK.out).mono ?_
    rintro e w1 ⟨v1, rfl, r1, hb1⟩
    have Q1 := Lib.hid r1
    have D1 := Lib.hid hb1
    clear r1 hb1
    go_wp2_with (fail)
    all_goals (try (exfalso; omega))
    refine (hexpand_no _ _ a3 _ (by omega)).mono ?_
    rintro e w2 ⟨rfl, hw2⟩
    have D2 : Hid (Below w.heap.size w w2) := by rw [hw2]; exact D1
    have HW2 := Lib.hid hw2
    clear hw2
    have Q12 : Hid (Rd w2 v1 (expB x0 x1 N)) := by rw [HW2.out]; exact Q1
    go_wp2_with (fail)
    all_goals (try (exfalso; omega))
    refine (refExpand_any _ _ x0 x1 N _ (R0.out.below D2.out) (R1.out.below D2.out) (by omega) (by omega) (by omega)).mono ?_
    rintro e w3 ⟨v3, rfl, r3, hb3⟩
    have Q3 := Lib.hid r3
    have Q13 := Lib.hid (Q12.out.below hb3)
    have D3 := Lib.hid (D2.out.trans (hb3.mono D2.out.size))
    clear r3 hb3
    go_wp2_with (fail)
    all_goals (try (exfalso; omega))
    refine (same_yes _ _ (expB x0 x1 N) _ Q13.out Q3.out).mono ?_
    rintro e w4 ⟨rfl, n4, hw4⟩
    have D4 : Hid (Below w.heap.size w w4) := by rw [hw4]; exact Lib.hid (below_drewN D3.out n4)
    clear hw4
    go_wp2_with (fail)
    all_goals (try (exfalso; omega))
    all_goals
      refine (HA.out _ (HK.out.below D4.out)).mono ?_
      rintro e w9 ⟨rfl, hb9⟩
      have D9 := Lib.hid (D4.out.trans (hb9.mono D4.out.size))
      clear hb9
      go_wp2_with (fail)
      go_ret
      exact ⟨rfl, D9.out⟩
  have m2 : a3 ≤ 200 := by omega
  clear hm m1
  rcases Int.lt_or_le a3 0 with m1 | m1
  · skip
    go_enter Tryd.func4, Tryd.ntmps4
    go_wp2_with (fail)
    all_goals (try (exfalso; omega))
    refine (hexpand_yes _ _ x0 x1 N _ R0.out R1.out (by omega) (by omega) (by omega) HK.out).mono ?_
    rintro e w1 ⟨v1, rfl, r1, hb1⟩
    have Q1 := Lib.hid r1
    have D1 := Lib.hid hb1
    clear r1 hb1
    go_wp2_with (fail)
    all_goals (try (exfalso; omega))
    refine (hexpand_no _ _ a3 _ (by omega)).mono ?_
    rintro e w2 ⟨rfl, hw2⟩
    have D2 : Hid (Below w.heap.size w w2) := by rw [hw2]; exact D1
    have HW2 := Lib.hid hw2
    clear hw2
    have Q12 : Hid (Rd w2 v1 (expB x0 x1 N)) := by rw [HW2.out]; exact Q1
    go_wp2_with (fail)
    all_goals (try (exfalso; omega))
    refine (refExpand_any _ _ x0 x1 N _ (R0.out.below D2.out) (R1.out.below D2.out) (by omega) (by omega) (by omega)).mono ?_
    rintro e w3 ⟨v3, rfl, r3, hb3⟩
    have Q3 := Lib.hid r3
    have Q13 := Lib.hid (Q12.out.below hb3)
    have D3 := Lib.hid (D2.out.trans (hb3.mono D2.out.size))
    clear r3 hb3
    go_wp2_with (fail)
    all_goals (try (exfalso; omega))
    refine (same_yes _ _ (expB x0 x1 N) _ Q13.out Q3.out).mono ?_
    rintro e w4 ⟨rfl, n4, hw4⟩
    have D4 : Hid (Below w.heap.size w w4) := by rw [hw4]; exact Lib.hid (below_drewN D3.out n4)
    clear hw4
    go_wp2_with (fail)
    all_goals (try (exfalso; omega))
    all_goals
      refine (HA.out _ (HK.out.below D4.out)).mono ?_
      rintro e w9 ⟨rfl, hb9⟩
      have D9 := Lib.hid (D4.out.trans (hb9.mono D4.out.size))
      clear hb9
      go_wp2_with (fail)
      go_ret
      exact ⟨rfl, D9.out⟩
  obtain ⟨M, rfl⟩ : ∃ M : Nat, a3 = (M : Int) := ⟨a3.toNat, by omega⟩
  rcases Int.lt_or_le (N : Int) (M : Int) with p1 | p1
  · go_enter Tryd.func4, Tryd.ntmps4
    go_wp2_with (fail)
    all_goals (try (exfalso; omega))
    refine (hexpand_yes _ _ x0 x1 N _ R0.out R1.out (by omega) (by omega) (by omega) HK.out).mono ?_
    rintro e w1 ⟨v1, rfl, r1, hb1⟩
    have Q1 := Lib.hid r1
    have D1 := Lib.hid hb1
    clear r1 hb1
    go_wp2_with (fail)
    all_goals (try (exfalso; omega))
    refine (hexpand_yes _ _ x0 x1 M _ (R0.out.below D1.out) (R1.out.below D1.out) (by omega) (by omega) (by omega) (HK.out.below D1.out)).mono ?_
    rintro e w2 ⟨v2, rfl, r2, hb2⟩
    have Q2 := Lib.hid r2
    have D2 := Lib.hid (D1.out.trans (hb2.mono D1.out.size))
    have hb2h := Lib.hid hb2
    clear r2 hb2
    have B12 : Hid (Below w1.heap.size w1 w2) := hb2h
    have Q12 := Lib.hid (Q1.out.below B12.out)
    go_wp2_with (fail)
    all_goals (try (exfalso; omega))
    refine (refExpand_any _ _ x0 x1 N _ (R0.out.below D2.out) (R1.out.below D2.out) (by omega) (by omega) (by omega)).mono ?_
    rintro e w3 ⟨v3, rfl, r3, hb3⟩
    have Q3 := Lib.hid r3
    have Q13 := Lib.hid (Q12.out.below hb3)
    have D3 := Lib.hid (D2.out.trans (hb3.mono D2.out.size))
    have Q23 := Lib.hid (Q2.out.below hb3)
    clear r3 hb3
    go_wp2_with (fail)
    all_goals (try (exfalso; omega))
    refine (same_yes _ _ (expB x0 x1 N) _ Q13.out Q3.out).mono ?_
    rintro e w4 ⟨rfl, n4, hw4⟩
    have D4 : Hid (Below w.heap.size w w4) := by rw [hw4]; exact Lib.hid (below_drewN D3.out n4)
    clear hw4
    go_wp2_with (fail)
    all_goals (try (exfalso; omega))
    all_goals
      refine (HA.out _ (HK.out.below D4.out)).mono ?_
      rintro e w9 ⟨rfl, hb9⟩
      have D9 := Lib.hid (D4.out.trans (hb9.mono D4.out.size))
      clear hb9
      go_wp2_with (fail)
      go_ret
      exact ⟨rfl, D9.out⟩
  · go_enter Tryd.func4, Tryd.ntmps4
    go_wp2_with (fail)
    all_goals (try (exfalso; omega))
    refine (hexpand_yes _ _ x0 x1 N _ R0.out R1.out (by omega) (by omega) (by omega) HK.out).mono ?_
    rintro e w1 ⟨v1, rfl, r1, hb1⟩
    have Q1 := Lib.hid r1
    have D1 := Lib.hid hb1
    clear r1 hb1
    go_wp2_with (fail)
    all_goals (try (exfalso; omega))
    refine (hexpand_yes _ _ x0 x1 M _ (R0.out.below D1.out) (R1.out.below D1.out) (by omega) (by omega) (by omega) (HK.out.below D1.out)).mono ?_
    rintro e w2 ⟨v2, rfl, r2, hb2⟩
    have Q2 := Lib.hid r2
    have D2 := Lib.hid (D1.out.trans (hb2.mono D1.out.size))
    have hb2h := Lib.hid hb2
    clear r2 hb2
    have B12 : Hid (Below w1.heap.size w1 w2) := hb2h
    have Q12 := Lib.hid (Q1.out.below B12.out)
    go_wp2_with (fail)
    all_goals (try (exfalso; omega))
    refine (refExpand_any _ _ x0 x1 N _ (R0.out.below D2.out) (R1.out.below D2.out) (by omega) (by omega) (by omega)).mono ?_
    rintro e w3 ⟨v3, rfl, r3, hb3⟩
    have Q3 := Lib.hid r3
    have Q13 := Lib.hid (Q12.out.below hb3)
    have D3 := Lib.hid (D2.out.trans (hb3.mono D2.out.size))
    have Q23 := Lib.hid (Q2.out.below hb3)
    clear r3 hb3
    go_wp2_with (fail)
    all_goals (try (exfalso; omega))
    refine (same_yes _ _ (expB x0 x1 N) _ Q13.out Q3.out).mono ?_
    rintro e w4 ⟨rfl, n4, hw4⟩
    have D4 : Hid (Below w.heap.size w w4) := by rw [hw4]; exact Lib.hid (below_drewN D3.out n4)
    obtain ⟨A5, c5, S5, r5⟩ := Q13.out.high (P := Tryd.prog) 22 5 i0 Tryd.underlying22 hi hz1 M (by rw [expB_length]; omega)
    rw [expB_take x0 x1 (by omega)] at r5
    have Q5 : Hid (Rd w4 (.slice A5 M c5) (expB x0 x1 M)) := by rw [hw4]; exact Lib.hid (r5.drewN n4)
    have Q24 : Hid (Rd w4 v2 (expB x0 x1 M)) := by rw [hw4]; exact Lib.hid (Q23.out.drewN n4)
    clear r5 hw4
    go_wp2_with (fail)
    all_goals (try (exfalso; omega))
    refine (same_yes _ _ (expB x0 x1 M) _ Q24.out Q5.out).mono ?_
    rintro e w5 ⟨rfl, n5, hw5⟩
    have D5 : Hid (Below w.heap.size w w5) := by rw [hw5]; exact Lib.hid (below_drewN D4.out n5)
    clear hw5
    go_wp2_with (fail)
    all_goals (try (exfalso; omega))
    all_goals
      refine (HA.out _ (HK.out.below D5.out)).mono ?_
      rintro e w9 ⟨rfl, hb9⟩
      have D9 := Lib.hid (D5.out.trans (hb9.mono D5.out.size))
      clear hb9
      go_wp2_with (fail)
      go_ret
      exact ⟨rfl, D9.out⟩

theorem own : ownKnob Tryd.prog.godebug = none := by kernel_rfl
theorem laidOut : laidOutB Tryd.prog = true := by kernel_rfl

set_option maxRecDepth 100000 in
theorem lifted (os : Os) (started : os.Started) (H : Type) (enc : TypeId × Value → H) :
    ReturnsInHanded {} Tryd.checked os 4 .any (fun w args => (Rows.hkdfExpandsSpec.pre enc Tryd.prog Tryd.f4 Rows.hkdfExpandsRow.domain false w args ∧ laidMetH Tryd.prog saltsLaid w) ∧ sizedMet enc Tryd.prog Tryd.f4 (OpenSpec.ofChange Rows.hkdfExpandsSpec) false w args) (Rows.hkdfExpandsSpec.post enc Tryd.prog Tryd.f4 false true false false) := by
  refine returnsInHanded_of_change_and (C := Tryd.checked) (X := fun w _ => laidMetH Tryd.prog saltsLaid w) (fun _ _ _ hh h => h.of_heap hh) own started (by kernel_rfl) Tryd.func4
    (ChangeSpec.witness_shaped (enc := enc) (C := Tryd.checked) (os := os) (X := fun w _ => laidMetH Tryd.prog saltsLaid w) false (World.doorLaid Tryd.prog 400 os) #[.slice none 0 0, .slice none 0 0, .int .i64 0, .int .i64 0] 8 rfl (World.shaped_of_RefB (by kernel_rfl) (by kernel_rfl)) (by kernel_rfl) (by kernel_rfl) (by kernel_rfl) (door_met os _)) ?_
  intro W base args ds gs before hval0 hW _ _ hL _
  have hval : ∀ (j : Nat) t v, Tryd.f4.params[j]? = some t → args[j]? = some v → Value.okWide Tryd.prog W .any base t v := hval0
  have hW' := hW
  obtain ⟨p, q, hA0, hV, rfl, hfz, hnd⟩ := hW
  have hA : DataW.TrodAll enc Tryd.prog W 0 (fun _ => true) true Tryd.f4.params.toList args.toList ds p := hA0
  rw [Tryd.params4] at hA hval
  obtain ⟨v0, vs0, dd0, ds0, p0, q0, hargs, rfl, rfl, h0, r0⟩ := trodAll_cons hA
  obtain ⟨v1, vs1, dd1, ds1, p1, q1, rfl, rfl, rfl, h1, r1⟩ := trodAll_cons r0
  obtain ⟨v2, vs2, dd2, ds2, p2, q2, rfl, rfl, rfl, h2, r2⟩ := trodAll_cons r1
  obtain ⟨v3, vs3, dd3, ds3, p3, q3, rfl, rfl, rfl, h3, r3⟩ := trodAll_cons r2
  obtain ⟨rfl, rfl, rfl⟩ := trodAll_nil r3
  obtain rfl : args = #[v0, v1, v2, v3] := by cases args; simp_all
  obtain ⟨rfl, rfl⟩ := trodVars_none hV
  obtain ⟨A0, n0, c0, rfl⟩ := okWide_slice Tryd.underlying22 (hval 0 22 v0 rfl rfl)
  have g0 := h0
  have lt0 : ∀ x ∈ p0, x.block < W.heap.size := by obtain ⟨m, hm⟩ := g0; exact DataW.trod_lt m _ _ _ hm
  obtain ⟨x0, k0⟩ : ∃ xs, Rd W (.slice A0 n0 c0) xs := by
    obtain ⟨fuel, hf⟩ := h0
    rcases open_ints Tryd.underlying22 Tryd.underlying5 (by kernel_rfl) hf with ⟨hcs, _⟩ | ⟨x, l, c, zs, hcs, _, hl, hm, hz, _, hcell, hwz⟩
    · simp [Value.cells] at hcs
      obtain ⟨rfl, rfl, rfl⟩ := hcs
      exact ⟨[], Rd.nil W⟩
    · simp [Value.cells] at hcs
      obtain ⟨rfl, rfl, rfl⟩ := hcs
      exact rd_of_row hl hm (by simpa using hz) hcell hwz
  obtain ⟨A1, n1, c1, rfl⟩ := okWide_slice Tryd.underlying22 (hval 1 22 v1 rfl rfl)
  have g1 := h1
  have lt1 : ∀ x ∈ p1, x.block < W.heap.size := by obtain ⟨m, hm⟩ := g1; exact DataW.trod_lt m _ _ _ hm
  obtain ⟨x1, k1⟩ : ∃ xs, Rd W (.slice A1 n1 c1) xs := by
    obtain ⟨fuel, hf⟩ := h1
    rcases open_ints Tryd.underlying22 Tryd.underlying5 (by kernel_rfl) hf with ⟨hcs, _⟩ | ⟨x, l, c, zs, hcs, _, hl, hm, hz, _, hcell, hwz⟩
    · simp [Value.cells] at hcs
      obtain ⟨rfl, rfl, rfl⟩ := hcs
      exact ⟨[], Rd.nil W⟩
    · simp [Value.cells] at hcs
      obtain ⟨rfl, rfl, rfl⟩ := hcs
      exact rd_of_row hl hm (by simpa using hz) hcell hwz
  obtain ⟨a2, rfl, rfl, rfl, k2⟩ := open_int Tryd.underlying3 (hval 2 3 v2 rfl rfl) h2
  obtain ⟨a3, rfl, rfl, rfl, k3⟩ := open_int Tryd.underlying3 (hval 3 3 v3 rfl rfl) h3
  clear hA0 hval0
  refine (walk _ x0 _ x1 a2 a3 W k0 k1 k2 k3 (salts_of_laid hL)).mono fun e W' ⟨he, bel⟩ => ?_
  subst he
  exact ⟨_, rfl, _, _, _, [], _, [], hW', trodAll_mk1 (shut_bool Tryd.underlying4 _), (trodAll_cons_mk (Below.trod laidOut (by kernel_rfl) (of_decide_eq_true (by kernel_rfl)) g0 bel lt0) (trodAll_cons_mk (Below.trod laidOut (by kernel_rfl) (of_decide_eq_true (by kernel_rfl)) g1 bel lt1) (trodAll_cons_mk (shut_int Tryd.underlying3 k2) (trodAll_cons_mk (shut_int Tryd.underlying3 k3) trodAll_mk0)))), rfl, bel.frame _, fun h => by cases h⟩

theorem over : Rows.hkdfExpandsRow.holds Tryd.pinned (OpenSpec.ofChange Rows.hkdfExpandsSpec) :=
  OpenClaim.holds_of_wide 4 Tryd.f4 rfl rfl rfl rfl rfl rfl rfl ⟨rfl, rfl, rfl, rfl, rfl⟩ rfl rfl rfl rfl rfl (by kernel_rfl) Tryd.func4 (by kernel_rfl)
    (of_decide_eq_true (by kernel_rfl)) (by unfold Func.isWrapper; first | (rw [if_pos (by decide +kernel)]; kernel_rfl) | (rw [if_neg (by decide +kernel)]; exact ⟨rfl, rfl⟩))
    (fun os started H enc _ => lifted os started H enc)

theorem proved : Rows.HkdfExpandsCardSaid :=
  Claim7.holds_tied_plain_at .later [] [.data] true Rows.hkdfExpandsCard.stood.harness false
    over (fun _ h => by cases h) (by kernel_rfl) (fun _ h => by cases h) hkdfExpands_row_tie rfl ⟨rfl, rfl⟩ (by kernel_rfl) rfl
    (fun f fn hf hfn => by
      obtain rfl : f = 4 := Option.some.inj ((show Tryd.prog.funcNamed Rows.hkdfExpandsRow.func = some 4 by kernel_rfl).symm.trans hf) |>.symm
      obtain rfl : fn = Tryd.f4 := (Option.some.inj (Tryd.func4.symm.trans hfn)).symm
      exact ⟨by kernel_rfl, fun j t ht => by
        rw [Tryd.params4] at ht
        have hm := List.mem_of_getElem? (l := [22, 22, 3, 3]) (by simpa using ht)
        simp only [List.mem_cons, List.not_mem_nil, or_false] at hm
        rcases hm with rfl | rfl | rfl | rfl
        · exact (show Tryd.prog.wantsStandIn 22 = false by kernel_rfl)
        · exact (show Tryd.prog.wantsStandIn 22 = false by kernel_rfl)
        · exact (show Tryd.prog.wantsStandIn 3 = false by kernel_rfl)
        · exact (show Tryd.prog.wantsStandIn 3 = false by kernel_rfl)⟩)
    (by kernel_rfl)
#print axioms proved
end Go.Proofs.YtpjidfcbckndfaaDoor.hkdfExpands
