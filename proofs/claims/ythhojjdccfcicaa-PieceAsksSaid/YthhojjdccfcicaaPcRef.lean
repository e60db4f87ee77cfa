/- The thirteenth reference's calls. Conditions: pieces as pieces are. -/
import Derived.Test.YthhojjdccfcicaaPcRow
import Derived.Test.YthhojjdccfcicaaBlk
import Derived.BigQuiet
import Derived.Laws.StructEq
namespace Go.Proofs.Ythhojjdccfcicaa
open Go.RowKit

set_option maxRecDepth 100000 in
set_option maxHeartbeats 1000000 in
theorem refAbove_any (n o m q : Nat) (w : World) :
    Calls Try.prog 9 #[.agg #[.int .u64 (n : Int), .int .u16 (o : Int)], .agg #[.int .u64 (m : Int), .int .u16 (q : Int)]] w fun e w' => e = .returned (.bool (aboveP n o m q)) ∧ Below w.heap.size w w' := by
  have hb : ∀ o1 o2, Below w.heap.size w ((w.alloc o1).alloc o2) := fun o1 o2 => ((Below.refl _ _).alloc (Nat.le_refl _) _).alloc (by simp) _
  have HB := Lib.hid hb
  by_cases h1 : m < n
  · have g1 : decide (m < n) = true := decide_eq_true h1
    have HA : Hid (aboveP n o m q = true) := Lib.hid (above_iff.2 (.inl h1))
    rw [HA.out]
    clear h1 hb
    go_enter Try.func9, Try.ntmps9
    go_wp2_with (fail)
    go_ret
    exact ⟨rfl, HB.out _ _⟩
  · have g1 : decide (m < n) = false := decide_eq_false h1
    by_cases h2 : n = m
    · subst h2
      have g2 : ((n : Int) == (n : Int)) = true := beq_self_eq_true _
      have HA : Hid (aboveP n o n q = decide (q < o)) := Lib.hid (by
        unfold aboveP
        rw [g1, decide_eq_true (rfl : n = n)]
        simp)
      rw [HA.out]
      clear h1 hb
      by_cases h3 : q < o
      · have g3 : decide (q < o) = true := decide_eq_true h3
        rw [g3]
        clear h3
        go_enter Try.func9, Try.ntmps9
        go_wp2_with (fail)
        go_ret
        exact ⟨rfl, HB.out _ _⟩
      · have g3 : decide (q < o) = false := decide_eq_false h3
        rw [g3]
        clear h3
        go_enter Try.func9, Try.ntmps9
        go_wp2_with (fail)
        go_ret
        exact ⟨rfl, HB.out _ _⟩
    · have g2 : ((n : Int) == (m : Int)) = false := by rw [beq_eq_false_iff_ne]; omega
      have HA : Hid (aboveP n o m q = false) := Lib.hid (by
        unfold aboveP
        rw [g1, decide_eq_false h2]
        rfl)
      rw [HA.out]
      clear h1 h2 hb
      go_enter Try.func9, Try.ntmps9
      go_wp2_with (fail)
      go_ret
      exact ⟨rfl, HB.out _ _⟩
set_option maxRecDepth 100000 in
set_option maxHeartbeats 2000000 in
theorem refLessP_any (a b : Pc) (w : World) :
    Calls Try.prog 11 #[.agg a.vs.toArray, .agg b.vs.toArray] w fun e w' => e = .returned (.bool (lessP a b)) ∧ Below w.heap.size w w' := by
  obtain ⟨s, t, v, n, o⟩ := a
  obtain ⟨s', t', v', n', o'⟩ := b
  have hb : ∀ o1 o2, Below w.heap.size w ((w.alloc o1).alloc o2) := fun o1 o2 => ((Below.refl _ _).alloc (Nat.le_refl _) _).alloc (by simp) _
  have HB := Lib.hid hb
  have hsz : ∀ o1 o2, w.heap.size ≤ ((w.alloc o1).alloc o2).heap.size := fun o1 o2 => (hb o1 o2).size
  have HSZ := Lib.hid hsz
  show Calls _ _ #[.agg #[.string s, .int .i64 t, .int .i64 v, .int .u64 (n : Int), .int .u16 (o : Int)], .agg #[.string s', .int .i64 t', .int .i64 v', .int .u64 (n' : Int), .int .u16 (o' : Int)]] w _
  by_cases h1 : s.toList = s'.toList
  · have g1 : (s.toList == s'.toList) = true := by rw [h1]; exact beq_self_eq_true _
    by_cases h2 : t = t'
    · have g2 : (t == t') = true := by rw [h2]; exact beq_self_eq_true _
      have HL : Hid (lessP ⟨s, t, v, n, o⟩ ⟨s', t', v', n', o'⟩ = aboveP n' o' n o) := Lib.hid (by
        unfold lessP
        rw [if_neg fun e => e h1, if_neg fun e => e h2])
      rw [HL.out]
      clear h1 h2 hb hsz
      go_enter Try.func11, Try.ntmps11
      go_wp2_with (fail)
      refine (refAbove_any n' o' n o _).mono ?_
      rintro e w1 ⟨rfl, b1⟩
      have B1 := Lib.hid ((HB.out _ _).trans (b1.mono (HSZ.out _ _)))
      clear b1
      go_wp2_with (fail)
      go_ret
      exact ⟨rfl, B1.out⟩
    · have g2 : (t == t') = false := by rw [beq_eq_false_iff_ne]; exact h2
      by_cases h3 : t < t'
      · have g3 : decide (t < t') = true := decide_eq_true h3
        have HL : Hid (lessP ⟨s, t, v, n, o⟩ ⟨s', t', v', n', o'⟩ = true) := Lib.hid (by
          unfold lessP
          rw [if_neg fun e => e h1, if_pos h2]
          exact g3)
        rw [HL.out]
        clear h1 h2 h3 hb hsz
        go_enter Try.func11, Try.ntmps11
        go_wp2_with (fail)
        go_ret
        exact ⟨rfl, HB.out _ _⟩
      · have g3 : decide (t < t') = false := decide_eq_false h3
        have HL : Hid (lessP ⟨s, t, v, n, o⟩ ⟨s', t', v', n', o'⟩ = false) := Lib.hid (by
          unfold lessP
          rw [if_neg fun e => e h1, if_pos h2]
          exact g3)
        rw [HL.out]
        clear h1 h2 h3 hb hsz
        go_enter Try.func11, Try.ntmps11
        go_wp2_with (fail)
        go_ret
        exact ⟨rfl, HB.out _ _⟩
  · have g1 : (s.toList == s'.toList) = false := by rw [beq_eq_false_iff_ne]; exact h1
    have HL : Hid (lessP ⟨s, t, v, n, o⟩ ⟨s', t', v', n', o'⟩ = Op.bytesLess s.toList s'.toList) := Lib.hid (by
      unfold lessP
      rw [if_pos h1])
    rw [HL.out]
    clear h1 hb hsz
    go_enter Try.func11, Try.ntmps11
    go_wp2_with (fail)
    go_ret
    exact ⟨rfl, HB.out _ _⟩
end Go.Proofs.Ythhojjdccfcicaa
