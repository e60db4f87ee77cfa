/- The developers' Check, Above, Less, outdoes. Conditions: pieces, ids as they are. -/
import Derived.Test.YthhojjdccfcicaaCmpLaw
import Derived.Test.YthhojjdccfcicaaPcEq
import Derived.Test.YthhojjdccfcicaaPcChk
namespace Go.Proofs.Ythhojjdccfcicaa
open Go.RowKit Go.Sort

set_option maxRecDepth 100000 in
set_option maxHeartbeats 1000000 in
theorem chkP_any (p : Pc) (w : World) (hp : p.Ok) :
    Calls Try.prog 6 #[.agg p.vs.toArray] w fun e w' => e = .returned (.int .i64 (if p.may then 0 else 1)) ∧ Below w.heap.size w w' := by
  obtain ⟨s, t, v, n, o⟩ := p
  have hz := hp.s
  have hz : s.size ≤ maxLen := hz
  unfold maxLen at hz
  have sI : (s.size : Int) ≤ 9223372036854775807 := by omega
  have hb : ∀ o1, Below w.heap.size w (w.alloc o1) := fun o1 => (Below.refl _ _).alloc (Nat.le_refl _) _
  have HB := Lib.hid hb
  show Calls _ _ #[.agg #[.string s, .int .i64 t, .int .i64 v, .int .u64 (n : Int), .int .u16 (o : Int)]] w _
  by_cases h1 : 1 ≤ s.size
  · have g1 : decide ((s.size : Int) < 1) = false := decide_eq_false (by omega)
    have g1' : decide (s.size < 1) = false := decide_eq_false (by omega)
    by_cases h2 : s.size ≤ 200
    · have g2 : decide ((200 : Int) < (s.size : Int)) = false := decide_eq_false (by omega)
      have g2' : decide (200 < s.size) = false := decide_eq_false (by omega)
      rw [if_pos (show Pc.may ⟨s, t, v, n, o⟩ from ⟨h1, h2⟩)]
      clear h1 h2 hb hz hp
      go_enter Try.func6, Try.ntmps6
      go_wp2_with (fail)
      go_ret
      exact ⟨rfl, HB.out _⟩
    · have g2 : decide ((200 : Int) < (s.size : Int)) = true := decide_eq_true (by omega)
      have g2' : decide (200 < s.size) = true := decide_eq_true (by omega)
      rw [if_neg (show ¬ Pc.may ⟨s, t, v, n, o⟩ from fun h => h2 h.2)]
      clear h1 h2 hb hz hp
      go_enter Try.func6, Try.ntmps6
      go_wp2_with (fail)
      go_ret
      exact ⟨rfl, HB.out _⟩
  · have g1 : decide ((s.size : Int) < 1) = true := decide_eq_true (by omega)
    have g1' : decide (s.size < 1) = true := decide_eq_true (by omega)
    rw [if_neg (show ¬ Pc.may ⟨s, t, v, n, o⟩ from fun h => h1 h.1)]
    clear h1 hb hz hp
    go_enter Try.func6, Try.ntmps6
    go_wp2_with (fail)
    go_ret
    exact ⟨rfl, HB.out _⟩
set_option maxRecDepth 100000 in
set_option maxHeartbeats 1000000 in
theorem aboveP_any (n o m q : Nat) (w : World) :
    Calls Try.prog 8 #[.agg #[.int .u64 (n : Int), .int .u16 (o : Int)], .agg #[.int .u64 (m : Int), .int .u16 (q : Int)]] w fun e w' => e = .returned (.bool (aboveP n o m q)) ∧ Below w.heap.size w w' := by
  have HC := fun W => Lib.hid (compId n o m q W)
  have ha := above_cmp n o m q
  obtain ⟨r, hr⟩ : ∃ r, r = cmpId n o m q := ⟨_, rfl⟩
  rw [← hr] at ha HC
  obtain ⟨b, hb⟩ : ∃ b, b = aboveP n o m q := ⟨_, rfl⟩
  rw [← hb] at ha
  rw [← hb]
  have HB0 : ∀ o1 o2, Hid (Below w.heap.size w ((w.alloc o1).alloc o2)) := fun o1 o2 => Lib.hid (((Below.refl _ w).alloc (Nat.le_refl _) _).alloc (by simp) _)
  clear hr hb
  go_enter Try.func8, Try.ntmps8
  go_wp2_with (fail)
  refine ((HC _).out).mono ?_
  rintro e w' ⟨rfl, h⟩
  have HG := Lib.hid h.below
  clear h
  go_wp2_with (fail)
  go_ret
  exact ⟨rfl, ((HB0 _ _).out).trans (HG.out.mono (by simp; omega))⟩
set_option maxRecDepth 100000 in
set_option maxHeartbeats 1000000 in
theorem lessP_any (a b : Pc) (w : World) :
    Calls Try.prog 10 #[.agg a.vs.toArray, .agg b.vs.toArray] w fun e w' => e = .returned (.bool (lessP a b)) ∧ Below w.heap.size w w' := by
  have HC := fun W => Lib.hid (compPc a b W)
  have ha := less_cmp a b
  obtain ⟨r, hr⟩ : ∃ r, r = cmpPc a b := ⟨_, rfl⟩
  rw [← hr] at ha HC
  obtain ⟨z, hz⟩ : ∃ z, z = lessP a b := ⟨_, rfl⟩
  rw [← hz] at ha
  rw [← hz]
  clear hr hz
  obtain ⟨s, t, v, n, o⟩ := a
  obtain ⟨s', t', v', m, q⟩ := b
  have HC : ∀ W, Hid (Calls Try.prog 17 #[.agg #[.string s, .int .i64 t, .int .i64 v, .int .u64 (n : Int), .int .u16 (o : Int)], .agg #[.string s', .int .i64 t', .int .i64 v', .int .u64 (m : Int), .int .u16 (q : Int)]] W fun e w' => e = .returned (.int .i64 r) ∧ GrewO W w') := HC
  show Calls _ _ #[.agg #[.string s, .int .i64 t, .int .i64 v, .int .u64 (n : Int), .int .u16 (o : Int)], .agg #[.string s', .int .i64 t', .int .i64 v', .int .u64 (m : Int), .int .u16 (q : Int)]] w _
  have HB0 : ∀ o1 o2, Hid (Below w.heap.size w ((w.alloc o1).alloc o2)) := fun o1 o2 => Lib.hid (((Below.refl _ w).alloc (Nat.le_refl _) _).alloc (by simp) _)
  go_enter Try.func10, Try.ntmps10
  go_wp2_with (fail)
  refine ((HC _).out).mono ?_
  rintro e w' ⟨rfl, h⟩
  have HG := Lib.hid h.below
  clear h
  go_wp2_with (fail)
  go_ret
  exact ⟨rfl, ((HB0 _ _).out).trans (HG.out.mono (by simp; omega))⟩
/-- What outdoes, as an answer. -/
def outB (p q : Pc) : Bool := if p.n = q.n ∧ p.o = q.o then decide (q.v < p.v) else aboveP p.n p.o q.n q.o
theorem outB_iff (p q : Pc) : outB p q = true ↔ outP p q := by
  unfold outB
  rw [outP_iff]
  by_cases h : p.n = q.n ∧ p.o = q.o
  · rw [if_pos h, decide_eq_true_eq]
    omega
  · rw [if_neg h, above_iff]
    omega
set_option maxRecDepth 100000 in
set_option maxHeartbeats 1000000 in
theorem outdoes_any (a b : Pc) (w : World) :
    Calls Try.prog 18 #[.agg a.vs.toArray, .agg b.vs.toArray] w fun e w' => e = .returned (.bool (outB a b)) ∧ Below w.heap.size w w' := by
  obtain ⟨s, t, v, n, o⟩ := a
  obtain ⟨s', t', v', m, q⟩ := b
  show Calls _ _ #[.agg #[.string s, .int .i64 t, .int .i64 v, .int .u64 (n : Int), .int .u16 (o : Int)], .agg #[.string s', .int .i64 t', .int .i64 v', .int .u64 (m : Int), .int .u16 (q : Int)]] w _
  have HB0 : ∀ o1 o2, Hid (Below w.heap.size w ((w.alloc o1).alloc o2)) := fun o1 o2 => Lib.hid (((Below.refl _ w).alloc (Nat.le_refl _) _).alloc (by simp) _)
  have hEQ := fun W => run_equal_id n o m q W 9998
  have HC := fun W => Lib.hid (aboveP_any n o m q W)
  obtain ⟨z, hz⟩ : ∃ z, z = outB ⟨s, t, v, n, o⟩ ⟨s', t', v', m, q⟩ := ⟨_, rfl⟩
  rw [← hz]
  by_cases h : n = m ∧ o = q
  · have hb : (decide (n = m) && decide (o = q)) = true := by simp [h]
    have hz2 : z = decide (v' < v) := by rw [hz, outB, if_pos h]
    have HZ := Lib.hid hz2
    rw [hb] at hEQ
    clear hz hz2 h hb HC
    go_enter Try.func18, Try.ntmps18
    go_wp2_with (fail)
    go_ret
    rw [HZ.out]
    exact ⟨rfl, (HB0 _ _).out⟩
  · have hb : (decide (n = m) && decide (o = q)) = false := by
      by_cases h1 : n = m
      · rw [decide_eq_true h1, decide_eq_false (fun h2 => h ⟨h1, h2⟩)]; rfl
      · rw [decide_eq_false h1]; rfl
    have hz2 : z = aboveP n o m q := by rw [hz, outB, if_neg h]
    rw [← hz2] at HC
    rw [hb] at hEQ
    clear hz hz2 h hb
    go_enter Try.func18, Try.ntmps18
    go_wp2_with (fail)
    refine ((HC _).out).mono ?_
    rintro e w' ⟨rfl, h⟩
    have HG := Lib.hid h
    clear h
    go_wp2_with (fail)
    go_ret
    exact ⟨rfl, ((HB0 _ _).out).trans (HG.out.mono (by simp; omega))⟩
end Go.Proofs.Ythhojjdccfcicaa
