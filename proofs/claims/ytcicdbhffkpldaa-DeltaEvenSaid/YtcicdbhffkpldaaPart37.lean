/- Part 37 of the words that the laws share: PcChL. No condition of its own: each theorem says its own. -/
import Derived.Test.YtcicdbhffkpldaaPart35
import Derived.Test.YtcicdbhffkpldaaPart13
import Derived.Test.YtcicdbhffkpldaaPart36

/- The developers' piece.Check and piece.Less. Condition: pieces as they are. -/
namespace Go.Proofs.Ytcicdbhffkpldaa
open Go.RowKit Go.Sort

set_option maxRecDepth 100000 in
set_option maxHeartbeats 1000000 in
theorem chkP_any (p : Pc) (w : World) (hp : p.Ok) :
    Calls Try.prog 23 #[.agg p.vs.toArray] w fun e w' => e = .returned (.int .i64 (if p.may then 0 else 1)) ∧ Below w.heap.size w w' := by
  obtain ⟨s, t, v, n, o⟩ := p
  have hz := hp.s
  have hz : s.size ≤ maxLen := hz
  unfold maxLen at hz
  have sI : (s.size : Int) ≤ 9223372036854775807 := by omega
  have hb : ∀ o1, Below w.heap.size w (w.alloc o1) := fun o1 => (Below.refl _ _).alloc (Nat.le_refl _) _
  have HB := Lib.hid hb
  show Calls _ _ #[.agg #[.string s, .int .i64 t, .int .i64 v, .int .u64 (n : Int), .int .u16 (o : Int)]] w _
  by_cases h1 : 1 ≤ s.size
  · have g1 : decide ((s.size : Int) < 1) = false := decide_eq_false (by omega)
    have g1' : decide (s.size < 1) = false := decide_eq_false (by omega)
    by_cases h2 : s.size ≤ 200
    · have g2 : decide ((200 : Int) < (s.size : Int)) = false := decide_eq_false (by omega)
      have g2' : decide (200 < s.size) = false := decide_eq_false (by omega)
      rw [if_pos (show Pc.may ⟨s, t, v, n, o⟩ from ⟨h1, h2⟩)]
      clear h1 h2 hb hz hp
      go_enter Try.func23, Try.ntmps23
      go_wp2_with (fail)
      go_ret
      exact ⟨rfl, HB.out _⟩
    · have g2 : decide ((200 : Int) < (s.size : Int)) = true := decide_eq_true (by omega)
      have g2' : decide (200 < s.size) = true := decide_eq_true (by omega)
      rw [if_neg (show ¬ Pc.may ⟨s, t, v, n, o⟩ from fun h => h2 h.2)]
      clear h1 h2 hb hz hp
      go_enter Try.func23, Try.ntmps23
      go_wp2_with (fail)
      go_ret
      exact ⟨rfl, HB.out _⟩
  · have g1 : decide ((s.size : Int) < 1) = true := decide_eq_true (by omega)
    have g1' : decide (s.size < 1) = true := decide_eq_true (by omega)
    rw [if_neg (show ¬ Pc.may ⟨s, t, v, n, o⟩ from fun h => h1 h.1)]
    clear h1 hb hz hp
    go_enter Try.func23, Try.ntmps23
    go_wp2_with (fail)
    go_ret
    exact ⟨rfl, HB.out _⟩
set_option maxRecDepth 100000 in
set_option maxHeartbeats 1000000 in
theorem lessP_any (a b : Pc) (w : World) :
    Calls Try.prog 38 #[.agg a.vs.toArray, .agg b.vs.toArray] w fun e w' => e = .returned (.bool (lessP a b)) ∧ Below w.heap.size w w' := by
  have HC := fun W => Lib.hid (compPc a b W)
  have ha := less_cmp a b
  obtain ⟨r, hr⟩ : ∃ r, r = cmpPc a b := ⟨_, rfl⟩
  rw [← hr] at ha HC
  obtain ⟨z, hz⟩ : ∃ z, z = lessP a b := ⟨_, rfl⟩
  rw [← hz] at ha
  rw [← hz]
  clear hr hz
  obtain ⟨s, t, v, n, o⟩ := a
  obtain ⟨s', t', v', m, q⟩ := b
  have HC : ∀ W, Hid (Calls Try.prog 46 #[.agg #[.string s, .int .i64 t, .int .i64 v, .int .u64 (n : Int), .int .u16 (o : Int)], .agg #[.string s', .int .i64 t', .int .i64 v', .int .u64 (m : Int), .int .u16 (q : Int)]] W fun e w' => e = .returned (.int .i64 r) ∧ GrewO W w') := HC
  show Calls _ _ #[.agg #[.string s, .int .i64 t, .int .i64 v, .int .u64 (n : Int), .int .u16 (o : Int)], .agg #[.string s', .int .i64 t', .int .i64 v', .int .u64 (m : Int), .int .u16 (q : Int)]] w _
  have HB0 : ∀ o1 o2, Hid (Below w.heap.size w ((w.alloc o1).alloc o2)) := fun o1 o2 => Lib.hid (((Below.refl _ w).alloc (Nat.le_refl _) _).alloc (by simp) _)
  go_enter Try.func38, Try.ntmps38
  go_wp2_with (fail)
  refine ((HC _).out).mono ?_
  rintro e w' ⟨rfl, h⟩
  have HG := Lib.hid h.below
  clear h
  go_wp2_with (fail)
  go_ret
  exact ⟨rfl, ((HB0 _ _).out).trans (HG.out.mono (by simp; omega))⟩
end Go.Proofs.Ytcicdbhffkpldaa
