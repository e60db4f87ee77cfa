/- Part 36 of the words that the laws share: PcChk. No condition of its own: each theorem says its own. -/
import Derived.Test.YtcicdbhffkpldaaPart4
import Derived.Test.YtcicdbhffkpldaaPart6
import Derived.BigQuiet
import Derived.Laws.StructEq

/- The thirteenth reference's Check. Condition: a piece as pieces are. -/
namespace Go.Proofs.Ytcicdbhffkpldaa
open Go.RowKit

instance (p : Pc) : Decidable p.may := by unfold Pc.may; exact inferInstance
set_option maxRecDepth 100000 in
set_option maxHeartbeats 1000000 in
theorem refCheckP_any (p : Pc) (hp : p.Ok) (w : World) :
    Calls Try.prog 22 #[.agg p.vs.toArray] w fun e w' => e = .returned (.bool (decide p.may)) ∧ Below w.heap.size w w' := by
  obtain ⟨s, t, v, n, o⟩ := p
  have hz := hp.s
  have hz : s.size ≤ maxLen := hz
  unfold maxLen at hz
  have sI : (s.size : Int) ≤ 9223372036854775807 := by omega
  have hb : ∀ o1, Below w.heap.size w (w.alloc o1) := fun o1 => (Below.refl _ _).alloc (Nat.le_refl _) _
  have HB := Lib.hid hb
  show Calls _ _ #[.agg #[.string s, .int .i64 t, .int .i64 v, .int .u64 (n : Int), .int .u16 (o : Int)]] w _
  by_cases h1 : 1 ≤ s.size
  · have g1 : decide ((1 : Int) ≤ (s.size : Int)) = true := decide_eq_true (by omega)
    by_cases h2 : s.size ≤ 200
    · have g2 : decide ((s.size : Int) ≤ 200) = true := decide_eq_true (by omega)
      have HL : Hid (decide (Pc.may ⟨s, t, v, n, o⟩) = true) := Lib.hid (decide_eq_true ⟨h1, h2⟩)
      rw [HL.out]
      clear h1 h2 hb hz hp
      go_enter Try.func22, Try.ntmps22
      go_wp2_with (fail)
      go_ret
      exact ⟨rfl, HB.out _⟩
    · have g2 : decide ((s.size : Int) ≤ 200) = false := decide_eq_false (by omega)
      have HL : Hid (decide (Pc.may ⟨s, t, v, n, o⟩) = false) := Lib.hid (decide_eq_false fun h => h2 h.2)
      rw [HL.out]
      clear h1 h2 hb hz hp
      go_enter Try.func22, Try.ntmps22
      go_wp2_with (fail)
      go_ret
      exact ⟨rfl, HB.out _⟩
  · have g1 : decide ((1 : Int) ≤ (s.size : Int)) = false := decide_eq_false (by omega)
    have HL : Hid (decide (Pc.may ⟨s, t, v, n, o⟩) = false) := Lib.hid (decide_eq_false fun h => h1 h.1)
    rw [HL.out]
    clear h1 hb hz hp
    go_enter Try.func22, Try.ntmps22
    go_wp2_with (fail)
    go_ret
    exact ⟨rfl, HB.out _⟩
end Go.Proofs.Ytcicdbhffkpldaa
