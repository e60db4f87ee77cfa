/- Part 39 of the words that the laws share: DtFol. No condition of its own: each theorem says its own. -/
import Derived.Test.YtcicdbhffkpldaaPart37
import Derived.Test.YtcicdbhffkpldaaPart38
import Derived.Test.YtcicdbhffkpldaaPart16
import Derived.Deep.Cut

/- The developers' follows: whether a piece may stand behind another. Condition: pieces as they are. -/
namespace Go.Proofs.Ytcicdbhffkpldaa
open Go.RowKit

/-- Whether a piece may stand behind another, as an answer. -/
def folB (a b : Pc) : Bool := lessP a b && (!(a.s.toList == b.s.toList) || !(decide (a.t = b.t)))
theorem folB_iff (a b : Pc) : folB a b = true ↔ keyLt a b := by
  unfold folB
  rw [Bool.and_eq_true, less_iff]
  constructor
  · rintro ⟨h1 | ⟨h1, _⟩, h2⟩
    · exact h1
    · unfold sameK at h1
      rw [h1.1, h1.2] at h2
      simp at h2
  · intro h
    refine ⟨.inl h, ?_⟩
    rcases h with h | ⟨h1, h2⟩
    · have e : (a.s.toList == b.s.toList) = false := by
        rw [beq_eq_false_iff_ne]
        intro e
        rw [e, bl_irrefl] at h
        cases h
      rw [e]
      rfl
    · rw [decide_eq_false (by omega)]
      simp
set_option maxRecDepth 100000 in
set_option maxHeartbeats 2000000 in
theorem follows_any (a b : Pc) (w : World) :
    Calls Try.prog 24 #[.agg a.vs.toArray, .agg b.vs.toArray] w fun e w' => e = .returned (.bool (folB a b)) ∧ Below w.heap.size w w' := by
  unfold folB
  obtain ⟨s, t, v, n, o⟩ := a
  obtain ⟨s', t', v', m, q⟩ := b
  obtain ⟨z, hz⟩ : ∃ z, z = lessP ⟨s, t, v, n, o⟩ ⟨s', t', v', m, q⟩ := ⟨_, rfl⟩
  have HL0 := fun W => lessP_any ⟨s, t, v, n, o⟩ ⟨s', t', v', m, q⟩ W
  rw [← hz] at HL0 ⊢
  have HL : Hid (∀ W, Calls Try.prog 38 #[.agg #[.string s, .int .i64 t, .int .i64 v, .int .u64 (n : Int), .int .u16 (o : Int)], .agg #[.string s', .int .i64 t', .int .i64 v', .int .u64 (m : Int), .int .u16 (q : Int)]] W fun e W' => e = .returned (.bool z) ∧ Below W.heap.size W W') := Lib.hid HL0
  show Calls _ _ #[.agg #[.string s, .int .i64 t, .int .i64 v, .int .u64 (n : Int), .int .u16 (o : Int)], .agg #[.string s', .int .i64 t', .int .i64 v', .int .u64 (m : Int), .int .u16 (q : Int)]] w _
  simp only
  clear HL0 hz
  obtain ⟨W1, hW1⟩ : ∃ V, V = w.alloc (.cells #[.string s, .int .i64 t, .int .i64 v, .int .u64 (n : Int), .int .u16 (o : Int)] 46) := ⟨_, rfl⟩
  obtain ⟨W2, hW2⟩ : ∃ V, V = W1.alloc (.cells #[.string s', .int .i64 t', .int .i64 v', .int .u64 (m : Int), .int .u16 (q : Int)] 46) := ⟨_, rfl⟩
  have b0 : Blk W1 w.heap.size 46 [.string s, .int .i64 t, .int .i64 v, .int .u64 (n : Int), .int .u16 (o : Int)] := by rw [hW1]; exact Blk.made w _ _
  have hs1 : W1.heap.size = w.heap.size + 1 := by rw [hW1]; exact World.size_alloc _ _
  have b1 : Blk W2 w.heap.size 46 [.string s, .int .i64 t, .int .i64 v, .int .u64 (n : Int), .int .u16 (o : Int)] := by rw [hW2]; exact b0.alloc _
  have b2 : Blk W2 (w.heap.size + 1) 46 [.string s', .int .i64 t', .int .i64 v', .int .u64 (m : Int), .int .u16 (q : Int)] := by rw [hW2, ← hs1]; exact Blk.made W1 _ _
  have hB : Below w.heap.size w W2 := by
    rw [hW2, hW1]
    exact ((Below.refl _ w).alloc (Nat.le_refl _) _).alloc (by simp) _
  have BL := Lib.hid hB
  have D1 := Lib.hid b1
  have D2 := Lib.hid b2
  have q0 : W2.cell? ⟨w.heap.size, 0, none⟩ = some (.string s) := b1.cell 0
  have q1 : W2.cell? ⟨w.heap.size, 1, none⟩ = some (.int .i64 t) := b1.cell 1
  have q2 : W2.cell? ⟨w.heap.size, 2, none⟩ = some (.int .i64 v) := b1.cell 2
  have q3 : W2.cell? ⟨w.heap.size, 3, none⟩ = some (.int .u64 (n : Int)) := b1.cell 3
  have q4 : W2.cell? ⟨w.heap.size, 4, none⟩ = some (.int .u16 (o : Int)) := b1.cell 4
  have p0 : W2.cell? ⟨w.heap.size + 1, 0, none⟩ = some (.string s') := b2.cell 0
  have p1 : W2.cell? ⟨w.heap.size + 1, 1, none⟩ = some (.int .i64 t') := b2.cell 1
  have p2 : W2.cell? ⟨w.heap.size + 1, 2, none⟩ = some (.int .i64 v') := b2.cell 2
  have p3 : W2.cell? ⟨w.heap.size + 1, 3, none⟩ = some (.int .u64 (m : Int)) := b2.cell 3
  have p4 : W2.cell? ⟨w.heap.size + 1, 4, none⟩ = some (.int .u16 (q : Int)) := b2.cell 4
  have HS1 := Lib.hid hs1
  have HW1 := Lib.hid hW1
  have HW2 := Lib.hid hW2
  clear b0 hs1 b1 b2 hB hW1 hW2
  go_enter Try.func24, Try.ntmps24
  go_upto_region 1 with (fail)
  rw [← HW1.out, ← HW2.out]
  clear HW1 HW2
  go_wp2_with (fail)
  refine (HL.out _).mono ?_
  rintro e w3 ⟨rfl, hb3⟩
  have D13 := Lib.hid (D1.out.below hb3 D1.out.lt)
  have D23 := Lib.hid (D2.out.below hb3 D2.out.lt)
  have B3 := Lib.hid (BL.out.trans (hb3.mono BL.out.size))
  clear hb3 q0 q1 q2 q3 q4 p0 p1 p2 p3 p4 HS1 D1 D2 BL HL
  have q0 : w3.cell? ⟨w.heap.size, 0, none⟩ = some (.string s) := D13.out.cell 0
  have q1 : w3.cell? ⟨w.heap.size, 1, none⟩ = some (.int .i64 t) := D13.out.cell 1
  have p0 : w3.cell? ⟨w.heap.size + 1, 0, none⟩ = some (.string s') := D23.out.cell 0
  have p1 : w3.cell? ⟨w.heap.size + 1, 1, none⟩ = some (.int .i64 t') := D23.out.cell 1
  cases z with
  | false =>
    go_wp2_with (fail)
    go_ret
    exact ⟨rfl, B3.out⟩
  | true =>
    by_cases hs : s.toList = s'.toList
    · have g1 : (s.toList == s'.toList) = true := by rw [hs]; exact beq_self_eq_true _
      have g2 : (s.toList != s'.toList) = false := by rw [bne, g1]; rfl
      clear hs
      by_cases ht : t = t'
      · have HT : Hid (t = t') := Lib.hid ht
        have g3 : (t == t') = true := by rw [ht]; exact beq_self_eq_true _
        have g4 : (t != t') = false := by rw [bne, g3]; rfl
        clear ht
        go_wp2_with (fail)
        go_ret
        rw [decide_eq_true HT.out, g1]
        exact ⟨rfl, B3.out⟩
      · have HT : Hid (¬ t = t') := Lib.hid ht
        have g3 : (t == t') = false := by rw [beq_eq_false_iff_ne]; exact ht
        have g4 : (t != t') = true := by rw [bne, g3]; rfl
        go_wp2_with (fail)
        go_ret
        rw [decide_eq_false HT.out, g1]
        exact ⟨rfl, B3.out⟩
    · have g1 : (s.toList == s'.toList) = false := by rw [beq_eq_false_iff_ne]; exact hs
      have g2 : (s.toList != s'.toList) = true := by rw [bne, g1]; rfl
      go_wp2_with (fail)
      go_ret
      rw [g1]
      exact ⟨rfl, B3.out⟩
end Go.Proofs.Ytcicdbhffkpldaa
