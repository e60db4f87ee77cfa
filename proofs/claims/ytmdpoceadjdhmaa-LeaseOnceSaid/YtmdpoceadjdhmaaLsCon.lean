/- What the twelfth layer's laws need of the developers' lease: a predicate that says what a lease is, and what each call makes of it. Premises: the contracts themselves. -/
import Derived.Test.YtmdpoceadjdhmaaLsSpec
import Derived.Test.YtmdpoceadjdhmaaSrow
import Derived.Test.YtmdpoceadjdhmaaGen
import Derived.Test.YtmdpoceadjdhmaaDConG
namespace Go.Proofs.Ytmdpoceadjdhmaa
open Go.RowKit

/-- What a call leaves of a lease. -/
structure LLeft (At : World → Value → LS → (Nat → Prop) → Prop) (w w' : World) (p : Value) (s : LS) (F : Nat → Prop) : Prop where
  at' : ∃ F', At w' p s F' ∧ ∀ j, F' j → F j ∨ w.heap.size ≤ j
  chg : Chg F w w'
structure LeaseC where
  At : World → Value → LS → (Nat → Prop) → Prop
  other : ∀ {w w' : World} {p : Value} {s : LS} {F G : Nat → Prop}, At w p s F → Chg G w w' → (∀ j, F j → ¬ G j) → At w' p s F
  lt : ∀ {w : World} {p : Value} {s : LS} {F : Nat → Prop}, At w p s F → ∀ j, F j → j < w.heap.size
  good : ∀ {w : World} {p : Value} {s : LS} {F : Nat → Prop}, At w p s F → LOk s
  new : ∀ (node b : Nat) (w : World), node < 65536 → b < 18446744073709551616 →
    Calls Try.prog 6 #[.int .u16 (node : Int), .int .u64 (b : Int)] w fun e w' => ∃ p, e = .returned p ∧ (∃ G, At w' p (newL node b) G ∧ ∀ j, G j → w.heap.size ≤ j) ∧ Below w.heap.size w w'
  left : ∀ {w : World} {p : Value} {s : LS} {F : Nat → Prop}, At w p s F →
    Calls Try.prog 16 #[p] w fun e w' => e = .returned (.int .u64 ((s.bound - s.next : Nat) : Int)) ∧ ∃ m, w' = w.drewN m
  wants : ∀ {w : World} {p : Value} {s : LS} {F : Nat → Prop}, At w p s F → ∀ n : Nat, n < 18446744073709551616 →
    Calls Try.prog 14 #[p, .int .u64 (n : Int)] w fun e w' => e = .returned (.tuple #[.int .u64 ((wantsL s n).1 : Int), .int .i64 ((wantsL s n).2 : Int)]) ∧ Below w.heap.size w w'
  grant : ∀ {w : World} {p : Value} {s : LS} {F : Nat → Prop}, At w p s F → ∀ b : Nat, b < 18446744073709551616 →
    Calls Try.prog 12 #[p, .int .u64 (b : Int)] w fun e w' => e = .returned (.int .i64 ((grantL s b).2 : Int)) ∧ LLeft At w w' p (grantL s b).1 F
  take : ∀ {w : World} {p : Value} {s : LS} {F : Nat → Prop}, At w p s F →
    Calls Try.prog 8 #[p] w fun e w' => e = .returned (.tuple #[.int .u64 ((takeL s).2.1 : Int), .int .i64 ((takeL s).2.2 : Int)]) ∧ LLeft At w w' p (takeL s).1 F
  nonce : ∀ {w : World} {p : Value} {s : LS} {F : Nat → Prop}, At w p s F →
    Calls Try.prog 10 #[p] w fun e w' => e = .returned (.tuple #[arrV (nonceL s), .int .i64 ((takeL s).2.2 : Int)]) ∧ LLeft At w w' p (takeL s).1 F
/-- The same, of a lease that is none. -/
structure LeaseN : Prop where
  left : ∀ w : World, Calls Try.prog 16 #[.pointer none] w fun e w' => e = .returned (.int .u64 0) ∧ Below w.heap.size w w'
  wants : ∀ (n : Nat) (w : World), n < 18446744073709551616 → Calls Try.prog 14 #[.pointer none, .int .u64 (n : Int)] w fun e w' => ∃ u : Nat, e = .returned (.tuple #[.int .u64 (u : Int), .int .i64 14]) ∧ Below w.heap.size w w'
  grant : ∀ (b : Nat) (w : World), b < 18446744073709551616 → Calls Try.prog 12 #[.pointer none, .int .u64 (b : Int)] w fun e w' => e = .returned (.int .i64 1) ∧ Below w.heap.size w w'
  take : ∀ w : World, Calls Try.prog 8 #[.pointer none] w fun e w' => ∃ u : Nat, e = .returned (.tuple #[.int .u64 (u : Int), .int .i64 14]) ∧ Below w.heap.size w w'
  nonce : ∀ w : World, Calls Try.prog 10 #[.pointer none] w fun e w' => ∃ u : List UInt8, u.length = 12 ∧ e = .returned (.tuple #[arrV u, .int .i64 14]) ∧ Below w.heap.size w w'
section
variable {LC : LeaseC}
/-- A lease that came behind what was there. -/
def LKeep (LC : LeaseC) (w0 : World) (p : Value) (s : LS) (W : World) : Prop := ∃ F, LC.At W p s F ∧ (∀ j, F j → w0.heap.size ≤ j) ∧ Below w0.heap.size w0 W
theorem LKeep.on {w0 W W' : World} {p : Value} {s : LS} (h : LKeep LC w0 p s W) (hb : Below W.heap.size W W') : LKeep LC w0 p s W' := by
  obtain ⟨F, h1, h2, h3⟩ := h
  exact ⟨F, LC.other h1 (Chg.of_below hb) fun j hj e => (by have := LC.lt h1 j hj; omega), h2, h3.trans (hb.mono h3.size)⟩
theorem LKeep.old {w0 W : World} {p : Value} {s : LS} (h : LKeep LC w0 p s W) : Below w0.heap.size w0 W := by
  obtain ⟨F, _, _, h3⟩ := h
  exact h3
theorem LKeep.ok {w0 W : World} {p : Value} {s : LS} (h : LKeep LC w0 p s W) : LOk s := by
  obtain ⟨F, h1, _⟩ := h
  exact LC.good h1
theorem LKeep.step {w0 W W' : World} {p : Value} {s : LS} {F : Nat → Prop} (h2 : ∀ j, F j → w0.heap.size ≤ j) (h3 : Below w0.heap.size w0 W) (hl : LLeft LC.At W W' p s F) : LKeep LC w0 p s W' := by
  obtain ⟨⟨F', h4, h5⟩, h6⟩ := hl
  refine ⟨F', h4, fun j hj => ?_, h3.trans (h6.below h2 h3.size)⟩
  rcases h5 j hj with h7 | h7
  · exact h2 j h7
  · exact Nat.le_trans h3.size h7
theorem lk_new {w0 W : World} (hb : Below w0.heap.size w0 W) {node b : Nat} (hn : node < 65536) (hl : b < 18446744073709551616) : Calls Try.prog 6 #[.int .u16 (node : Int), .int .u64 (b : Int)] W fun e w' => ∃ p, e = .returned p ∧ LKeep LC w0 p (newL node b) w' ∧ Below W.heap.size W w' := by
  refine (LC.new node b W hn hl).mono ?_
  rintro e w' ⟨p, rfl, ⟨G, h1, h2⟩, h3⟩
  exact ⟨p, rfl, ⟨G, h1, fun j hj => Nat.le_trans hb.size (h2 j hj), hb.trans (h3.mono hb.size)⟩, h3⟩
theorem lk_take {w0 W : World} {p : Value} {s : LS} (h : LKeep LC w0 p s W) : Calls Try.prog 8 #[p] W fun e w' => e = .returned (.tuple #[.int .u64 ((takeL s).2.1 : Int), .int .i64 ((takeL s).2.2 : Int)]) ∧ LKeep LC w0 p (takeL s).1 w' := by
  obtain ⟨F, h1, h2, h3⟩ := h
  exact (LC.take h1).mono fun _ _ ⟨h4, h5⟩ => ⟨h4, LKeep.step h2 h3 h5⟩
theorem lk_nonce {w0 W : World} {p : Value} {s : LS} (h : LKeep LC w0 p s W) : Calls Try.prog 10 #[p] W fun e w' => e = .returned (.tuple #[arrV (nonceL s), .int .i64 ((takeL s).2.2 : Int)]) ∧ LKeep LC w0 p (takeL s).1 w' := by
  obtain ⟨F, h1, h2, h3⟩ := h
  exact (LC.nonce h1).mono fun _ _ ⟨h4, h5⟩ => ⟨h4, LKeep.step h2 h3 h5⟩
theorem lk_grant {w0 W : World} {p : Value} {s : LS} (h : LKeep LC w0 p s W) {b : Nat} (hb : b < 18446744073709551616) : Calls Try.prog 12 #[p, .int .u64 (b : Int)] W fun e w' => e = .returned (.int .i64 ((grantL s b).2 : Int)) ∧ LKeep LC w0 p (grantL s b).1 w' := by
  obtain ⟨F, h1, h2, h3⟩ := h
  exact (LC.grant h1 b hb).mono fun _ _ ⟨h4, h5⟩ => ⟨h4, LKeep.step h2 h3 h5⟩
theorem lk_wants {w0 W : World} {p : Value} {s : LS} (h : LKeep LC w0 p s W) {n : Nat} (hn : n < 18446744073709551616) : Calls Try.prog 14 #[p, .int .u64 (n : Int)] W fun e w' => e = .returned (.tuple #[.int .u64 ((wantsL s n).1 : Int), .int .i64 ((wantsL s n).2 : Int)]) ∧ LKeep LC w0 p s w' ∧ Below W.heap.size W w' := by
  have hk := h
  obtain ⟨F, h1, h2, h3⟩ := h
  exact (LC.wants h1 n hn).mono fun _ _ ⟨h4, h5⟩ => ⟨h4, hk.on h5, h5⟩
theorem lk_left {w0 W : World} {p : Value} {s : LS} (h : LKeep LC w0 p s W) : Calls Try.prog 16 #[p] W fun e w' => e = .returned (.int .u64 ((s.bound - s.next : Nat) : Int)) ∧ ∃ m, w' = W.drewN m := by
  obtain ⟨F, h1, h2, h3⟩ := h
  exact LC.left h1
end
end Go.Proofs.Ytmdpoceadjdhmaa
