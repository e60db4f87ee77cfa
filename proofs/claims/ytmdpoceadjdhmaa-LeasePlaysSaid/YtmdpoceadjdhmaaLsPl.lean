/- A lease and the reference's beside it: what each call makes of both. Premise: the lease's contracts. -/
import Derived.Test.YtmdpoceadjdhmaaLsCon
import Derived.Test.YtmdpoceadjdhmaaLsRef
namespace Go.Proofs.Ytmdpoceadjdhmaa
open Go.RowKit

section
variable {LC : LeaseC}
/-- A lease, and the reference's in a block of its own, behind what was there. -/
def PlIs (LC : LeaseC) (w : World) (p : Value) (Q : Nat) (s r : LS) (W : World) : Prop :=
  ∃ F, LC.At W p s F ∧ (∀ j, F j → w.heap.size ≤ j) ∧ (∀ j, F j → j ≠ Q) ∧ Blk W Q 46 (refLV r) ∧ w.heap.size ≤ Q ∧ Below w.heap.size w W
theorem PlIs.good {w W : World} {p : Value} {Q : Nat} {s r : LS} (h : PlIs LC w p Q s r W) : LOk s := by
  obtain ⟨F, h1, _⟩ := h
  exact LC.good h1
theorem PlIs.blk {w W : World} {p : Value} {Q : Nat} {s r : LS} (h : PlIs LC w p Q s r W) : Blk W Q 46 (refLV r) := by
  obtain ⟨F, _, _, _, h4, _⟩ := h
  exact h4
theorem PlIs.old {w W : World} {p : Value} {Q : Nat} {s r : LS} (h : PlIs LC w p Q s r W) : Below w.heap.size w W := by
  obtain ⟨F, _, _, _, _, _, h6⟩ := h
  exact h6
theorem PlIs.cells {w W : World} {p : Value} {Q : Nat} {s r : LS} (h : PlIs LC w p Q s r W) {x b : Nat} (hx : x = r.next) (hb : b = r.bound) : (∀ m, (W.drewN m).cell? ⟨Q, 1, none⟩ = some (.int .u64 (x : Int))) ∧ ∀ m, (W.drewN m).cell? ⟨Q, 2, none⟩ = some (.int .u64 (b : Int)) := by
  subst hx hb
  exact ⟨fun m => by rw [(h.blk.drewN m).cell]; rfl, fun m => by rw [(h.blk.drewN m).cell]; rfl⟩
theorem PlIs.on {w W W' : World} {p : Value} {Q : Nat} {s r : LS} (h : PlIs LC w p Q s r W) (hb : Below W.heap.size W W') : PlIs LC w p Q s r W' := by
  obtain ⟨F, h1, h2, h3, h4, h5, h6⟩ := h
  exact ⟨F, LC.other h1 (Chg.of_below hb) fun j hj e => (by have := LC.lt h1 j hj; omega), h2, h3, h4.below hb h4.lt, h5, h6.trans (hb.mono h6.size)⟩
/-- Only the reference's block is written. -/
theorem PlIs.ref {w W W' : World} {p : Value} {Q : Nat} {s r r' : LS} (h : PlIs LC w p Q s r W) (hb : Blk W' Q 46 (refLV r')) (hc : Chg (fun j => j = Q) W W') : PlIs LC w p Q s r' W' := by
  obtain ⟨F, h1, h2, h3, h4, h5, h6⟩ := h
  exact ⟨F, LC.other h1 hc fun j hj e => h3 j hj e, h2, h3, hb, h5, h6.trans (hc.below (fun k hk => by rw [hk]; exact h5) h6.size)⟩
theorem pl_step {w W W' : World} {p : Value} {Q : Nat} {s' r : LS} {F : Nat → Prop} (h2 : ∀ j, F j → w.heap.size ≤ j) (h3 : ∀ j, F j → j ≠ Q) (h4 : Blk W Q 46 (refLV r)) (h5 : w.heap.size ≤ Q) (h6 : Below w.heap.size w W) (hl : LLeft LC.At W W' p s' F) : PlIs LC w p Q s' r W' := by
  obtain ⟨⟨F', h7, h8⟩, h9⟩ := hl
  have hQ := h4.lt
  refine ⟨F', h7, fun j hj => ?_, fun j hj e => ?_, h9.blk h4 fun e => h3 Q e rfl, h5, h6.trans (h9.below h2 h6.size)⟩
  · rcases h8 j hj with h | h
    · exact h2 j h
    · exact Nat.le_trans h6.size h
  · rcases h8 j hj with h | h
    · exact h3 j h e
    · omega
theorem pl_take {w W : World} {p : Value} {Q : Nat} {s r : LS} (h : PlIs LC w p Q s r W) : Calls Try.prog 8 #[p] W fun e w' => e = .returned (.tuple #[.int .u64 ((takeL s).2.1 : Int), .int .i64 ((takeL s).2.2 : Int)]) ∧ PlIs LC w p Q (takeL s).1 r w' := by
  obtain ⟨F, h1, h2, h3, h4, h5, h6⟩ := h
  exact (LC.take h1).mono fun _ _ ⟨h7, h8⟩ => ⟨h7, pl_step h2 h3 h4 h5 h6 h8⟩
theorem pl_nonce {w W : World} {p : Value} {Q : Nat} {s r : LS} (h : PlIs LC w p Q s r W) : Calls Try.prog 10 #[p] W fun e w' => e = .returned (.tuple #[arrV (nonceL s), .int .i64 ((takeL s).2.2 : Int)]) ∧ PlIs LC w p Q (takeL s).1 r w' := by
  obtain ⟨F, h1, h2, h3, h4, h5, h6⟩ := h
  exact (LC.nonce h1).mono fun _ _ ⟨h7, h8⟩ => ⟨h7, pl_step h2 h3 h4 h5 h6 h8⟩
theorem pl_grant {w W : World} {p : Value} {Q : Nat} {s r : LS} (h : PlIs LC w p Q s r W) {b : Nat} (hb : b < 18446744073709551616) : Calls Try.prog 12 #[p, .int .u64 (b : Int)] W fun e w' => e = .returned (.int .i64 ((grantL s b).2 : Int)) ∧ PlIs LC w p Q (grantL s b).1 r w' := by
  obtain ⟨F, h1, h2, h3, h4, h5, h6⟩ := h
  exact (LC.grant h1 b hb).mono fun _ _ ⟨h7, h8⟩ => ⟨h7, pl_step h2 h3 h4 h5 h6 h8⟩
theorem pl_wants {w W : World} {p : Value} {Q : Nat} {s r : LS} (h : PlIs LC w p Q s r W) {n : Nat} (hn : n < 18446744073709551616) : Calls Try.prog 14 #[p, .int .u64 (n : Int)] W fun e w' => e = .returned (.tuple #[.int .u64 ((wantsL s n).1 : Int), .int .i64 ((wantsL s n).2 : Int)]) ∧ PlIs LC w p Q s r w' := by
  have hk := h
  obtain ⟨F, h1, _⟩ := h
  exact (LC.wants h1 n hn).mono fun _ _ ⟨h7, h8⟩ => ⟨h7, hk.on h8⟩
theorem plr_take {w W : World} {p : Value} {Q : Nat} {s r : LS} (h : PlIs LC w p Q s r W) (hr : LOk r) : Calls Try.prog 9 #[.pointer (some ⟨Q, 0, none⟩)] W fun e w' => e = .returned (.tuple #[.int .u64 ((takeL r).2.1 : Int), .int .i64 ((takeL r).2.2 : Int)]) ∧ PlIs LC w p Q s (takeL r).1 w' :=
  (refLTake_any hr h.blk).mono fun _ _ ⟨h1, h2, h3⟩ => ⟨h1, h.ref h2 h3⟩
theorem plr_nonce {w W : World} {p : Value} {Q : Nat} {s r : LS} (h : PlIs LC w p Q s r W) (hr : LOk r) : Calls Try.prog 11 #[.pointer (some ⟨Q, 0, none⟩)] W fun e w' => e = .returned (.tuple #[arrV (nonceL r), .int .i64 ((takeL r).2.2 : Int)]) ∧ PlIs LC w p Q s (takeL r).1 w' ∧ Chg (fun j => j = Q) W w' :=
  (refLNonce_any hr h.blk).mono fun _ _ ⟨h1, h2, h3⟩ => ⟨h1, h.ref h2 h3, h3⟩
theorem plr_grant {w W : World} {p : Value} {Q : Nat} {s r : LS} (h : PlIs LC w p Q s r W) (b : Nat) : Calls Try.prog 13 #[.pointer (some ⟨Q, 0, none⟩), .int .u64 (b : Int)] W fun e w' => e = .returned (.int .i64 ((grantL r b).2 : Int)) ∧ PlIs LC w p Q s (grantL r b).1 w' :=
  (refLGrant_any h.blk b).mono fun _ _ ⟨h1, h2, h3⟩ => ⟨h1, h.ref h2 (sole_lone h3)⟩
theorem plr_wants {w W : World} {p : Value} {Q : Nat} {s r : LS} (h : PlIs LC w p Q s r W) (hr : LOk r) {n : Nat} (hn : n < 18446744073709551616) : Calls Try.prog 15 #[.pointer (some ⟨Q, 0, none⟩), .int .u64 (n : Int)] W fun e w' => e = .returned (.tuple #[.int .u64 ((wantsL r n).1 : Int), .int .i64 ((wantsL r n).2 : Int)]) ∧ PlIs LC w p Q s r w' :=
  (refLWants_any hr h.blk n hn).mono fun _ _ ⟨h1, h2⟩ => ⟨h1, by rw [h2]; exact h⟩
theorem pl_left {w W : World} {p : Value} {Q : Nat} {s r : LS} (h : PlIs LC w p Q s r W) : Calls Try.prog 16 #[p] W fun e w' => e = .returned (.int .u64 ((s.bound - s.next : Nat) : Int)) ∧ ∃ m, w' = W.drewN m := by
  obtain ⟨F, h1, _⟩ := h
  exact LC.left h1
end
end Go.Proofs.Ytmdpoceadjdhmaa
