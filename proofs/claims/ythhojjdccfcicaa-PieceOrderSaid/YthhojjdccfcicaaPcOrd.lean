/- The thirteenth law's lists and what is merged of them, kept. Premise: the contracts. -/
import Derived.Test.YthhojjdccfcicaaPcAw
namespace Go.Proofs.Ythhojjdccfcicaa
open Go.RowKit

/-- Three lists and what is merged of them. -/
structure OrdS (w0 : World) (v0 v1 v2 vx : Value) (la lb lc X : List Pc) (V : World) : Prop where
  old : Below w0.heap.size w0 V
  r0 : RsP V v0 la
  r1 : RsP V v1 lb
  r2 : RsP V v2 lc
  rx : RsP V vx X
section
variable {w0 : World} {v0 v1 v2 vx : Value} {la lb lc X : List Pc}
theorem OrdS.on {V V' : World} (h : OrdS w0 v0 v1 v2 vx la lb lc X V) (hb : Below V.heap.size V V') : OrdS w0 v0 v1 v2 vx la lb lc X V' :=
  ⟨h.old.trans (hb.mono h.old.size), h.r0.below hb, h.r1.below hb, h.r2.below hb, h.rx.below hb⟩
theorem below_alloc_to {V V' : World} {o : Obj} (hb : Below (V.alloc o).heap.size (V.alloc o) V') : Below V.heap.size V V' :=
  ((Below.refl _ V).alloc (Nat.le_refl _) o).trans (hb.mono (by simp))
/-- Two rows, merged. -/
theorem merge_two (PC : PieceC) {V : World} {u1 u2 : Value} {l1 l2 : List Pc} (t : TypeId) (h1 : RsP V u1 l1) (h2 : RsP V u2 l2) (hn : l1.length + l2.length ≤ 1000) :
    Calls Try.prog 13 #[.slice (some ⟨V.heap.size, 0, none⟩) 2 2] (V.alloc (.cells #[u1, u2] t)) fun e V' => ∃ u M, e = .returned u ∧ MergedOf M (l1 ++ l2) ∧ RsP V' u M ∧ Below V.heap.size V V' := by
  refine (PC.merge _ [l1, l2] _ (psP_two t 2 h1 h2) (by simp) (by simp; omega)).mono ?_
  rintro e V' ⟨u, M, rfl, hM, hr, hb⟩
  exact ⟨u, M, rfl, hM.congr fun p => by simp, hr, below_alloc_to hb⟩
theorem merge_three (PC : PieceC) {V : World} {u1 u2 u3 : Value} {l1 l2 l3 : List Pc} (t : TypeId) (h1 : RsP V u1 l1) (h2 : RsP V u2 l2) (h3 : RsP V u3 l3) (hn : l1.length + l2.length + l3.length ≤ 1000) :
    Calls Try.prog 13 #[.slice (some ⟨V.heap.size, 0, none⟩) 3 3] (V.alloc (.cells #[u1, u2, u3] t)) fun e V' => ∃ u M, e = .returned u ∧ MergedOf M (l1 ++ l2 ++ l3) ∧ RsP V' u M ∧ Below V.heap.size V V' := by
  refine (PC.merge _ [l1, l2, l3] _ (psP_three t 3 h1 h2 h3) (by simp) (by simp; omega)).mono ?_
  rintro e V' ⟨u, M, rfl, hM, hr, hb⟩
  exact ⟨u, M, rfl, hM.congr fun p => by simp, hr, below_alloc_to hb⟩
theorem ord_turned {Y : List Pc} (hX : MergedOf X (la ++ lb ++ lc)) (h : MergedOf Y (lc ++ la ++ lb)) : Y = X :=
  merged_one (h.congr fun p => by
    simp only [List.mem_append]
    constructor
    · rintro ((h | h) | h) <;> simp [h]
    · rintro ((h | h) | h) <;> simp [h]) hX
theorem ord_first {M Y : List Pc} (hX : MergedOf X (la ++ lb ++ lc)) (hM : MergedOf M (la ++ lb)) (h : MergedOf Y (M ++ lc)) : Y = X :=
  merged_one (merged_part hM h) hX
theorem ord_last {M Y : List Pc} (hX : MergedOf X (la ++ lb ++ lc)) (hM : MergedOf M (lc ++ lb)) (h : MergedOf Y (la ++ M)) : Y = X :=
  merged_one ((merged_part hM (h.congr fun p => by
    simp only [List.mem_append]
    exact Or.comm)).congr fun p => by
    simp only [List.mem_append]
    constructor
    · rintro ((h | h) | h) <;> simp [h]
    · rintro ((h | h) | h) <;> simp [h]) hX
theorem ord_again {Y : List Pc} (hX : MergedOf X (la ++ lb ++ lc)) (h : MergedOf Y (X ++ X)) : Y = X := merged_one h (merged_self hX)
end
end Go.Proofs.Ythhojjdccfcicaa
