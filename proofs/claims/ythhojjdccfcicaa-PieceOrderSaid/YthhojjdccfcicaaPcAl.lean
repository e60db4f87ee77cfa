/- Rows of pieces, newly made. No condition. -/
import Derived.Test.YthhojjdccfcicaaPcRow
namespace Go.Proofs.Ythhojjdccfcicaa
open Go.RowKit

theorem RsP.alloc {w : World} {v : Value} {ps : List Pc} (h : RsP w v ps) (o : Obj) : RsP (w.alloc o) v ps := h.below ((Below.refl _ w).alloc (Nat.le_refl _) o)
theorem rsP_one (w : World) (p : Pc) (t : TypeId) (c : Nat) (hp : p.Ok) : RsP (w.alloc (.cells p.vs.toArray t)) (.slice (some ⟨w.heap.size, 0, none⟩) 1 c) [p] := by
  refine ⟨⟨some ⟨w.heap.size, 0, none⟩, c, rfl, by simp [maxLen], fun i hi => ⟨w.heap.size, 0, rfl, by simp, ?_, ?_⟩⟩, fun n c e => by injection e with e _ _; cases e⟩
  · have h0 : i = 0 := by simp at hi; omega
    subst h0
    intro j v hv
    show (w.alloc (.cells p.vs.toArray t)).cell? ⟨w.heap.size, 0 + 0 * 5 + j, none⟩ = some v
    rw [World.cell?_alloc_new, List.getElem?_toArray, Nat.zero_mul, Nat.zero_add]
    exact hv
  · have h0 : i = 0 := by simp at hi; omega
    subst h0
    exact hp
theorem psP_mk (w : World) (us : List Value) (ls : List (List Pc)) (t : TypeId) (c : Nat) (hl : us.length = ls.length) (h : ∀ (i : Nat) (u : Value) (l : List Pc), us[i]? = some u → ls[i]? = some l → RsP w u l) : PsP (w.alloc (.cells us.toArray t)) (.slice (some ⟨w.heap.size, 0, none⟩) ls.length c) ls := by
  refine ⟨w.heap.size, c, rfl, by simp, fun i hi => ?_⟩
  have hi2 : i < us.length := by omega
  refine ⟨us[i], ?_, (h i us[i] ls[i] (List.getElem?_eq_getElem hi2) (List.getElem?_eq_getElem hi)).alloc _⟩
  rw [World.cell?_alloc_new, List.getElem?_toArray]
  exact List.getElem?_eq_getElem hi2
theorem psP_two {w : World} {u1 u2 : Value} {l1 l2 : List Pc} (t : TypeId) (c : Nat) (h1 : RsP w u1 l1) (h2 : RsP w u2 l2) : PsP (w.alloc (.cells #[u1, u2] t)) (.slice (some ⟨w.heap.size, 0, none⟩) 2 c) [l1, l2] :=
  psP_mk w [u1, u2] [l1, l2] t c rfl fun i u l a b => by
    match i with
    | 0 =>
      obtain rfl : u1 = u := by simpa using a
      obtain rfl : l1 = l := by simpa using b
      exact h1
    | 1 =>
      obtain rfl : u2 = u := by simpa using a
      obtain rfl : l2 = l := by simpa using b
      exact h2
    | n + 2 => simp at a
theorem psP_three {w : World} {u1 u2 u3 : Value} {l1 l2 l3 : List Pc} (t : TypeId) (c : Nat) (h1 : RsP w u1 l1) (h2 : RsP w u2 l2) (h3 : RsP w u3 l3) : PsP (w.alloc (.cells #[u1, u2, u3] t)) (.slice (some ⟨w.heap.size, 0, none⟩) 3 c) [l1, l2, l3] :=
  psP_mk w [u1, u2, u3] [l1, l2, l3] t c rfl fun i u l a b => by
    match i with
    | 0 =>
      obtain rfl : u1 = u := by simpa using a
      obtain rfl : l1 = l := by simpa using b
      exact h1
    | 1 =>
      obtain rfl : u2 = u := by simpa using a
      obtain rfl : l2 = l := by simpa using b
      exact h2
    | 2 =>
      obtain rfl : u3 = u := by simpa using a
      obtain rfl : l3 = l := by simpa using b
      exact h3
    | n + 3 => simp at a
end Go.Proofs.Ythhojjdccfcicaa
