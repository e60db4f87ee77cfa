/- A slice of slices of slices of bytes that came in reads as rows of rows of bytes. No condition of its own. -/
import Derived.Test.YtbodiioemohenaaDoorJnIn
import Derived.Deep.Slices
import Derived.ProofKit
namespace Go.Proofs.YtbodiioemohenaaDoor
open Go.RowKit Go.ChangeShapes Go.WideShapes Go.ChangeAt

theorem cellsRBB : Tryd.prog.cellsOf 27 = 1 := by kernel_rfl
theorem rsf_cells {H : Type} {enc : TypeId × Value → H} {W : World} {base fuel : Nat} {hd : Bool} {cs : List Value} {y : DataW H × List MemPlace} (hl : cs.length = 1) (h : DataW.trod enc Tryd.prog W base (fun _ => true) hd fuel 27 cs = some y) : ∃ (xss : List (List UInt8)) (u : Value), cs = [u] ∧ RsF W u xss := by
  obtain ⟨c0, rfl⟩ := List.length_eq_one_iff.1 hl
  have h' := h
  rcases Go.Deep.open_slice Tryd.underlying27 h with ⟨h0, _⟩ | ⟨a, len', cap', m, n', D, Pl, hcs, hb, hl, hm, hmm, hx, hi⟩
  · simp only [List.cons.injEq, and_true] at h0
    subst h0
    exact ⟨[], _, rfl, ⟨⟨none, 0, rfl, Nat.zero_le _, fun i hi => (by cases hi)⟩⟩, fun A n c e => by injection e; omega⟩
  · simp only [List.cons.injEq, and_true] at hcs
    subst hcs
    obtain ⟨L, hL⟩ := rsa_of_slice (len := len') (cap := cap') (A := some a) (d := y.1) (ps := y.2) (enc := enc) (base := base) (hd := hd) ⟨fuel, h'⟩
    exact ⟨L, _, rfl, hL, fun A n c e => by injection e; omega⟩
theorem ex_list {α : Type} [Inhabited α] {P : Nat → α → Prop} : ∀ (k : Nat), (∀ i, i < k → ∃ a, P i a) → ∃ L : List α, L.length = k ∧ ∀ i (h : i < L.length), P i L[i]
  | 0, _ => ⟨[], rfl, fun i h => by cases h⟩
  | k + 1, h => by
    obtain ⟨L, hl, hL⟩ := ex_list k fun i hi => h i (by omega)
    obtain ⟨x, hx⟩ := h k (by omega)
    refine ⟨L ++ [x], by simp [hl], fun i hi => ?_⟩
    by_cases e : i < L.length
    · rw [List.getElem_append_left e]
      exact hL i e
    · have e2 : i = k := by simp at hi; omega
      subst e2
      rw [List.getElem_append_right (by omega)]
      simpa [hl] using hx
theorem rsb_of_slice {H : Type} {enc : TypeId × Value → H} {W : World} {base : Nat} {hd : Bool} {len cap : Nat} {A : Option Addr} {d : DataW H} {ps : List MemPlace}
    (h : DataW.Trod enc Tryd.prog W base (fun _ => true) hd 22 (.slice A len cap) d ps) : ∃ L, RsB W (.slice A len cap) L := by
  obtain ⟨fuel, hf⟩ := h
  have hcs0 : (Value.slice A len cap).cells.toList = [.slice A len cap] := rfl
  rw [hcs0] at hf
  rcases Go.Deep.open_slice Tryd.underlying22 hf with ⟨h0, _⟩ | ⟨a, len', cap', m, n', D, Pl, hcs, hb, hl, hm, hmm, hx, hi⟩
  · simp only [List.cons.injEq, Value.slice.injEq, and_true] at h0
    obtain ⟨rfl, rfl, rfl⟩ := h0
    exact ⟨[], ⟨none, 0, rfl, Nat.zero_le _, fun i hi => (by cases hi)⟩⟩
  · simp only [List.cons.injEq, Value.slice.injEq, and_true] at hcs
    obtain ⟨rfl, rfl, rfl⟩ := hcs
    have hlm : len ≤ m := by rw [hmm]; split <;> omega
    by_cases h0 : len = 0
    · subst h0
      exact ⟨[], ⟨some a, cap, rfl, Nat.zero_le _, fun i hi => (by cases hi)⟩⟩
    · have key : ∀ i, i < len → ∃ q : List (List UInt8), ∃ u, W.cell? (a.add i) = some u ∧ RsF W u q := fun i hil => by
        obtain ⟨cs', hc, ht'⟩ := hi i (by omega)
        rw [cellsRBB, Nat.mul_one] at hc
        obtain ⟨_, hlen, hat⟩ := World.cells?_some hc
        obtain ⟨q, u, rfl, hok⟩ := rsf_cells hlen ht'
        have h0 := hat (i := 0) (by simp)
        rw [Go.Deep.add_add] at h0
        exact ⟨q, u, h0, hok⟩
      obtain ⟨L, hLl, hL⟩ := ex_list len key
      obtain ⟨b, off, spot⟩ := a
      obtain ⟨_, h1, _⟩ := hL 0 (by omega)
      have hs : spot = none := by simpa [Addr.add] using World.cell?_spot h1
      subst hs
      have hadd : ∀ k, (⟨b, off, none⟩ : Addr).add k = ⟨b, off + k, none⟩ := fun k => by
        by_cases hk : k = 0
        · subst hk; rfl
        · simp [Addr.add, hk]
      refine ⟨L, ⟨some ⟨b, off, none⟩, cap, by rw [hLl], by rw [hLl]; omega, fun i hi2 => ?_⟩⟩
      obtain ⟨u, g0, g1⟩ := hL i hi2
      rw [hadd] at g0
      exact ⟨b, off, u, rfl, World.block_lt_of_cell? W _ g0, g0, g1⟩
end Go.Proofs.YtbodiioemohenaaDoor
