/- A slice of elements that are bytes alone, that came in, reads as rows of bytes. No condition of its own. -/
import Derived.Test.YtpegnafapjcanaaRfl
import Derived.Test.YtpegnafapjcanaaFlat
import Derived.Deep.Slices
namespace Go.Proofs.Ytpegnafapjcanaa
open Go.RowKit

theorem ex_rows {P : Nat → List UInt8 → Prop} : ∀ (k : Nat), (∀ i, i < k → ∃ xs, P i xs) → ∃ L : List (List UInt8), L.length = k ∧ ∀ i, i < k → P i (L.getD i [])
  | 0, _ => ⟨[], rfl, fun i h => by omega⟩
  | k + 1, h => by
    obtain ⟨L, hl, hL⟩ := ex_rows k fun i hi => h i (by omega)
    obtain ⟨xs, hxs⟩ := h k (by omega)
    refine ⟨L ++ [xs], by simp [hl], fun i hi => ?_⟩
    by_cases e : i = k
    · subst e
      rw [List.getD, List.getElem?_append_right (by omega), hl, Nat.sub_self]
      exact hxs
    · rw [List.getD, List.getElem?_append_left (by omega)]
      exact hL i (by omega)
theorem rf_of_slice {H : Type} {enc : TypeId × Value → H} {P : Program} {W : World} {base : Nat} {sp : Nat → Bool} {hd : Bool} {t e : TypeId} {n depth len cap : Nat} {A : Option Addr} {d : DataW H} {ps : List MemPlace} (ht : P.underlying t = some (.slice e)) (hfl : flatB P depth e = true) (hct : P.cellsOf e = n) (hn : 0 < n)
    (h : DataW.Trod enc P W base sp hd t (.slice A len cap) d ps) : ∃ L, Rf n W (.slice A len cap) L := by
  obtain ⟨fuel, hf⟩ := h
  have hcs0 : (Value.slice A len cap).cells.toList = [.slice A len cap] := rfl
  rw [hcs0] at hf
  rcases Go.Deep.open_slice ht hf with ⟨h0, _⟩ | ⟨a, len', cap', m, n', D, Pl, hcs, hb, hl, hm, hmm, hx, hi⟩
  · simp only [List.cons.injEq, Value.slice.injEq, and_true] at h0
    obtain ⟨rfl, rfl, rfl⟩ := h0
    exact ⟨[], Rf.empty W _ _ (Nat.zero_le _)⟩
  · simp only [List.cons.injEq, Value.slice.injEq, and_true] at hcs
    obtain ⟨rfl, rfl, rfl⟩ := hcs
    have hlm : len ≤ m := by rw [hmm]; split <;> omega
    by_cases h0 : len = 0
    · subst h0
      exact ⟨[], Rf.empty W _ _ hm⟩
    · have key : ∀ i, i < len → ∃ xs : List UInt8, xs.length = n ∧ ∀ j, j < n → W.cell? (a.add (i * n + j)) = some (bv (xs.getD j 0)) := fun i hil => by
        obtain ⟨cs', hc, ht'⟩ := hi i (by omega)
        rw [hct] at hc
        obtain ⟨_, hcl, hat⟩ := World.cells?_some hc
        obtain ⟨xs, rfl⟩ := bytes_map cs' (flat_cells depth e n' _ _ hfl ht')
        have hxl : xs.length = n := by simpa using hcl
        refine ⟨xs, hxl, fun j hj => ?_⟩
        have h1 := hat (i := j) (by simpa using hj)
        rw [Go.Deep.add_add] at h1
        rw [h1, List.getElem?_map, List.getElem?_eq_getElem (by omega), List.getD, List.getElem?_eq_getElem (by omega)]
        rfl
      obtain ⟨L, hLl, hL⟩ := ex_rows len key
      obtain ⟨b, off, spot⟩ := a
      have h1 := (hL 0 (by omega)).2 0 hn
      have hs : spot = none := by simpa [Addr.add] using World.cell?_spot h1
      subst hs
      have hadd : ∀ k, (⟨b, off, none⟩ : Addr).add k = ⟨b, off + k, none⟩ := fun k => by
        by_cases hk : k = 0
        · subst hk; rfl
        · simp [Addr.add, hk]
      refine ⟨L, fun l hl2 => ?_, .inr ⟨b, off, cap, by rw [hLl], ?_, by rw [hLl]; exact hl, hm, fun i j hi2 hj => ?_⟩⟩
      · obtain ⟨i, hi2, rfl⟩ := List.getElem_of_mem hl2
        have h2 := (hL i (by omega)).1
        rw [List.getD, List.getElem?_eq_getElem hi2] at h2
        exact h2
      · rw [hadd] at h1
        exact World.block_lt_of_cell? W _ h1
      · have h2 := (hL i (by omega)).2 j hj
        rw [hadd, ← Nat.add_assoc] at h2
        exact h2
end Go.Proofs.Ytpegnafapjcanaa
