/- Part 20 of the words that the laws share: RsIn. No condition of its own: each theorem says its own. -/
import Derived.Test.YtbodiioemohenaaDoorPart12
import Derived.Deep.Slices
import Derived.Deep.Strs
import Derived.ProofKit

/- A slice of slices of bytes that came in reads as rows of bytes. No condition of its own. -/
namespace Go.Proofs.YtbodiioemohenaaDoor
open Go.RowKit Go.ChangeShapes Go.WideShapes Go.ChangeAt

theorem cellsRB : Tryd.prog.cellsOf 23 = 1 := by kernel_rfl
set_option maxRecDepth 100000 in
theorem rb_cells {H : Type} {enc : TypeId × Value → H} {W : World} {base fuel : Nat} {hd : Bool} {cs : List Value} {y : DataW H × List MemPlace} (hl : cs.length = 1) (h : DataW.trod enc Tryd.prog W base (fun _ => true) hd fuel 23 cs = some y) : ∃ (xs : List UInt8) (u : Value), cs = [u] ∧ Rd W u xs := by
  obtain ⟨c0, rfl⟩ := List.length_eq_one_iff.1 hl
  rcases open_ints Tryd.underlying23 Tryd.underlying5 (by kernel_rfl) h with ⟨hcs, _⟩ | ⟨x, l, c, zs, hcs, _, hl, hm, hz, _, hcell, hwz⟩
  · simp only [List.cons.injEq, and_true] at hcs
    rw [hcs]
    exact ⟨[], _, rfl, Rd.nil W⟩
  · simp only [List.cons.injEq, and_true] at hcs
    rw [hcs]
    obtain ⟨xs, hx⟩ := rd_of_row hl hm (by simpa using hz) hcell hwz
    exact ⟨xs, _, rfl, hx⟩
theorem ex_rows {P : Nat → List UInt8 → Prop} : ∀ (k : Nat), (∀ i, i < k → ∃ a, P i a) → ∃ L : List (List UInt8), L.length = k ∧ ∀ i, i < k → P i (L.getD i [])
  | 0, _ => ⟨[], rfl, fun i h => by omega⟩
  | k + 1, h => by
    obtain ⟨L, hl, hL⟩ := ex_rows k fun i hi => h i (by omega)
    obtain ⟨xs, hxs⟩ := h k (by omega)
    refine ⟨L ++ [xs], by simp [hl], fun i hi => ?_⟩
    by_cases e : i = k
    · subst e
      rw [List.getD, List.getElem?_append_right (by omega), hl, Nat.sub_self]
      exact hxs
    · rw [List.getD, List.getElem?_append_left (by omega)]
      exact hL i (by omega)
theorem rsa_of_slice {H : Type} {enc : TypeId × Value → H} {W : World} {base : Nat} {hd : Bool} {len cap : Nat} {A : Option Addr} {d : DataW H} {ps : List MemPlace}
    (h : DataW.Trod enc Tryd.prog W base (fun _ => true) hd 27 (.slice A len cap) d ps) : ∃ L, RsA W (.slice A len cap) L := by
  obtain ⟨fuel, hf⟩ := h
  have hcs0 : (Value.slice A len cap).cells.toList = [.slice A len cap] := rfl
  rw [hcs0] at hf
  rcases Go.Deep.open_slice Tryd.underlying27 hf with ⟨h0, _⟩ | ⟨a, len', cap', m, n', D, Pl, hcs, hb, hl, hm, hmm, hx, hi⟩
  · simp only [List.cons.injEq, Value.slice.injEq, and_true] at h0
    obtain ⟨rfl, rfl, rfl⟩ := h0
    exact ⟨[], ⟨none, 0, rfl, Nat.zero_le _, fun i hi => (by cases hi)⟩⟩
  · simp only [List.cons.injEq, Value.slice.injEq, and_true] at hcs
    obtain ⟨rfl, rfl, rfl⟩ := hcs
    have hlm : len ≤ m := by rw [hmm]; split <;> omega
    by_cases h0 : len = 0
    · subst h0
      exact ⟨[], ⟨some a, cap, rfl, Nat.zero_le _, fun i hi => (by cases hi)⟩⟩
    · have key : ∀ i, i < len → ∃ q : List UInt8, ∃ u, W.cell? (a.add i) = some u ∧ Rd W u q := fun i hil => by
        obtain ⟨cs', hc, ht'⟩ := hi i (by omega)
        rw [cellsRB, Nat.mul_one] at hc
        obtain ⟨_, hlen, hat⟩ := World.cells?_some hc
        obtain ⟨q, u, rfl, hok⟩ := rb_cells hlen ht'
        have h0 := hat (i := 0) (by simp)
        rw [Go.Deep.add_add] at h0
        exact ⟨q, u, h0, hok⟩
      obtain ⟨L, hLl, hL⟩ := ex_rows len key
      obtain ⟨b, off, spot⟩ := a
      obtain ⟨_, h1, _⟩ := hL 0 (by omega)
      have hs : spot = none := by simpa [Addr.add] using World.cell?_spot h1
      subst hs
      have hadd : ∀ k, (⟨b, off, none⟩ : Addr).add k = ⟨b, off + k, none⟩ := fun k => by
        by_cases hk : k = 0
        · subst hk; rfl
        · simp [Addr.add, hk]
      refine ⟨L, ⟨some ⟨b, off, none⟩, cap, by rw [hLl], by rw [hLl]; omega, fun i hi2 => ?_⟩⟩
      obtain ⟨u, g0, g1⟩ := hL i (by omega)
      rw [hadd] at g0
      rw [List.getD, List.getElem?_eq_getElem hi2] at g1
      have g1 : Rd W u L[i] := g1
      exact ⟨b, off, u, rfl, World.block_lt_of_cell? W _ g0, g0, g1, rd_elder g1⟩
end Go.Proofs.YtbodiioemohenaaDoor
