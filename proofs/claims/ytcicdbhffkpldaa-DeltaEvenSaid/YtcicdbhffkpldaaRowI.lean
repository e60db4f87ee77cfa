/- A row of integers as it comes in: none, or a slice of them anywhere. No condition of its own. -/
import Derived.Test.YtcicdbhffkpldaaPart1
namespace Go.Proofs.Ytcicdbhffkpldaa
open Go.RowKit

structure RdI (k : IntKind) (w : World) (v : Value) (zs : List Int) : Prop where
  ex : ∃ A c, v = .slice A zs.length c ∧ zs.length ≤ maxLen ∧ ∀ i (h : i < zs.length), ∃ g o, A = some ⟨g, o, none⟩ ∧ g < w.heap.size ∧ w.cell? ⟨g, o + i, none⟩ = some (.int k zs[i]) ∧ (Lit.int k zs[i]).wf = true
theorem RdI.below {k : IntKind} {w w' : World} {v : Value} {zs : List Int} (h : RdI k w v zs) (hb : Below w.heap.size w w') : RdI k w' v zs := by
  obtain ⟨A, c, rfl, hm, h⟩ := h.ex
  refine ⟨A, c, rfl, hm, fun i hi => ?_⟩
  obtain ⟨g, o, rfl, h1, h2, h3⟩ := h i hi
  exact ⟨g, o, rfl, Nat.lt_of_lt_of_le h1 hb.size, (hb.cell (p := ⟨g, o + i, none⟩) h1).trans h2, h3⟩
theorem RdI.nil (k : IntKind) (w : World) : RdI k w (.slice none 0 0) [] := ⟨none, 0, rfl, Nat.zero_le _, fun i hi => by cases hi⟩
theorem rdi_of_row {k : IntKind} {W : World} {x : Addr} {l c : Nat} {zs : List Int} (hl : l ≤ c) (hm : c ≤ maxLen) (hz : zs.length = c) (hcell : ∀ i, i < zs.length → W.cell? (x.add i) = some (.int k (zs.getD i 0))) (hwz : ∀ n ∈ zs, (Lit.int k n).wf = true) :
    ∃ xs, RdI k W (.slice (some x) l c) xs := by
  have hlen : (zs.take l).length = l := by rw [List.length_take]; omega
  refine ⟨zs.take l, some x, c, by rw [hlen], by rw [hlen]; omega, fun i hi => ?_⟩
  rw [hlen] at hi
  obtain ⟨b, off, spot⟩ := x
  have h1 := hcell 0 (by omega)
  have hs : spot = none := by simpa [Addr.add] using World.cell?_spot h1
  subst hs
  have h1' : W.cell? ⟨b, off, none⟩ = some (.int k (zs.getD 0 0)) := by simpa [Addr.add] using h1
  have h2 := hcell i (by omega)
  have e1 : ((⟨b, off, none⟩ : Addr).add i) = ⟨b, off + i, none⟩ := by
    by_cases hi0 : i = 0
    · subst hi0; rfl
    · simp [Addr.add, hi0]
  have e2 : zs.getD i 0 = zs[i]'(by omega) := by simp [List.getD, List.getElem?_eq_getElem (show i < zs.length by omega)]
  rw [e1, e2] at h2
  refine ⟨b, off, rfl, World.block_lt_of_cell? W _ h1', ?_, ?_⟩
  · rw [h2, List.getElem_take]
  · rw [List.getElem_take]
    exact hwz _ (List.getElem_mem _)
end Go.Proofs.Ytcicdbhffkpldaa
