/- A row of structs that the library's sort works on: as it asks, as it leaves it. No condition of its own. -/
import Derived.Test.YthhojjdccfcicaaSrow
import Derived.Shelf.GgSortFunc.InsertionK
namespace Go.Proofs.Ythhojjdccfcicaa
open Go.RowKit Go.Sort Go.Shelf

section
variable {α : Type} {enc : α → List Value} {k : Nat}
theorem enc_rows (hk : ∀ x, (enc x).length = k) (d : Array α) : ∀ l ∈ d.toList.map enc, l.length = k := fun l hl => by
  obtain ⟨x, _, rfl⟩ := List.mem_map.1 hl
  exact hk x
theorem enc_at [Inhabited α] (d : Array α) {i : Nat} (hi : i < d.size) : (d.toList.map enc).getD i [] = enc d[i]! := by
  rw [List.getD, List.getElem?_map, List.getElem?_eq_getElem (by simpa using hi)]
  simp [hi]
theorem div_lt_of {j n k : Nat} (h : j < n * k) : j / k < n ∧ j % k < k := by
  have hk : 0 < k := by
    rcases Nat.eq_zero_or_pos k with e | e
    · rw [e] at h
      omega
    · exact e
  exact ⟨(Nat.div_lt_iff_lt_mul hk).2 h, Nat.mod_lt _ hk⟩
theorem flat_at [Inhabited α] (hk : ∀ x, (enc x).length = k) (d : Array α) {j : Nat} (hj : j < d.size * k) : (d.toList.map enc).flatten[j]? = some ((enc d[j / k]!)[j % k]!) := by
  obtain ⟨h1, h2⟩ := div_lt_of hj
  have h3 := rows_get (enc_rows hk d) (j / k) (j % k) (by simpa using h1) h2
  rw [Nat.mul_comm, Nat.div_add_mod] at h3
  rw [h3, enc_at d h1]
  have h4 : j % k < (enc d[j / k]!).length := by rw [hk]; exact h2
  rw [List.getElem?_eq_getElem h4]
  simp [h4]
theorem holds_ownR [Inhabited α] (hk : ∀ x, (enc x).length = k) {w : World} {base : Nat} {e : TypeId} {g m c : Nat} {d : Array α} (h : OwnR k w base e (.slice (some ⟨g, 0, none⟩) m c) (d.toList.map enc)) : HoldsK enc k w g 0 d := by
  intro j hj
  rw [size_flatK] at hj
  obtain ⟨h1, h2⟩ := div_lt_of hj
  have h3 := h.cell (j / k) (j % k) (by simpa using h1) h2
  rw [Nat.mul_comm, Nat.div_add_mod] at h3
  rw [Nat.zero_add]
  refine ⟨?_, h.free j⟩
  rw [h3, get_flatK _ _ _ _ hj, enc_at d h1]
  have h4 : j % k < (enc d[j / k]!).length := by rw [hk]; exact h2
  rw [List.getElem?_eq_getElem h4]
  simp [h4]
theorem ownR_sorted [Inhabited α] (hk : ∀ x, (enc x).length = k) {w : World} {base : Nat} {e : TypeId} {g m c : Nat} {d d' : Array α} (h : OwnR k w base e (.slice (some ⟨g, 0, none⟩) m c) (d.toList.map enc)) (hs : d'.size = d.size) (n : Nat) (os : Array Obj) :
    OwnR k (sortWorldK enc k w g 0 n d' os) base e (.slice (some ⟨g, 0, none⟩) m c) (d'.toList.map enc) ∧ Chg (fun j => j = g) w (sortWorldK enc k w g 0 n d' os) := by
  obtain ⟨h0, hl, hr⟩ := h
  rcases hr with ⟨h1, _⟩ | ⟨g', cap, cur, hv, hb, hg, hn, hc, hsz, htk⟩
  · cases h1
  · injection hv with hv1 hv2 hv3
    injection hv1 with hv1
    injection hv1 with hv1 _ _
    subst hv1 hv2 hv3
    have hlt : g < w.heap.size := by
      rcases Nat.lt_or_ge g w.heap.size with h1 | h1
      · exact h1
      · rw [Array.getElem?_eq_none h1] at hg
        cases hg
    obtain ⟨n0, hn0⟩ : ∃ n0, n0 = (d.toList.map enc).length := ⟨_, rfl⟩
    have hd : d.size = n0 := by rw [hn0]; simp
    rw [← hn0] at hn htk hl ⊢
    have hheap : (sortWorldK enc k w g 0 n d' os).heap[g]? = some (.cells (putCells id 0 (flatK enc k d') cur) e (0, 0)) := by
      unfold sortWorldK
      rw [heap_grow_old _ _ (by unfold putRowK putRow mapBlock Sort.ahead; simpa using hlt)]
      unfold putRowK putRow mapBlock Sort.ahead
      simp only [Array.getElem?_modify, if_true, hg, Option.map_some, onCells]
    have hn1 : (d'.toList.map enc).length = n0 := by rw [← hd, ← hs]; simp
    refine ⟨⟨enc_rows hk d', ?_, .inr ⟨g, c, _, ?_, hb, hheap, ?_, hc, ?_, ?_⟩⟩, ⟨rfl, rfl, rfl, ?_, fun j hj hne => ?_⟩⟩
    · rw [hn1, List.length_flatten, List.map_map]
      have h1 : (List.map (List.length ∘ enc) d'.toList) = List.replicate d'.size k := by
        rw [List.eq_replicate_iff]
        exact ⟨by simp, fun b hb => by obtain ⟨x, _, rfl⟩ := List.mem_map.1 hb; exact hk x⟩
      rw [h1, List.sum_replicate_nat, hs, hd]
    · rw [hn1]
    · rw [hn1]; exact hn
    · unfold putCells
      rw [Array.size_mapIdx]
      exact hsz
    · have hsz2 : n0 * k ≤ cur.size := by rw [hsz]; exact Nat.mul_le_mul_right k hn
      rw [hn1]
      refine List.ext_getElem? fun t => ?_
      by_cases ht : t < n0 * k
      · rw [List.getElem?_take_of_lt ht, flat_at hk d' (by rw [hs, hd]; exact ht)]
        unfold putCells
        rw [Array.getElem?_toList, Array.getElem?_mapIdx, Array.getElem?_eq_getElem (by omega)]
        simp only [Option.map_some, size_flatK, hs, hd, Nat.zero_add, Nat.zero_le, true_and, ht, if_true, id, Nat.sub_zero]
        rw [get_flatK _ _ _ _ (by rw [hs, hd]; exact ht)]
      · rw [List.getElem?_eq_none (by simp; omega), List.getElem?_eq_none]
        have h1 : (d'.toList.map enc).flatten.length = n0 * k := by
          rw [List.length_flatten, List.map_map]
          have h1 : (List.map (List.length ∘ enc) d'.toList) = List.replicate d'.size k := by
            rw [List.eq_replicate_iff]
            exact ⟨by simp, fun b hb => by obtain ⟨x, _, rfl⟩ := List.mem_map.1 hb; exact hk x⟩
          rw [h1, List.sum_replicate_nat, hs, hd]
        omega
    · unfold sortWorldK putRowK putRow mapBlock Sort.ahead grow
      simp
    · unfold sortWorldK
      rw [heap_grow_old _ _ (by unfold putRowK putRow mapBlock Sort.ahead; simpa using hj)]
      unfold putRowK putRow mapBlock Sort.ahead
      rw [Array.getElem?_modify, if_neg (fun e => hne e.symm)]
end
end Go.Proofs.Ythhojjdccfcicaa
