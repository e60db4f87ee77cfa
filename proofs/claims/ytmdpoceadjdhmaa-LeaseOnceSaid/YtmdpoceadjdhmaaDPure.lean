/- What an insertion and what a written sector make of a disk's list; a change's count. No program in sight. Condition: the disk is as a disk is. -/
import Derived.Test.YtmdpoceadjdhmaaDSpec
namespace Go.Proofs.Ytmdpoceadjdhmaa

/-- How many lie below a place. -/
def tw (L : List Pl) (k : Nat) : Nat := L.findIdx fun p => !decide (p.plc < k)
theorem tw_le (L : List Pl) (k : Nat) : tw L k ≤ L.length := List.findIdx_le_length
theorem tw_take (L : List Pl) (k : Nat) : L.takeWhile (fun p => decide (p.plc < k)) = L.take (tw L k) := List.takeWhile_eq_take_findIdx_not
theorem tw_drop (L : List Pl) (k : Nat) : L.dropWhile (fun p => decide (p.plc < k)) = L.drop (tw L k) := List.dropWhile_eq_drop_findIdx_not
theorem DOk.put {S : DS} (h : DOk S) {i : Nat} {p : Pl} (hi : i < S.L.length) (hp : p.plc = S.L[i].plc) (hn : p.now.length = 128) (hw : p.was.length = 128) {S' : DS} (hL : S'.L = S.L.set i p) : DOk S' := by
  refine ⟨?_, ?_, ?_⟩
  · rw [hL]
    intro q hq
    rcases List.mem_or_eq_of_mem_set hq with h1 | h1
    · exact h.low q h1
    · rw [h1, hp]
      exact h.low _ (List.getElem_mem hi)
  · rw [hL, List.pairwise_iff_getElem]
    intro a b ha hb hab
    have hr := h.rise
    rw [List.pairwise_iff_getElem] at hr
    rw [List.length_set] at ha hb
    have h1 := hr a b ha hb hab
    rw [List.getElem_set, List.getElem_set]
    by_cases ea : i = a
    · subst ea
      rw [if_pos rfl, if_neg (by omega), hp]
      exact h1
    · by_cases eb : i = b
      · subst eb
        rw [if_neg ea, if_pos rfl, hp]
        exact h1
      · rw [if_neg ea, if_neg eb]
        exact h1
  · rw [hL]
    intro q hq
    rcases List.mem_or_eq_of_mem_set hq with h1 | h1
    · exact h.full q h1
    · rw [h1]
      exact ⟨hn, hw⟩
theorem DOk.ops {S S' : DS} (h : DOk S) (hL : S'.L = S.L) : DOk S' := ⟨by rw [hL]; exact h.low, by rw [hL]; exact h.rise, by rw [hL]; exact h.full⟩
theorem burnS_L (S : DS) : (burnS S).1.L = S.L := by
  unfold burnS
  split
  · split <;> rfl
  · rfl
theorem no_plc {L : List Pl} {k : Int} (h : ¬ findL L k < L.length) : ∀ p ∈ L, (p.plc : Int) ≠ k := by
  intro p hp
  have h1 : findL L k = L.length := Nat.le_antisymm List.findIdx_le_length (by omega)
  unfold findL at h1
  rw [List.findIdx_eq_length] at h1
  simpa using h1 p hp
theorem take_lt {L : List Pl} {k : Nat} : ∀ p ∈ L.take (tw L k), p.plc < k := by
  intro p hp
  obtain ⟨j, hj, rfl⟩ := List.getElem_of_mem hp
  rw [List.length_take] at hj
  have h2 := List.not_of_lt_findIdx (p := fun p : Pl => !decide (p.plc < k)) (xs := L) (i := j) (by show j < tw L k; omega)
  simpa using h2
theorem drop_gt {L : List Pl} {k : Nat} (hr : L.Pairwise fun p q => p.plc < q.plc) (hno : ∀ p ∈ L, (p.plc : Int) ≠ k) : ∀ p ∈ L.drop (tw L k), k < p.plc := by
  intro p hp
  obtain ⟨j, hj, rfl⟩ := List.getElem_of_mem hp
  rw [List.length_drop] at hj
  have hl : tw L k < L.length := by omega
  have hw : L.findIdx (fun p : Pl => !decide (p.plc < k)) < L.length := hl
  have h2 := List.findIdx_getElem (w := hw)
  have h6 : (!decide ((L[tw L k]'hl).plc < k)) = true := h2
  have h3 : ¬ (L[tw L k]'hl).plc < k := by simpa using h6
  have h4 := hno _ (List.getElem_mem hl)
  rw [List.getElem_drop]
  rw [List.pairwise_iff_getElem] at hr
  by_cases e : j = 0
  · subst e
    simp only [Nat.add_zero]
    omega
  · have h5 := hr (tw L k) (tw L k + j) hl (by omega) (by omega)
    omega
theorem insP_eq (L : List Pl) (k : Nat) : insP L k = L.take (tw L k) ++ blank k :: L.drop (tw L k) := by
  unfold insP
  rw [tw_take, tw_drop]
theorem insP_ok {S S' : DS} {k : Nat} (h : DOk S) (hk : k < 1024) (hno : ¬ findL S.L k < S.L.length) (hL : S'.L = insP S.L k) : DOk S' := by
  have hr := h.rise
  rw [← List.take_append_drop (tw S.L k) S.L, List.pairwise_append] at hr
  have hz : z128.length = 128 := by simp [z128]
  refine ⟨?_, ?_, ?_⟩
  · rw [hL, insP_eq]
    intro p hp
    rcases List.mem_append.1 hp with h1 | h1
    · exact h.low p (List.mem_of_mem_take h1)
    · rcases List.mem_cons.1 h1 with h2 | h2
      · rw [h2]; exact hk
      · exact h.low p (List.mem_of_mem_drop h2)
  · rw [hL, insP_eq, List.pairwise_append]
    refine ⟨hr.1, List.pairwise_cons.2 ⟨fun q hq => drop_gt h.rise (no_plc hno) q hq, hr.2.1⟩, fun p hp q hq => ?_⟩
    rcases List.mem_cons.1 hq with h2 | h2
    · rw [h2]; exact take_lt p hp
    · exact hr.2.2 p hp q h2
  · rw [hL, insP_eq]
    intro p hp
    rcases List.mem_append.1 hp with h1 | h1
    · exact h.full p (List.mem_of_mem_take h1)
    · rcases List.mem_cons.1 h1 with h2 | h2
      · rw [h2]; exact ⟨hz, hz⟩
      · exact h.full p (List.mem_of_mem_drop h2)
theorem withP_found (L : List Pl) (k : Nat) : findL (withP L k) k < (withP L k).length := by
  unfold withP
  split
  · assumption
  · unfold findL
    rw [List.findIdx_lt_length]
    exact ⟨blank k, by rw [insP_eq]; simp, by simp [blank]⟩
theorem modify_set {α : Type _} (L : List α) (f : α → α) (i : Nat) (h : i < L.length) : L.modify i f = L.set i (f L[i]) := by
  apply List.ext_getElem?
  intro j
  rw [List.getElem?_modify, List.getElem?_set]
  by_cases e : i = j
  · subst e
    simp [h]
  · simp [e]
theorem writeL_set {L L' : List Pl} {n i : Nat} {bs : List UInt8} (hL : L' = withP L n) (hi : i = findL L' n) (h : i < L'.length) : writeL L n bs = L'.set i (putP L'[i] bs) := by
  subst hL hi
  unfold writeL
  exact modify_set _ _ _ h
theorem burnS_ops (S : DS) : (burnS S).1.ops = S.ops + 1 := by
  unfold burnS
  split
  · split <;> rfl
  · rfl
end Go.Proofs.Ytmdpoceadjdhmaa
