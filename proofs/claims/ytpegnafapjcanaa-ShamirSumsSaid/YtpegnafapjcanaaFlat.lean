/- Types whose cells are bytes alone (a byte; an array, or a struct, of such ones), that came in by value. No condition of its own. -/
import Derived.Test.YtpegnafapjcanaaArrIn
namespace Go.Proofs.Ytpegnafapjcanaa
open Go.RowKit

/-- Bytes alone. -/
def flatB (P : Program) : Nat → TypeId → Bool
  | 0, _ => false
  | n + 1, t => match P.underlying t with
    | some (.int .u8) => true
    | some (.array m e) => decide (P.cellsOf t = m * P.cellsOf e) && flatB P n e
    | some (.struct fs) => fs.toList.all (fun f => flatB P n f.type) && (List.range (P.cellsOf t)).all fun i => fs.toList.any fun f => decide (f.offset ≤ i) && decide (i < f.offset + P.cellsOf f.type)
    | _ => false
theorem flat_cells {H : Type} {enc : TypeId × Value → H} {P : Program} {W : World} {base : Nat} {sp : Nat → Bool} {hd : Bool} : ∀ (n : Nat) (t : TypeId) (fuel : Nat) (cs : List Value) (y : DataW H × List MemPlace), flatB P n t = true → DataW.trod enc P W base sp hd fuel t cs = some y → ∀ c ∈ cs, ∃ b : UInt8, c = bv b
  | 0, _, _, _, _, h, _ => by cases h
  | _ + 1, _, 0, _, _, _, h => by simp [DataW.trod] at h
  | n + 1, t, f + 1, cs, y, h, h2 => by
    unfold flatB at h
    split at h
    · rename_i hu
      match cs, h2 with
      | [], h2 => intro c hc; cases hc
      | [v], h2 =>
        intro c hc
        obtain rfl := List.mem_singleton.1 hc
        exact byte_cell hu h2
      | _ :: _ :: _, h2 => simp [DataW.trod, hu] at h2
    · rename_i m e hu
      obtain ⟨h3, h4⟩ := Bool.and_eq_true_iff.1 h
      have h3 := of_decide_eq_true h3
      simp only [DataW.trod, hu] at h2
      split at h2
      · rename_i hlen
        rw [Option.map_eq_some_iff] at h2
        obtain ⟨ys, hm, _⟩ := h2
        intro c hc
        obtain ⟨i, hi, rfl⟩ := List.getElem_of_mem hc
        have hpos : 0 < P.cellsOf e := by
          rcases Nat.eq_zero_or_pos (P.cellsOf e) with h0 | h0
          · rw [hlen, h3, h0] at hi; simp at hi
          · exact h0
        have hk : i / P.cellsOf e < m := by
          rw [Nat.div_lt_iff_lt_mul hpos, ← h3, ← hlen]
          exact hi
        have h5 := mapM_some_get hm (i / P.cellsOf e) (i / P.cellsOf e) (by rw [List.getElem?_range hk])
        have h6 := mapM_some_length hm
        rw [List.length_range] at h6
        rw [List.getElem?_eq_getElem (by omega)] at h5
        refine flat_cells n e f _ _ h4 h5 cs[i] ?_
        have hdm := Nat.div_add_mod i (P.cellsOf e)
        have hml := Nat.mod_lt i hpos
        have hcm : P.cellsOf e * (i / P.cellsOf e) = i / P.cellsOf e * P.cellsOf e := Nat.mul_comm ..
        rw [List.mem_iff_getElem?]
        refine ⟨i % P.cellsOf e, ?_⟩
        rw [List.getElem?_take, if_pos hml, List.getElem?_drop, show i / P.cellsOf e * P.cellsOf e + i % P.cellsOf e = i by omega, List.getElem?_eq_getElem hi]
      · cases h2
    · rename_i fs hu
      obtain ⟨h3, h4⟩ := Bool.and_eq_true_iff.1 h
      simp only [DataW.trod, hu] at h2
      split at h2
      · rename_i hlen
        rw [Option.map_eq_some_iff] at h2
        obtain ⟨ys, hm, _⟩ := h2
        intro c hc
        obtain ⟨i, hi, rfl⟩ := List.getElem_of_mem hc
        have h5 := (List.all_eq_true.1 h4) i (List.mem_range.2 (by omega))
        obtain ⟨g, hg, hgi⟩ := List.any_eq_true.1 h5
        obtain ⟨g1, g2⟩ := Bool.and_eq_true_iff.1 hgi
        have g1 := of_decide_eq_true g1
        have g2 := of_decide_eq_true g2
        obtain ⟨k, hk, rfl⟩ := List.getElem_of_mem hg
        have h6 := mapM_some_get hm k fs.toList[k] (List.getElem?_eq_getElem hk)
        have h7 := mapM_some_length hm
        rw [List.getElem?_eq_getElem (by omega)] at h6
        refine flat_cells n _ f _ _ ((List.all_eq_true.1 h3) _ hg) h6 cs[i] ?_
        rw [List.mem_iff_getElem?]
        refine ⟨i - fs.toList[k].offset, ?_⟩
        rw [List.getElem?_take, if_pos (by omega), List.getElem?_drop, show fs.toList[k].offset + (i - fs.toList[k].offset) = i by omega, List.getElem?_eq_getElem hi]
      · cases h2
    · cases h
theorem bytes_map : ∀ (cs : List Value), (∀ c ∈ cs, ∃ b : UInt8, c = bv b) → ∃ xs : List UInt8, cs = xs.map bv
  | [], _ => ⟨[], rfl⟩
  | c :: cs, h => by
    obtain ⟨b, rfl⟩ := h c (List.mem_cons_self ..)
    obtain ⟨xs, rfl⟩ := bytes_map cs fun d hd => h d (List.mem_cons_of_mem _ hd)
    exact ⟨b :: xs, rfl⟩
/-- An array, or a struct, of bytes alone, by value. -/
theorem bytes_of_flat {H : Type} {enc : TypeId × Value → H} {P : Program} {W : World} {base b0 : Nat} {r : Reach} {sp : Nat → Bool} {hd : Bool} {t : TypeId} {n : Nat} {v : Value} {d : DataW H} {ps : List MemPlace} (m : Nat) (hfl : flatB P m t = true) (hwide : (match P.underlying t with | some (.struct _) | some (.array _ _) => true | _ => false) = true) (hct : P.cellsOf t = n)
    (hval : Value.okWide P W r b0 t v) (h : DataW.Trod enc P W base sp hd t v d ps) : ∃ xs : List UInt8, v = .agg (xs.map bv).toArray ∧ xs.length = n := by
  have h1 : ∃ cs, v = .agg cs ∧ cs.size = P.cellsOf t := by
    unfold Value.okWide at hval
    split at hval
    · obtain ⟨cs, h1, h2, _⟩ := hval
      exact ⟨cs, h1, h2⟩
    · obtain ⟨cs, h1, h2, _⟩ := hval
      exact ⟨cs, h1, h2⟩
    · rename_i h1 h2
      exfalso
      split at hwide
      · rename_i hu; exact h1 _ hu
      · rename_i hu; exact h2 _ _ hu
      · cases hwide
  obtain ⟨cs, rfl, hsz⟩ := h1
  obtain ⟨fuel, hf⟩ := h
  have hcs : (Value.agg cs).cells.toList = cs.toList := rfl
  rw [hcs] at hf
  obtain ⟨xs, hx⟩ := bytes_map cs.toList (flat_cells m t fuel _ _ hfl hf)
  refine ⟨xs, by rw [← hx], ?_⟩
  have h2 := congrArg List.length hx
  rw [List.length_map] at h2
  rw [← h2, ← hct, ← hsz]
  simp
end Go.Proofs.Ytpegnafapjcanaa
