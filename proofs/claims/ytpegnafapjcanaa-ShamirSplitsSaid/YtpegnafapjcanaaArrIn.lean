/- An array of bytes that came in by value reads as bytes. No condition of its own. -/
import Derived.Test.YtpegnafapjcanaaMem
import Derived.DataReads
import Derived.Carry
namespace Go.Proofs.Ytpegnafapjcanaa
open Go.RowKit

theorem byte_cell {H : Type} {enc : TypeId × Value → H} {P : Program} {W : World} {base : Nat} {sp : Nat → Bool} {hd : Bool} {e : TypeId} {fuel : Nat} {v : Value} {y : DataW H × List MemPlace} (he : P.underlying e = some (.int .u8)) (h : DataW.trod enc P W base sp hd fuel e [v] = some y) : ∃ b : UInt8, v = bv b := by
  cases fuel with
  | zero => simp [DataW.trod] at h
  | succ f =>
    cases v with
    | int k n =>
      simp only [DataW.trod, he] at h
      split at h
      · rename_i hc
        obtain ⟨rfl, hw⟩ := hc
        have hb := bounds_u8 hw
        refine ⟨UInt8.ofNat n.toNat, ?_⟩
        unfold bv
        congr 1
        rw [UInt8.toNat_ofNat']
        omega
      · cases h
    | _ => simp [DataW.trod, he] at h
theorem bytes_of_arr {H : Type} {enc : TypeId × Value → H} {P : Program} {W : World} {base b0 : Nat} {r : Reach} {sp : Nat → Bool} {hd : Bool} {t e : TypeId} {n : Nat} {v : Value} {d : DataW H} {ps : List MemPlace} (ht : P.underlying t = some (.array n e)) (he : P.underlying e = some (.int .u8)) (hc : P.cellsOf e = 1) (hct : P.cellsOf t = n)
    (hval : Value.okWide P W r b0 t v) (h : DataW.Trod enc P W base sp hd t v d ps) : ∃ xs : List UInt8, v = .agg (xs.map bv).toArray ∧ xs.length = n := by
  unfold Value.okWide at hval
  rw [ht] at hval
  obtain ⟨cs, rfl, hsz, _⟩ := hval
  rw [hct] at hsz
  obtain ⟨fuel, hf⟩ := h
  have hcs : (Value.agg cs).cells.toList = cs.toList := rfl
  rw [hcs] at hf
  cases fuel with
  | zero => simp [DataW.trod] at hf
  | succ f =>
    simp only [DataW.trod, ht, hct, hc, Nat.mul_one] at hf
    rw [if_pos (by simpa using hsz)] at hf
    rw [Option.map_eq_some_iff] at hf
    obtain ⟨ys, hm, _⟩ := hf
    have hcell : ∀ i (hi : i < cs.toList.length), ∃ b : UInt8, cs.toList[i] = bv b := fun i hi => by
      have hin : i < n := by simpa [hsz] using hi
      have h1 := mapM_some_get hm i i (by rw [List.getElem?_range hin])
      have h2 := mapM_some_length hm
      rw [List.length_range] at h2
      rw [List.getElem?_eq_getElem (by omega)] at h1
      have e1 : (cs.toList.drop i).take 1 = [cs.toList[i]] := by
        rw [List.drop_eq_getElem_cons hi]
        rfl
      rw [e1] at h1
      exact byte_cell he h1
    refine ⟨cs.toList.map fun v => match v with | .int _ z => UInt8.ofNat z.toNat | _ => 0, ?_, by simp [hsz]⟩
    have e2 : ((cs.toList.map fun v => match v with | .int _ z => UInt8.ofNat z.toNat | _ => 0).map bv) = cs.toList := by
      apply List.ext_getElem
      · simp
      · intro i h1 h2
        obtain ⟨b, hb⟩ := hcell i h2
        rw [List.getElem_map, List.getElem_map, hb]
        simp [bv]
    rw [e2]
end Go.Proofs.Ytpegnafapjcanaa
