/- Shares of the places 1 to n, some of them in a row from whichever: their places are unlike, and as many as coefficients are put together to the secret. Condition: at most 8 places. -/
import Derived.Test.YtpegnafapjcanaaShSpec
namespace Go.Proofs.Ytpegnafapjcanaa

/-- The share number i has the place i + 1. -/
def Row8 (L : List (List UInt8)) : Prop := L.length ≤ 8 ∧ ∀ i, i < L.length → shX (L.getD i []) = UInt8.ofNat (i + 1)
theorem ofNat_ne {i j : Nat} (hi : i < 8) (hj : j < 8) (h : UInt8.ofNat (i + 1) = UInt8.ofNat (j + 1)) : i = j := by
  have h2 := congrArg UInt8.toNat h
  rw [UInt8.toNat_ofNat', UInt8.toNat_ofNat'] at h2
  omega
theorem ofNat_zero {i : Nat} (hi : i < 8) : UInt8.ofNat (i + 1) ≠ 0 := fun h => by
  have h2 := congrArg UInt8.toNat h
  rw [UInt8.toNat_ofNat', show (0 : UInt8).toNat = 0 from rfl] at h2
  omega
theorem places_zero {L : List (List UInt8)} (h1 : ¬ NoughtIn L) (h2 : ¬ TwiceIn L) : placesB L = 0 := by
  rcases placesB_cases L with h | h | h
  · exact absurd h.2 h1
  · exact absurd h.2.2 h2
  · exact h.1
theorem Row8.places {L : List (List UInt8)} (h : Row8 L) : placesB L = 0 := by
  obtain ⟨hl, hX⟩ := h
  refine places_zero (fun ⟨i, hi, h0⟩ => ?_) (fun ⟨q, i, hq, hi, he⟩ => ?_)
  · rw [hX i hi] at h0
    exact ofNat_zero (by omega) h0
  · rw [hX q (by omega), hX i hi] at he
    have := ofNat_ne (by omega) (by omega) he
    omega
theorem Row8.split (sec : List UInt8) {n : Nat} (hn : n ≤ 8) (t : Nat) (draws : List UInt8) : Row8 (splitB sec n t draws) :=
  ⟨by rw [splitB_length]; exact hn, fun i hi => by
    rw [splitB_length] at hi
    rw [splitB_get sec n t draws hi, shareB_X]⟩
theorem Row8.refresh {L : List (List UInt8)} (h : Row8 L) (t : Nat) (draws : List UInt8) : Row8 (refrB L t draws) :=
  ⟨by rw [refrB_length]; exact h.1, fun i hi => by
    rw [refrB_length] at hi
    rw [refrB_X L t draws hi, h.2 i hi]⟩
/-- Some in a row. -/
def rotL (L : List (List UInt8)) (n k m : Nat) : List (List UInt8) := (List.range m).map fun j => L.getD ((k + j) % n) []
theorem rotL_length (L : List (List UInt8)) (n k m : Nat) : (rotL L n k m).length = m := by simp [rotL]
theorem rotL_get (L : List (List UInt8)) (n k : Nat) {m j : Nat} (h : j < m) : (rotL L n k m).getD j [] = L.getD ((k + j) % n) [] := range_getD _ _ h
theorem rotL_succ (L : List (List UInt8)) (n k m : Nat) : rotL L n k (m + 1) = rotL L n k m ++ [L.getD ((k + m) % n) []] := by
  unfold rotL
  rw [List.range_succ, List.map_append]
  rfl
theorem mod_ne {n k i j : Nat} (hn : n ≤ 8) (hj : j < n) (hi : i < j) : (k + i) % n ≠ (k + j) % n := by
  have h : n = 1 ∨ n = 2 ∨ n = 3 ∨ n = 4 ∨ n = 5 ∨ n = 6 ∨ n = 7 ∨ n = 8 := by omega
  rcases h with rfl | rfl | rfl | rfl | rfl | rfl | rfl | rfl <;> omega
theorem rotL_once {L : List (List UInt8)} (h : Row8 L) (k : Nat) {m : Nat} (hm : m ≤ L.length) : ¬ TwiceIn (rotL L L.length k m) := fun ⟨q, i, hq, hi, he⟩ => by
  rw [rotL_length] at hi
  have hl := h.1
  have h1 : (k + q) % L.length < L.length := Nat.mod_lt _ (by omega)
  have h2 : (k + i) % L.length < L.length := Nat.mod_lt _ (by omega)
  rw [rotL_get L L.length k (by omega), rotL_get L L.length k hi, h.2 _ h1, h.2 _ h2] at he
  exact mod_ne hl (by omega) hq (ofNat_ne (by omega) (by omega) he)
theorem rotL_places {L : List (List UInt8)} (h : Row8 L) (k : Nat) {m : Nat} (hm : m ≤ L.length) : placesB (rotL L L.length k m) = 0 := by
  refine places_zero (fun ⟨i, hi, h0⟩ => ?_) (rotL_once h k hm)
  rw [rotL_length] at hi
  have hl := h.1
  have h1 : (k + i) % L.length < L.length := Nat.mod_lt _ (by omega)
  rw [rotL_get L L.length k hi, h.2 _ h1] at h0
  exact ofNat_zero (by omega) h0
theorem rotL_on {t : Nat} {sec : List UInt8} {L : List (List UInt8)} (h : OnPoly t sec L) (k m : Nat) (h0 : 0 < L.length) : OnPoly t sec (rotL L L.length k m) := by
  obtain ⟨f, hf, hL⟩ := h
  refine ⟨f, hf, fun i hi q hq => ?_⟩
  rw [rotL_length] at hi
  rw [rotL_get L L.length k hi]
  exact hL _ (Nat.mod_lt _ h0) q hq
theorem rotL_comb {t : Nat} {sec : List UInt8} {L : List (List UInt8)} (hs : sec.length = 32) (h : OnPoly t sec L) (h8 : Row8 L) (k : Nat) {m : Nat} (h0 : 0 < L.length) (hm : m ≤ L.length) (ht : t ≤ m) : combB (rotL L L.length k m) = sec :=
  combB_on hs (rotL_on h k m h0) (by rw [rotL_length]; exact ht) (rotL_once h8 k hm)
end Go.Proofs.Ytpegnafapjcanaa
