/- All bytes of two scrubbed disks: one but for the numbers of the slots. No program in sight. Conditions: both were scrubbed with the same image. -/
import Derived.Test.YtbodiioemohenaaDoorPart19
namespace Go.Proofs.YtbodiioemohenaaDoor
open Go.RowKit

def rawJ (L : List Pl) (i : Nat) : List UInt8 := ((List.range i).map fun k : Nat => sectB L (k : Int)).flatten
theorem rawJ_next (L : List Pl) (i : Nat) : rawJ L (i + 1) = rawJ L i ++ sectB L (i : Int) := by
  unfold rawJ
  rw [List.range_succ, List.map_append, List.flatten_append]
  simp
theorem rawJ_eq (S : DS) : rawS S = rawJ S.L 1024 := by
  have e : rawP S = fun k : Nat => sectB S.L (k : Int) := funext (rawP_sect S)
  unfold rawS rawJ
  rw [e]
theorem rawJn_len {S : DS} (h : DOk S) : ∀ n, (rawJ S.L n).length = n * 128
  | 0 => by simp [rawJ]
  | n + 1 => by
    rw [rawJ_next, List.length_append, rawJn_len h n, sectB_len h]
    omega
theorem rawJn_get {S : DS} (h : DOk S) : ∀ (n i : Nat), i < n * 128 → (rawJ S.L n)[i]? = (sectB S.L ((i / 128 : Nat) : Int))[i % 128]?
  | 0, i, hi => by omega
  | n + 1, i, hi => by
    rw [rawJ_next]
    by_cases g : i < n * 128
    · rw [List.getElem?_append_left (by rw [rawJn_len h]; exact g), rawJn_get h n i g]
    · rw [List.getElem?_append_right (by rw [rawJn_len h]; omega), rawJn_len h, show i / 128 = n by omega, show i - n * 128 = i % 128 by omega]
theorem rawJ_len {S : DS} (h : DOk S) : (rawS S).length = 131072 := by rw [rawJ_eq, rawJn_len h]
theorem rawJ_get {S : DS} (h : DOk S) {i : Nat} (hi : i < 131072) : (rawS S)[i]? = (sectB S.L ((i / 128 : Nat) : Int))[i % 128]? := by rw [rawJ_eq, rawJn_get h 1024 i (by omega)]
theorem sec_drop (img : List UInt8) (n n' r : Nat) : (secW fp8 img n r).drop 8 = (secW fp8 img n' r).drop 8 := by
  unfold secW
  split
  · unfold pad128 partS hdrS
    simp [leB_length]
  · rfl
/-- As a scrub leaves a disk. -/
def Scrubbed (T : DS) (img : List UInt8) : Prop := (∀ q, q < 512 → ∃ n, viewS T 0 q = some (secW fp8 img n (q % 256))) ∧ ∀ q, 512 ≤ q → q < 1024 → viewS T 0 q = some z128
theorem scrubbed_of {T : DS} {img : List UInt8} {m : Nat} (h1 : ∃ s, s ≤ 1 ∧ ∀ i, i < 256 → viewS T 0 (256 * s + i) = some (secW fp8 img (m + 2) i) ∧ viewS T 0 (256 * (1 - s) + i) = some (secW fp8 img (m + 1) i)) (h2 : ∀ q, 512 ≤ q → q < 1024 → viewS T 0 q = some z128) : Scrubbed T img := by
  refine ⟨fun q hq => ?_, h2⟩
  obtain ⟨s, hs, h⟩ := h1
  obtain ⟨h3, h4⟩ := h (q % 256) (by omega)
  by_cases g : q / 256 = s
  · rw [show 256 * s + q % 256 = q by omega] at h3
    exact ⟨_, h3⟩
  · rw [show 256 * (1 - s) + q % 256 = q by omega] at h4
    exact ⟨_, h4⟩
theorem view_sectB {S : DS} {q : Nat} {x : List UInt8} (h : viewS S 0 q = some x) : sectB S.L ((q : Nat) : Int) = x := by
  unfold viewS at h
  split at h
  · injection h with h
    rwa [Nat.zero_add] at h
  · cases h
theorem scrub_raw {T U : DS} (hT : DOk T) (hU : DOk U) {img : List UInt8} (h : Scrubbed T img) (g : Scrubbed U img) {i : Nat} (hi : i < 131072) (h8 : 8 ≤ i % 128) : (rawS T)[i]? = (rawS U)[i]? := by
  rw [rawJ_get hT hi, rawJ_get hU hi]
  by_cases hk : i / 128 < 512
  · obtain ⟨n, h1⟩ := h.1 _ hk
    obtain ⟨n', g1⟩ := g.1 _ hk
    rw [view_sectB h1, view_sectB g1]
    have e := congrArg (fun l => l[i % 128 - 8]?) (sec_drop img n n' (i / 128 % 256))
    simp only [List.getElem?_drop] at e
    rwa [show 8 + (i % 128 - 8) = i % 128 by omega] at e
  · rw [view_sectB (h.2 _ (by omega) (by omega)), view_sectB (g.2 _ (by omega) (by omega))]
end Go.Proofs.YtbodiioemohenaaDoor
