/- A lease, reckoned. No program in sight, no condition. -/
import Derived.Test.YtmdpoceadjdhmaaNonB
namespace Go.Proofs.Ytmdpoceadjdhmaa
open Go.RowKit

/-- A lease: its node, its next number, its bound. -/
structure LS where
  node : Nat
  next : Nat
  bound : Nat
def topL : Nat := 4611686018427387904
theorem topL_eq : topL = 4611686018427387904 := rfl
def LOk (s : LS) : Prop := s.node < 65536 ∧ s.next ≤ s.bound ∧ s.bound ≤ 4611686018427387904
def newL (node b : Nat) : LS := ⟨node, min b 4611686018427387904, min b 4611686018427387904⟩
theorem newL_ok {node b : Nat} (h : node < 65536) : LOk (newL node b) := ⟨h, Nat.le_refl _, Nat.min_le_right _ _⟩
def wantsL (s : LS) (n : Nat) : Nat × Nat := if 4611686018427387904 < s.bound + n then (0, 12) else (s.bound + n, 0)
def grantL (s : LS) (b : Nat) : LS × Nat := if b < s.bound then (s, 13) else if 4611686018427387904 < b then (s, 12) else (⟨s.node, s.next, b⟩, 0)
def takeL (s : LS) : LS × Nat × Nat := if s.next < s.bound then (⟨s.node, s.next + 1, s.bound⟩, s.next, 0) else if s.bound = 4611686018427387904 then (s, 0, 12) else (s, 0, 14)
def nonceL (s : LS) : List UInt8 := if (takeL s).2.2 = 0 then nonceB s.node (takeL s).2.1 else List.replicate 12 0
theorem grantL_ok {s : LS} (h : LOk s) (b : Nat) : LOk (grantL s b).1 := by
  obtain ⟨h1, h2, h3⟩ := h
  unfold grantL
  split
  · exact ⟨h1, h2, h3⟩
  · split
    · exact ⟨h1, h2, h3⟩
    · exact ⟨h1, show s.next ≤ b by omega, show b ≤ 4611686018427387904 by omega⟩
theorem takeL_ok {s : LS} (h : LOk s) : LOk (takeL s).1 := by
  obtain ⟨h1, h2, h3⟩ := h
  unfold takeL
  split
  · exact ⟨h1, show s.next + 1 ≤ s.bound by omega, h3⟩
  · split
    · exact ⟨h1, h2, h3⟩
    · exact ⟨h1, h2, h3⟩
theorem takeL_yes {s : LS} (h : s.next < s.bound) : takeL s = (⟨s.node, s.next + 1, s.bound⟩, s.next, 0) := by
  unfold takeL
  rw [if_pos h]
theorem takeL_spent {s : LS} (h : ¬ s.next < s.bound) (hb : s.bound = 4611686018427387904) : takeL s = (s, 0, 12) := by
  unfold takeL
  rw [if_neg h, if_pos hb]
theorem takeL_wait {s : LS} (h : ¬ s.next < s.bound) (hb : s.bound ≠ 4611686018427387904) : takeL s = (s, 0, 14) := by
  unfold takeL
  rw [if_neg h, if_neg hb]
theorem takeL_cases (s : LS) : ((takeL s).2.2 = 0 ∧ s.next < s.bound ∧ (takeL s).1 = ⟨s.node, s.next + 1, s.bound⟩ ∧ (takeL s).2.1 = s.next) ∨ (((takeL s).2.2 = 12 ∨ (takeL s).2.2 = 14) ∧ ¬ s.next < s.bound ∧ (takeL s).1 = s ∧ (takeL s).2.1 = 0) := by
  by_cases h : s.next < s.bound
  · rw [takeL_yes h]
    exact .inl ⟨rfl, h, rfl, rfl⟩
  · by_cases hb : s.bound = 4611686018427387904
    · rw [takeL_spent h hb]
      exact .inr ⟨.inl rfl, h, rfl, rfl⟩
    · rw [takeL_wait h hb]
      exact .inr ⟨.inr rfl, h, rfl, rfl⟩
theorem nonceL_length (s : LS) : (nonceL s).length = 12 := by
  unfold nonceL
  split
  · exact nonceB_length _ _
  · exact List.length_replicate
end Go.Proofs.Ytmdpoceadjdhmaa
