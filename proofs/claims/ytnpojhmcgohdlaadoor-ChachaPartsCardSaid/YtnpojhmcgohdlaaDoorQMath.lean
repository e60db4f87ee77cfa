/- Plain arithmetic: a quarter by its four values. No condition of its own. -/
import Derived.Test.YtnpojhmcgohdlaaDoorChaMath
namespace Go.Proofs.YtnpojhmcgohdlaaDoor
open Go.RowKit

theorem gd_self {l : List Nat} {p v : Nat} (h : p < l.length) : (l.set p v).getD p 0 = v := by
  rw [List.getD, List.getElem?_set_self h]; rfl
theorem gd_ne {l : List Nat} {p q v : Nat} (h : p ≠ q) : (l.set p v).getD q 0 = l.getD q 0 := by
  rw [List.getD, List.getD, List.getElem?_set_ne h]
/-- The four words behind a quarter. -/
def qA1 (x y : Nat) : Nat := (x + y) % 4294967296
def qD1 (x y u : Nat) : Nat := rlN 16 (u ^^^ qA1 x y)
def qC1 (x y z u : Nat) : Nat := (z + qD1 x y u) % 4294967296
def qB1 (x y z u : Nat) : Nat := rlN 12 (y ^^^ qC1 x y z u)
def qA2 (x y z u : Nat) : Nat := (qA1 x y + qB1 x y z u) % 4294967296
def qD2 (x y z u : Nat) : Nat := rlN 8 (qD1 x y u ^^^ qA2 x y z u)
def qC2 (x y z u : Nat) : Nat := (qC1 x y z u + qD2 x y z u) % 4294967296
def qB2 (x y z u : Nat) : Nat := rlN 7 (qB1 x y z u ^^^ qC2 x y z u)
theorem sets8 (l : List Nat) {a b c d : Nat} (hab : a ≠ b) (hac : a ≠ c) (had : a ≠ d) (hbc : b ≠ c) (hbd : b ≠ d) (hcd : c ≠ d) (a1 d1 c1 b1 a2 d2 c2 b2 : Nat) :
    (((((((l.set a a1).set d d1).set c c1).set b b1).set a a2).set d d2).set c c2).set b b2 = (((l.set a a2).set b b2).set c c2).set d d2 := by
  have s1 : ∀ (l : List Nat) (v w : Nat), (l.set b v).set a w = (l.set a w).set b v := fun l v w => List.set_comm _ _ hab.symm
  have s2 : ∀ (l : List Nat) (v w : Nat), (l.set c v).set a w = (l.set a w).set c v := fun l v w => List.set_comm _ _ hac.symm
  have s3 : ∀ (l : List Nat) (v w : Nat), (l.set d v).set a w = (l.set a w).set d v := fun l v w => List.set_comm _ _ had.symm
  have s4 : ∀ (l : List Nat) (v w : Nat), (l.set c v).set b w = (l.set b w).set c v := fun l v w => List.set_comm _ _ hbc.symm
  have s5 : ∀ (l : List Nat) (v w : Nat), (l.set d v).set b w = (l.set b w).set d v := fun l v w => List.set_comm _ _ hbd.symm
  have s6 : ∀ (l : List Nat) (v w : Nat), (l.set d v).set c w = (l.set c w).set d v := fun l v w => List.set_comm _ _ hcd.symm
  simp only [s1, s2, s3, s4, s5, s6, List.set_set]
theorem quart_eq {ws : List Nat} {a b c d : Nat} (ha : a < ws.length) (hb : b < ws.length) (hc : c < ws.length) (hd : d < ws.length) (hab : a ≠ b) (hac : a ≠ c) (had : a ≠ d) (hbc : b ≠ c) (hbd : b ≠ d) (hcd : c ≠ d)
    {x y z u : Nat} (hx : ws.getD a 0 = x) (hy : ws.getD b 0 = y) (hz : ws.getD c 0 = z) (hu : ws.getD d 0 = u) :
    quart ws a b c d = (((ws.set a (qA2 x y z u)).set b (qB2 x y z u)).set c (qC2 x y z u)).set d (qD2 x y z u) := by
  have e1 : addW ws a b = ws.set a (qA1 x y) := by rw [addW, hx, hy, qA1]
  have e2 : rotW (ws.set a (qA1 x y)) d a 16 = (ws.set a (qA1 x y)).set d (qD1 x y u) := by rw [rotW, gd_self ha, gd_ne had, hu, qD1]
  have e3 : addW ((ws.set a (qA1 x y)).set d (qD1 x y u)) c d = ((ws.set a (qA1 x y)).set d (qD1 x y u)).set c (qC1 x y z u) := by
    rw [addW, gd_self (by rw [List.length_set]; exact hd), gd_ne hcd.symm, gd_ne hac, hz, qC1]
  have e4 : rotW (((ws.set a (qA1 x y)).set d (qD1 x y u)).set c (qC1 x y z u)) b c 12 = (((ws.set a (qA1 x y)).set d (qD1 x y u)).set c (qC1 x y z u)).set b (qB1 x y z u) := by
    rw [rotW, gd_self (by rw [List.length_set, List.length_set]; exact hc), gd_ne hbc.symm, gd_ne hbd.symm, gd_ne hab, hy, qB1]
  have e5 : addW ((((ws.set a (qA1 x y)).set d (qD1 x y u)).set c (qC1 x y z u)).set b (qB1 x y z u)) a b = ((((ws.set a (qA1 x y)).set d (qD1 x y u)).set c (qC1 x y z u)).set b (qB1 x y z u)).set a (qA2 x y z u) := by
    rw [addW, gd_self (by rw [List.length_set, List.length_set, List.length_set]; exact hb), gd_ne hab.symm, gd_ne hac.symm, gd_ne had.symm, gd_self ha, qA2]
  have e6 : rotW (((((ws.set a (qA1 x y)).set d (qD1 x y u)).set c (qC1 x y z u)).set b (qB1 x y z u)).set a (qA2 x y z u)) d a 8 = (((((ws.set a (qA1 x y)).set d (qD1 x y u)).set c (qC1 x y z u)).set b (qB1 x y z u)).set a (qA2 x y z u)).set d (qD2 x y z u) := by
    rw [rotW, gd_self (by rw [List.length_set, List.length_set, List.length_set, List.length_set]; exact ha), gd_ne had, gd_ne hbd, gd_ne hcd, gd_self (by rw [List.length_set]; exact hd), qD2]
  have e7 : addW ((((((ws.set a (qA1 x y)).set d (qD1 x y u)).set c (qC1 x y z u)).set b (qB1 x y z u)).set a (qA2 x y z u)).set d (qD2 x y z u)) c d = ((((((ws.set a (qA1 x y)).set d (qD1 x y u)).set c (qC1 x y z u)).set b (qB1 x y z u)).set a (qA2 x y z u)).set d (qD2 x y z u)).set c (qC2 x y z u) := by
    rw [addW, gd_self (by rw [List.length_set, List.length_set, List.length_set, List.length_set, List.length_set]; exact hd), gd_ne hcd.symm, gd_ne hac, gd_ne hbc, gd_self (by rw [List.length_set, List.length_set]; exact hc), qC2]
  have e8 : rotW (((((((ws.set a (qA1 x y)).set d (qD1 x y u)).set c (qC1 x y z u)).set b (qB1 x y z u)).set a (qA2 x y z u)).set d (qD2 x y z u)).set c (qC2 x y z u)) b c 7 = (((((((ws.set a (qA1 x y)).set d (qD1 x y u)).set c (qC1 x y z u)).set b (qB1 x y z u)).set a (qA2 x y z u)).set d (qD2 x y z u)).set c (qC2 x y z u)).set b (qB2 x y z u) := by
    rw [rotW, gd_self (by rw [List.length_set, List.length_set, List.length_set, List.length_set, List.length_set, List.length_set]; exact hc), gd_ne hbc.symm, gd_ne hbd.symm, gd_ne hab, gd_self (by rw [List.length_set, List.length_set, List.length_set]; exact hb), qB2]
  rw [quart, e1, e2, e3, e4, e5, e6, e7, e8, sets8 ws hab hac had hbc hbd hcd]
end Go.Proofs.YtnpojhmcgohdlaaDoor
