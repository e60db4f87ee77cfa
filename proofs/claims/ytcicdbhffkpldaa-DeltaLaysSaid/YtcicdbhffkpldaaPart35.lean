/- Part 35 of the words that the laws share: CmpLaw. No condition of its own: each theorem says its own. -/
import Derived.Test.YtcicdbhffkpldaaPart34
import Derived.Test.YtcicdbhffkpldaaPart16
import Derived.Sort.Statements

/- What the developers' comparing functions say, reckoned: the order of pieces, ids. No program in sight. -/
namespace Go.Proofs.Ytcicdbhffkpldaa
open Go.RowKit

theorem cb_cases : ∀ x y : List UInt8, (Op.bytesLess x y = true ∧ Lib.compareBytes x y = -1) ∨ (x = y ∧ Lib.compareBytes x y = 0) ∨ (Op.bytesLess y x = true ∧ Lib.compareBytes x y = 1)
  | [], [] => .inr (.inl ⟨rfl, rfl⟩)
  | [], _ :: _ => .inl ⟨rfl, rfl⟩
  | _ :: _, [] => .inr (.inr ⟨rfl, rfl⟩)
  | a :: x, b :: y => by
    unfold Lib.compareBytes
    simp only [Op.bytesLess, Bool.or_eq_true, decide_eq_true_eq, Bool.and_eq_true, beq_iff_eq]
    by_cases h1 : a < b
    · rw [if_pos h1]
      exact .inl ⟨.inl h1, rfl⟩
    · rw [if_neg h1]
      by_cases h2 : b < a
      · rw [if_pos h2]
        exact .inr (.inr ⟨.inl h2, rfl⟩)
      · rw [if_neg h2]
        have e : a = b := by
          rw [UInt8.lt_iff_toNat_lt] at h1 h2
          exact UInt8.toNat_inj.1 (by omega)
        subst e
        rcases cb_cases x y with ⟨h3, h4⟩ | ⟨h3, h4⟩ | ⟨h3, h4⟩
        · exact .inl ⟨.inr ⟨rfl, h3⟩, h4⟩
        · exact .inr (.inl ⟨by rw [h3], h4⟩)
        · exact .inr (.inr ⟨.inr ⟨rfl, h3⟩, h4⟩)
theorem cmpI_cases (a b : Int) : (a < b ∧ cmpI a b = -1) ∨ (a = b ∧ cmpI a b = 0) ∨ (b < a ∧ cmpI a b = 1) := by
  unfold cmpI
  by_cases h1 : a < b
  · exact .inl ⟨h1, if_pos h1⟩
  · by_cases h2 : b < a
    · exact .inr (.inr ⟨h2, by rw [if_neg h1, if_pos h2]⟩)
    · exact .inr (.inl ⟨by omega, by rw [if_neg h1, if_neg h2]⟩)
theorem orL_step (x : Int) (l : List Int) : (x = 0 ∧ orL (x :: l) = orL l) ∨ (x ≠ 0 ∧ orL (x :: l) = x) := by
  by_cases h : x = 0
  · exact .inl ⟨h, by rw [orL, if_neg (by simp [h])]⟩
  · exact .inr ⟨h, by rw [orL, if_pos h]⟩
theorem orL_nil : orL [] = 0 := rfl
theorem id_cases (n o m q : Nat) : ((n < m ∨ (n = m ∧ o < q)) ∧ cmpId n o m q = -1) ∨ ((n = m ∧ o = q) ∧ cmpId n o m q = 0) ∨ ((m < n ∨ (n = m ∧ q < o)) ∧ cmpId n o m q = 1) := by
  unfold cmpId
  have h1 := cmpI_cases (n : Int) (m : Int)
  have h2 := cmpI_cases (o : Int) (q : Int)
  have h3 := orL_step (cmpI (n : Int) (m : Int)) [cmpI (o : Int) (q : Int)]
  have h4 := orL_step (cmpI (o : Int) (q : Int)) []
  have h5 := orL_nil
  omega
theorem above_cmp (n o m q : Nat) : decide (0 < cmpId n o m q) = aboveP n o m q := by
  have h := id_cases n o m q
  rw [Bool.eq_iff_iff, decide_eq_true_eq, above_iff]
  omega
/-- An id below another. -/
def idLt (a b : Pc) : Prop := a.n < b.n ∨ (a.n = b.n ∧ a.o < b.o)
theorem cmp_cases (a b : Pc) : ((keyLt a b ∨ (sameK a b ∧ idLt a b)) ∧ cmpPc a b = -1) ∨ ((sameK a b ∧ a.n = b.n ∧ a.o = b.o) ∧ cmpPc a b = 0) ∨ ((keyLt b a ∨ (sameK a b ∧ idLt b a)) ∧ cmpPc a b = 1) := by
  unfold cmpPc keyLt sameK idLt
  rw [ByteArray.toList_eq, ByteArray.toList_eq]
  obtain ⟨x, hx⟩ : ∃ x, x = Lib.compareBytes a.s.data.toList b.s.data.toList := ⟨_, rfl⟩
  have h1 := cb_cases a.s.data.toList b.s.data.toList
  have h2 := cmpI_cases a.t b.t
  have h3 := id_cases a.n a.o b.n b.o
  have h4 := orL_step (Lib.compareBytes a.s.data.toList b.s.data.toList) [cmpI a.t b.t, cmpId a.n a.o b.n b.o]
  have h5 := orL_step (cmpI a.t b.t) [cmpId a.n a.o b.n b.o]
  have h6 := orL_step (cmpId a.n a.o b.n b.o) []
  have h7 := orL_nil
  have he : a.s.data.toList = b.s.data.toList ↔ a.s = b.s := ⟨fun e => str_inj (by rw [ByteArray.toList_eq, ByteArray.toList_eq]; exact e), fun e => by rw [e]⟩
  have he2 : b.s = a.s ↔ a.s = b.s := ⟨Eq.symm, Eq.symm⟩
  rw [he2]
  rw [he] at h1
  have hne : a.s = b.s → Op.bytesLess a.s.data.toList b.s.data.toList = false ∧ Op.bytesLess b.s.data.toList a.s.data.toList = false := fun e => by rw [e]; exact ⟨bl_irrefl _, bl_irrefl _⟩
  generalize Lib.compareBytes a.s.data.toList b.s.data.toList = c at *
  generalize Op.bytesLess a.s.data.toList b.s.data.toList = p at *
  generalize Op.bytesLess b.s.data.toList a.s.data.toList = p' at *
  generalize cmpI a.t b.t = ci at *
  generalize cmpId a.n a.o b.n b.o = cd at *
  rcases h1 with ⟨k1, k2⟩ | ⟨k1, k2⟩ | ⟨k1, k2⟩
  · exact .inl ⟨.inl (.inl k1), by omega⟩
  · rcases h2 with ⟨k3, k4⟩ | ⟨k3, k4⟩ | ⟨k3, k4⟩
    · exact .inl ⟨.inl (.inr ⟨k1, k3⟩), by omega⟩
    · rcases h3 with ⟨k5, k6⟩ | ⟨k5, k6⟩ | ⟨k5, k6⟩
      · exact .inl ⟨.inr ⟨⟨k1, k3⟩, k5⟩, by omega⟩
      · exact .inr (.inl ⟨⟨⟨k1, k3⟩, k5⟩, by omega⟩)
      · exact .inr (.inr ⟨.inr ⟨⟨k1, k3⟩, by omega⟩, by omega⟩)
    · exact .inr (.inr ⟨.inl (.inr ⟨k1, k3⟩), by omega⟩)
  · exact .inr (.inr ⟨.inl (.inl k1), by omega⟩)
theorem less_iff (a b : Pc) : lessP a b = true ↔ keyLt a b ∨ (sameK a b ∧ idLt a b) := by
  unfold lessP
  by_cases h1 : a.s = b.s
  · rw [if_neg (by rw [h1]; exact fun e => e rfl)]
    by_cases h2 : a.t = b.t
    · rw [if_neg (fun e => e h2), above_iff]
      unfold keyLt sameK idLt
      rw [h1, bl_irrefl]
      simp [h2]
      omega
    · rw [if_pos h2, decide_eq_true_eq]
      unfold keyLt sameK idLt
      rw [h1, bl_irrefl]
      simp [h2]
  · rw [if_pos fun e => h1 (str_inj e)]
    unfold keyLt sameK idLt
    simp [h1]
theorem less_cmp (a b : Pc) : decide (cmpPc a b < 0) = lessP a b := by
  rw [Bool.eq_iff_iff, decide_eq_true_eq, less_iff]
  rcases cmp_cases a b with ⟨h1, h2⟩ | ⟨h1, h2⟩ | ⟨h1, h2⟩
  · exact ⟨fun _ => h1, fun _ => by omega⟩
  · refine ⟨fun h => by omega, fun h => ?_⟩
    rcases h with h | ⟨_, h⟩
    · exact absurd h1.1 (keyLt_not_same h)
    · unfold idLt at h
      omega
  · refine ⟨fun h => by omega, fun h => ?_⟩
    rcases h with h | ⟨h, h3⟩
    · rcases h1 with h1 | ⟨h1, _⟩
      · exact (keyLt_asymm h h1).elim
      · exact absurd h1 (keyLt_not_same h)
    · rcases h1 with h1 | ⟨_, h1⟩
      · exact absurd h.symm (keyLt_not_same h1)
      · unfold idLt at h1 h3
        omega
/-- Not less. -/
theorem not_less_iff (a b : Pc) : lessP a b = false ↔ keyLt b a ∨ (sameK a b ∧ ¬ idLt a b) := by
  rw [← Bool.not_eq_true, less_iff]
  constructor
  · intro h
    rcases key_tri a b with h1 | h1 | h1
    · exact absurd (.inl h1) h
    · exact .inr ⟨h1, fun h2 => h (.inr ⟨h1, h2⟩)⟩
    · exact .inl h1
  · rintro (h | ⟨h, h2⟩) (g | ⟨g, g2⟩)
    · exact keyLt_asymm h g
    · exact keyLt_not_same h g.symm
    · exact keyLt_not_same g h
    · exact h2 g2
theorem less_swo : Go.Sort.SWO lessP where
  irrefl x := less_irrefl x
  trans x y z h g := by
    rw [less_iff] at *
    rcases h with h | ⟨h, h2⟩
    · rcases g with g | ⟨g, g2⟩
      · exact .inl (keyLt_trans h g)
      · exact .inl (keyLt_same_right h g)
    · rcases g with g | ⟨g, g2⟩
      · exact .inl (keyLt_same_left h g)
      · exact .inr ⟨h.trans g, by unfold idLt at *; omega⟩
  ntrans x y z h g := by
    rw [not_less_iff] at *
    rcases h with h | ⟨h, h2⟩
    · rcases g with g | ⟨g, g2⟩
      · exact .inl (keyLt_trans g h)
      · exact .inl (keyLt_same_left g.symm h)
    · rcases g with g | ⟨g, g2⟩
      · exact .inl (keyLt_same_right g h.symm)
      · exact .inr ⟨h.trans g, by unfold idLt at *; omega⟩
end Go.Proofs.Ytcicdbhffkpldaa
