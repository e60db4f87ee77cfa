/- Rows of labels and of questions as they come in. No condition of its own. -/
import Derived.Test.YtckgpocfcanokaaLbSpec
import Derived.Test.YtckgpocfcanokaaPcRow
import Derived.Test.YtckgpocfcanokaaGen
namespace Go.Proofs.Ytckgpocfcanokaa
open Go.RowKit

/-- A row of structs of k cells each. -/
structure RsE (k : Nat) (w : World) (v : Value) (R : List (List Value)) : Prop where
  ex : ∃ A c, v = .slice A R.length c ∧ R.length ≤ maxLen ∧ ∀ i (h : i < R.length), ∃ g o, A = some ⟨g, o, none⟩ ∧ g < w.heap.size ∧ w.rangeAt g (o + i * k) R[i]
  nil : ∀ n c, v = .slice none n c → c = 0
theorem RsE.below {k : Nat} {w w' : World} {v : Value} {R : List (List Value)} (h : RsE k w v R) (hb : Below w.heap.size w w') : RsE k w' v R := by
  have hn := h.nil
  obtain ⟨A, c, rfl, hm, h⟩ := h.ex
  refine ⟨⟨A, c, rfl, hm, fun i hi => ?_⟩, hn⟩
  obtain ⟨g, o, rfl, h1, h2⟩ := h i hi
  exact ⟨g, o, rfl, Nat.lt_of_lt_of_le h1 hb.size, range_below h2 h1 hb⟩
theorem RsE.at' {k : Nat} {w : World} {A : Option Addr} {n c : Nat} {R : List (List Value)} (h : RsE k w (.slice A n c) R) {i : Nat} {r : List Value} (hi : R[i]? = some r) : ∃ g o, A = some ⟨g, o, none⟩ ∧ g < w.heap.size ∧ w.rangeAt g (o + i * k) r := by
  obtain ⟨hlt, rfl⟩ := List.getElem?_eq_some_iff.1 hi
  obtain ⟨A', c', he, _, h⟩ := h.ex
  injection he with h1 h2 h3
  subst h1
  exact h i hlt
def lbV (q : Qu) : List Value := [.string q.n, .string q.v]
def quV (q : Qu) : List Value := [.string q.n, .int .i64 q.g, .string q.v]
/-- A row of labels. -/
structure RsLb (w : World) (v : Value) (ls : List Qu) : Prop where
  row : RsE 2 w v (ls.map lbV)
  ok : ∀ q ∈ ls, q.n.size ≤ maxLen ∧ q.v.size ≤ maxLen ∧ q.g = 0
/-- A row of questions. -/
structure RsQu (w : World) (v : Value) (qs : List Qu) : Prop where
  row : RsE 3 w v (qs.map quV)
  ok : ∀ q ∈ qs, q.n.size ≤ maxLen ∧ q.v.size ≤ maxLen ∧ (Lit.int .i64 q.g).wf = true
theorem RsLb.below {w w' : World} {v : Value} {ls : List Qu} (h : RsLb w v ls) (hb : Below w.heap.size w w') : RsLb w' v ls := ⟨h.row.below hb, h.ok⟩
theorem RsQu.below {w w' : World} {v : Value} {ls : List Qu} (h : RsQu w v ls) (hb : Below w.heap.size w w') : RsQu w' v ls := ⟨h.row.below hb, h.ok⟩
theorem RsLb.drewN {w : World} {v : Value} {ls : List Qu} (h : RsLb w v ls) (m : Nat) : RsLb (w.drewN m) v ls := h.below (below_drewN (Below.refl _ _) m)
theorem RsQu.drewN {w : World} {v : Value} {ls : List Qu} (h : RsQu w v ls) (m : Nat) : RsQu (w.drewN m) v ls := h.below (below_drewN (Below.refl _ _) m)
theorem RsLb.form {w : World} {v : Value} {ls : List Qu} (h : RsLb w v ls) : ∃ A c, v = .slice A ls.length c ∧ ls.length ≤ maxLen := by
  obtain ⟨A, c, h1, h2, _⟩ := h.row.ex
  rw [List.length_map] at h1 h2
  exact ⟨A, c, h1, h2⟩
theorem RsQu.form {w : World} {v : Value} {ls : List Qu} (h : RsQu w v ls) : ∃ A c, v = .slice A ls.length c ∧ ls.length ≤ maxLen := by
  obtain ⟨A, c, h1, h2, _⟩ := h.row.ex
  rw [List.length_map] at h1 h2
  exact ⟨A, c, h1, h2⟩
theorem RsLb.addr {w : World} {A : Option Addr} {n c i : Nat} {ls : List Qu} {q : Qu} (h : RsLb w (.slice A n c) ls) (hq : ls[i]? = some q) : ∃ g o, A = some ⟨g, o, none⟩ := by
  obtain ⟨g, o, h1, _⟩ := h.row.at' (i := i) (r := lbV q) (by rw [List.getElem?_map, hq]; rfl)
  exact ⟨g, o, h1⟩
theorem RsQu.addr {w : World} {A : Option Addr} {n c i : Nat} {ls : List Qu} {q : Qu} (h : RsQu w (.slice A n c) ls) (hq : ls[i]? = some q) : ∃ g o, A = some ⟨g, o, none⟩ := by
  obtain ⟨g, o, h1, _⟩ := h.row.at' (i := i) (r := quV q) (by rw [List.getElem?_map, hq]; rfl)
  exact ⟨g, o, h1⟩
theorem RsLb.cells {w : World} {g o n c i : Nat} {ls : List Qu} {q : Qu} (h : RsLb w (.slice (some ⟨g, o, none⟩) n c) ls) (hq : ls[i]? = some q) :
    w.rangeAt g (o + i * 2) (lbV q) ∧ w.cell? ⟨g, o + i * 2, none⟩ = some (.string q.n) ∧ w.cell? ⟨g, o + i * 2 + 1, none⟩ = some (.string q.v) := by
  obtain ⟨g', o', he, _, hr⟩ := h.row.at' (i := i) (r := lbV q) (by rw [List.getElem?_map, hq]; rfl)
  injection he with he
  injection he with h1 h2
  subst h1 h2
  exact ⟨hr, hr 0 _ rfl, hr 1 _ rfl⟩
theorem RsQu.cells {w : World} {g o n c i : Nat} {ls : List Qu} {q : Qu} (h : RsQu w (.slice (some ⟨g, o, none⟩) n c) ls) (hq : ls[i]? = some q) :
    w.rangeAt g (o + i * 3) (quV q) ∧ w.cell? ⟨g, o + i * 3, none⟩ = some (.string q.n) ∧ w.cell? ⟨g, o + i * 3 + 1, none⟩ = some (.int .i64 q.g) ∧ w.cell? ⟨g, o + i * 3 + 2, none⟩ = some (.string q.v) := by
  obtain ⟨g', o', he, _, hr⟩ := h.row.at' (i := i) (r := quV q) (by rw [List.getElem?_map, hq]; rfl)
  injection he with he
  injection he with h1 h2
  subst h1 h2
  exact ⟨hr, hr 0 _ rfl, hr 1 _ rfl, hr 2 _ rfl⟩
end Go.Proofs.Ytckgpocfcanokaa
