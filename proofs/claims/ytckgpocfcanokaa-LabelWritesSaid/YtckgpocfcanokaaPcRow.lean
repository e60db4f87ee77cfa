/- A row of pieces as it comes in: none, or a slice of them anywhere. No condition of its own. -/
import Derived.Test.YtckgpocfcanokaaPcSpec
import Derived.Deep.MidRow
namespace Go.Proofs.Ytckgpocfcanokaa
open Go.RowKit

structure RsP (w : World) (v : Value) (ps : List Pc) : Prop where
  ex : ∃ A c, v = .slice A ps.length c ∧ ps.length ≤ maxLen ∧ ∀ i (h : i < ps.length), ∃ g o, A = some ⟨g, o, none⟩ ∧ g < w.heap.size ∧ w.rangeAt g (o + i * 5) ps[i].vs ∧ ps[i].Ok
  nil : ∀ n c, v = .slice none n c → c = 0
  cap : ∀ A n c, v = .slice A n c → n ≤ c
theorem range_below {w w' : World} {g o : Nat} {cs : List Value} (h : w.rangeAt g o cs) (hg : g < w.heap.size) (hb : Below w.heap.size w w') : w'.rangeAt g o cs := fun j v hv => (hb.cell (p := ⟨g, o + j, none⟩) hg).trans (h j v hv)
theorem RsP.below {w w' : World} {v : Value} {ps : List Pc} (h : RsP w v ps) (hb : Below w.heap.size w w') : RsP w' v ps := by
  have hn := h.nil
  have hp := h.cap
  obtain ⟨A, c, rfl, hm, h⟩ := h.ex
  refine ⟨⟨A, c, rfl, hm, fun i hi => ?_⟩, hn, hp⟩
  obtain ⟨g, o, rfl, h1, h2, h3⟩ := h i hi
  exact ⟨g, o, rfl, Nat.lt_of_lt_of_le h1 hb.size, range_below h2 h1 hb, h3⟩
theorem RsP.ok {w : World} {v : Value} {ps : List Pc} (h : RsP w v ps) : ∀ p ∈ ps, p.Ok := fun p hp => by
  obtain ⟨A, c, rfl, hm, h⟩ := h.ex
  obtain ⟨i, hi, rfl⟩ := List.getElem_of_mem hp
  obtain ⟨_, _, _, _, _, h3⟩ := h i hi
  exact h3
theorem RsP.form {w : World} {v : Value} {ps : List Pc} (h : RsP w v ps) : ∃ A c, v = .slice A ps.length c ∧ ps.length ≤ maxLen := by
  obtain ⟨A, c, h1, h2, _⟩ := h.ex
  exact ⟨A, c, h1, h2⟩
theorem rsP_nil (w : World) : RsP w (.slice none 0 0) [] := ⟨⟨none, 0, rfl, Nat.zero_le _, fun i hi => by cases hi⟩, fun _ _ e => (by injection e with _ _ e; exact e.symm), fun A n c e => by injection e with _ h1 h2; omega⟩
/-- A piece's cells, where it lies in a row. -/
theorem RsP.at' {w : World} {A : Option Addr} {n c : Nat} {ps : List Pc} (h : RsP w (.slice A n c) ps) {i : Nat} (hi : i < ps.length) : ∃ g o, A = some ⟨g, o, none⟩ ∧ g < w.heap.size ∧ w.rangeAt g (o + i * 5) ps[i].vs ∧ ps[i].Ok := by
  obtain ⟨A', c', he, _, h⟩ := h.ex
  injection he with h1 h2 h3
  subst h1
  exact h i hi
theorem RsP.at2 {w : World} {A : Option Addr} {n c : Nat} {ps : List Pc} (h : RsP w (.slice A n c) ps) {i : Nat} {p : Pc} (hi : ps[i]? = some p) : ∃ g o, A = some ⟨g, o, none⟩ ∧ g < w.heap.size ∧ w.rangeAt g (o + i * 5) p.vs ∧ p.Ok := by
  obtain ⟨hlt, rfl⟩ := List.getElem?_eq_some_iff.1 hi
  exact h.at' hlt
theorem range5 {w : World} {g o : Nat} {p : Pc} (h : w.rangeAt g o p.vs) : w.cell? ⟨g, o, none⟩ = some (.string p.s) ∧ w.cell? ⟨g, o + 1, none⟩ = some (.int .i64 p.t) ∧ w.cell? ⟨g, o + 2, none⟩ = some (.int .i64 p.v) ∧ w.cell? ⟨g, o + 3, none⟩ = some (.int .u64 (p.n : Int)) ∧ w.cell? ⟨g, o + 4, none⟩ = some (.int .u16 (p.o : Int)) :=
  ⟨h 0 _ rfl, h 1 _ rfl, h 2 _ rfl, h 3 _ rfl, h 4 _ rfl⟩
/-- Some rows of pieces in a row of slices. -/
def PsP (w : World) (v : Value) (ls : List (List Pc)) : Prop :=
  ∃ g c, v = .slice (some ⟨g, 0, none⟩) ls.length c ∧ g < w.heap.size ∧ ∀ i (h : i < ls.length), ∃ u, w.cell? ⟨g, i, none⟩ = some u ∧ RsP w u ls[i]
end Go.Proofs.Ytckgpocfcanokaa
