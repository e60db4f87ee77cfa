/- Part 26 of the words that the laws share: DActIn. No condition of its own: each theorem says its own. -/
import Derived.Test.YtkgbfghlonennaaPart16
import Derived.Deep.Slices
import Derived.Deep.Strs
import Derived.ProofKit

/- An act, and a slice of acts, that came in, read as acts. No condition of its own. -/
namespace Go.Proofs.Ytkgbfghlonennaa
open Go.RowKit Go.ChangeShapes Go.WideShapes Go.ChangeAt

theorem cellsI : Try.prog.cellsOf 3 = 1 := by kernel_rfl
theorem cellsB : Try.prog.cellsOf 32 = 1 := by kernel_rfl
theorem cellsA : Try.prog.cellsOf 34 = 3 := by kernel_rfl
theorem three {α : Type} {l : List α} (h : l.length = 3) : ∃ a b c, l = [a, b, c] := by
  match l, h with
  | [a, b, c], _ => exact ⟨a, b, c, rfl⟩
theorem act_cells {H : Type} {enc : TypeId × Value → H} {W : World} {base fuel : Nat} {hd : Bool} {cs : List Value} {y : DataW H × List MemPlace} (h : DataW.trod enc Try.prog W base (fun _ => true) hd fuel 34 cs = some y) : ∃ (a : ActV) (u : Value), cs = [.int .i64 a.kind, .int .i64 a.plc, u] ∧ ActOk W a u := by
  obtain ⟨y0, y1, y2, n, _, hl, h0, h1, h2⟩ := Go.Deep.trod_struct3 Try.underlying34 h
  obtain ⟨c0, c1, c2, rfl⟩ := three (hl.trans cellsA)
  rw [cellsI] at h0 h1
  rw [cellsB] at h2
  obtain ⟨k, e0, _, k0⟩ := DataW.trod_int Try.underlying3 h0
  obtain ⟨q, e1, _, k1⟩ := DataW.trod_int Try.underlying3 h1
  have f0 : [c0] = [Value.int .i64 k] := e0
  have f1 : [c1] = [Value.int .i64 q] := e1
  obtain rfl : c0 = .int .i64 k := by simpa using f0
  obtain rfl : c1 = .int .i64 q := by simpa using f1
  clear f0 f1 e0 e1
  have h2 : DataW.trod enc Try.prog W base (fun _ => true) hd n 32 [c2] = some y2 := h2
  obtain ⟨xs, hx⟩ : ∃ xs, Rd W c2 xs := by
    rcases open_ints Try.underlying32 Try.underlying5 (by kernel_rfl) h2 with ⟨hcs, _⟩ | ⟨x, l, c, zs, hcs, _, hl, hm, hz, _, hcell, hwz⟩
    · simp only [List.cons.injEq, and_true] at hcs
      rw [hcs]
      exact ⟨[], Rd.nil W⟩
    · simp only [List.cons.injEq, and_true] at hcs
      rw [hcs]
      exact rd_of_row hl hm (by simpa using hz) hcell hwz
  exact ⟨⟨k, q, xs⟩, c2, rfl, k0, k1, hx⟩
set_option maxRecDepth 100000 in
theorem act_arg {H : Type} {enc : TypeId × Value → H} {W : World} {r : Reach} {b0 base : Nat} {hd : Bool} {v : Value} {d : DataW H} {ps : List MemPlace} (hv : Value.okWide Try.prog W r b0 34 v)
    (h : DataW.Trod enc Try.prog W base (fun _ => true) hd 34 v d ps) : ∃ (a : ActV) (u : Value), v = .agg #[.int .i64 a.kind, .int .i64 a.plc, u] ∧ ActOk W a u := by
  obtain ⟨cs, rfl, _⟩ := okWide_struct Try.underlying34 hv
  obtain ⟨fuel, hf⟩ := h
  have hf : DataW.trod enc Try.prog W base (fun _ => true) hd fuel 34 cs.toList = some (d, ps) := hf
  obtain ⟨a, u, hcs, hok⟩ := act_cells hf
  refine ⟨a, u, ?_, hok⟩
  congr 1
  rw [← Array.toArray_toList (xs := cs), hcs]
theorem ex_acts {P : Nat → ActV → Prop} : ∀ (k : Nat), (∀ i, i < k → ∃ a, P i a) → ∃ L : List ActV, L.length = k ∧ ∀ i, i < k → P i (L.getD i act0)
  | 0, _ => ⟨[], rfl, fun i h => by omega⟩
  | k + 1, h => by
    obtain ⟨L, hl, hL⟩ := ex_acts k fun i hi => h i (by omega)
    obtain ⟨xs, hxs⟩ := h k (by omega)
    refine ⟨L ++ [xs], by simp [hl], fun i hi => ?_⟩
    by_cases e : i = k
    · subst e
      rw [List.getD, List.getElem?_append_right (by omega), hl, Nat.sub_self]
      exact hxs
    · rw [List.getD, List.getElem?_append_left (by omega)]
      exact hL i (by omega)
theorem acts_of_slice {H : Type} {enc : TypeId × Value → H} {W : World} {base : Nat} {hd : Bool} {len cap : Nat} {A : Option Addr} {d : DataW H} {ps : List MemPlace}
    (h : DataW.Trod enc Try.prog W base (fun _ => true) hd 22 (.slice A len cap) d ps) : ∃ L, Acts W (.slice A len cap) L := by
  obtain ⟨fuel, hf⟩ := h
  have hcs0 : (Value.slice A len cap).cells.toList = [.slice A len cap] := rfl
  rw [hcs0] at hf
  rcases Go.Deep.open_slice Try.underlying22 hf with ⟨h0, _⟩ | ⟨a, len', cap', m, n', D, Pl, hcs, hb, hl, hm, hmm, hx, hi⟩
  · simp only [List.cons.injEq, Value.slice.injEq, and_true] at h0
    obtain ⟨rfl, rfl, rfl⟩ := h0
    exact ⟨[], .inl ⟨none, 0, rfl, rfl⟩⟩
  · simp only [List.cons.injEq, Value.slice.injEq, and_true] at hcs
    obtain ⟨rfl, rfl, rfl⟩ := hcs
    have hlm : len ≤ m := by rw [hmm]; split <;> omega
    by_cases h0 : len = 0
    · subst h0
      exact ⟨[], .inl ⟨some a, cap, rfl, rfl⟩⟩
    · have key : ∀ i, i < len → ∃ q : ActV, ∃ u, W.cell? (a.add (i * 3)) = some (.int .i64 q.kind) ∧ W.cell? (a.add (i * 3 + 1)) = some (.int .i64 q.plc) ∧ W.cell? (a.add (i * 3 + 2)) = some u ∧ ActOk W q u := fun i hil => by
        obtain ⟨cs', hc, ht'⟩ := hi i (by omega)
        rw [cellsA] at hc
        obtain ⟨_, _, hat⟩ := World.cells?_some hc
        obtain ⟨q, u, rfl, hok⟩ := act_cells ht'
        have h0 := hat (i := 0) (by simp)
        have h1 := hat (i := 1) (by simp)
        have h2 := hat (i := 2) (by simp)
        rw [Go.Deep.add_add] at h0 h1 h2
        exact ⟨q, u, h0, h1, h2, hok⟩
      obtain ⟨L, hLl, hL⟩ := ex_acts len key
      obtain ⟨b, off, spot⟩ := a
      obtain ⟨_, h1, _⟩ := hL 0 (by omega)
      have hs : spot = none := by simpa [Addr.add] using World.cell?_spot h1
      subst hs
      have hadd : ∀ k, (⟨b, off, none⟩ : Addr).add k = ⟨b, off + k, none⟩ := fun k => by
        by_cases hk : k = 0
        · subst hk; rfl
        · simp [Addr.add, hk]
      refine ⟨L, .inr ⟨b, off, cap, by rw [hLl], ?_, by rw [hLl]; omega, fun i hi2 => ?_⟩⟩
      · rw [hadd] at h1
        exact World.block_lt_of_cell? W _ h1
      · obtain ⟨u, g0, g1, g2, g3⟩ := hL i (by omega)
        rw [hadd] at g0 g1 g2
        exact ⟨u, g0, g1, g2, g3⟩
end Go.Proofs.Ytkgbfghlonennaa
