/- Part 15 of the words that the laws share: PcIn. No condition of its own: each theorem says its own. -/
import Derived.Test.YtcicdbhffkpldaaPart4
import Derived.Deep.Slices
import Derived.Deep.Strs
import Derived.Lib.SmallJoins
import Derived.ProofKit

/- A piece, and a slice of pieces, that came in, read as pieces. No condition of its own. -/
namespace Go.Proofs.Ytcicdbhffkpldaa
open Go.RowKit Go.ChangeShapes Go.WideShapes Go.ChangeAt

theorem cellsS9 : Try.prog.cellsOf 9 = 1 := by kernel_rfl
theorem cellsT9 : Try.prog.cellsOf 2 = 1 := by kernel_rfl
theorem cellsN9 : Try.prog.cellsOf 38 = 1 := by kernel_rfl
theorem cellsO9 : Try.prog.cellsOf 42 = 1 := by kernel_rfl
theorem cellsD9 : Try.prog.cellsOf 44 = 2 := by kernel_rfl
theorem cellsP9 : Try.prog.cellsOf 46 = 5 := by kernel_rfl
theorem five9 {α : Type} {l : List α} (h : l.length = 5) : ∃ a b c d e, l = [a, b, c, d, e] := by
  match l, h with
  | [a, b, c, d, e], _ => exact ⟨a, b, c, d, e, rfl⟩
theorem pc_cells {H : Type} {enc : TypeId × Value → H} {W : World} {base fuel : Nat} {hd : Bool} {cs : List Value} {y : DataW H × List MemPlace} (h : DataW.trod enc Try.prog W base (fun _ => true) hd fuel 46 cs = some y) : ∃ p : Pc, cs = p.vs ∧ p.Ok := by
  obtain ⟨y0, y1, y2, y3, n, _, hl, h0, h1, h2, h3⟩ := Go.Joins.trod_struct4 Try.underlying46 h
  obtain ⟨c0, c1, c2, c3, c4, rfl⟩ := five9 (hl.trans cellsP9)
  rw [cellsS9] at h0
  rw [cellsT9] at h1 h2
  rw [cellsD9] at h3
  obtain ⟨s, e0, _, k0⟩ := DataW.trod_string Try.underlying9 h0
  obtain ⟨t, e1, _, k1⟩ := DataW.trod_int Try.underlying2 h1
  obtain ⟨v, e2, _, k2⟩ := DataW.trod_int Try.underlying2 h2
  have f0 : [c0] = [Value.string s] := e0
  have f1 : [c1] = [Value.int .i64 t] := e1
  have f2 : [c2] = [Value.int .i64 v] := e2
  obtain rfl : c0 = .string s := by simpa using f0
  obtain rfl : c1 = .int .i64 t := by simpa using f1
  obtain rfl : c2 = .int .i64 v := by simpa using f2
  have h3 : DataW.trod enc Try.prog W base (fun _ => true) hd n 44 [c3, c4] = some y3 := h3
  obtain ⟨z0, z1, m, _, _, g0, g1⟩ := trod_struct2 Try.underlying44 h3
  rw [cellsN9] at g0
  rw [cellsO9] at g1
  obtain ⟨a, e3, _, k3⟩ := DataW.trod_int Try.underlying38 g0
  obtain ⟨b, e4, _, k4⟩ := DataW.trod_int Try.underlying42 g1
  have f3 : [c3] = [Value.int .u64 a] := e3
  have f4 : [c4] = [Value.int .u16 b] := e4
  obtain rfl : c3 = .int .u64 a := by simpa using f3
  obtain rfl : c4 = .int .u16 b := by simpa using f4
  simp [Lit.wf, IntKind.min, IntKind.max, IntKind.signed, IntKind.bits] at k3 k4
  refine ⟨⟨s, t, v, a.toNat, b.toNat⟩, ?_, ⟨k0, k1, k2, by show a.toNat < _; omega, by show b.toNat < _; omega⟩⟩
  unfold Pc.vs
  rw [show ((a.toNat : Nat) : Int) = a by omega, show ((b.toNat : Nat) : Int) = b by omega]
set_option maxRecDepth 100000 in
theorem pc_arg {H : Type} {enc : TypeId × Value → H} {W : World} {r : Reach} {b0 base : Nat} {hd : Bool} {v : Value} {d : DataW H} {ps : List MemPlace} (hv : Value.okWide Try.prog W r b0 46 v)
    (h : DataW.Trod enc Try.prog W base (fun _ => true) hd 46 v d ps) : ∃ p : Pc, v = .agg p.vs.toArray ∧ p.Ok := by
  obtain ⟨cs, rfl, _⟩ := okWide_struct Try.underlying46 hv
  obtain ⟨fuel, hf⟩ := h
  have hf : DataW.trod enc Try.prog W base (fun _ => true) hd fuel 46 cs.toList = some (d, ps) := hf
  obtain ⟨p, hcs, hok⟩ := pc_cells hf
  refine ⟨p, ?_, hok⟩
  congr 1
  rw [← Array.toArray_toList (xs := cs), hcs]
def pc0 : Pc := ⟨ByteArray.empty, 0, 0, 0, 0⟩
theorem ex_pcs {P : Nat → Pc → Prop} : ∀ (k : Nat), (∀ i, i < k → ∃ a, P i a) → ∃ L : List Pc, L.length = k ∧ ∀ i, i < k → P i (L.getD i pc0)
  | 0, _ => ⟨[], rfl, fun i h => by omega⟩
  | k + 1, h => by
    obtain ⟨L, hl, hL⟩ := ex_pcs k fun i hi => h i (by omega)
    obtain ⟨xs, hxs⟩ := h k (by omega)
    refine ⟨L ++ [xs], by simp [hl], fun i hi => ?_⟩
    by_cases e : i = k
    · subst e
      rw [List.getD, List.getElem?_append_right (by omega), hl, Nat.sub_self]
      exact hxs
    · rw [List.getD, List.getElem?_append_left (by omega)]
      exact hL i (by omega)
theorem pcs_of_slice {H : Type} {enc : TypeId × Value → H} {W : World} {base : Nat} {hd : Bool} {len cap : Nat} {A : Option Addr} {d : DataW H} {ps : List MemPlace}
    (h : DataW.Trod enc Try.prog W base (fun _ => true) hd 22 (.slice A len cap) d ps) : ∃ L, RsP W (.slice A len cap) L := by
  obtain ⟨fuel, hf⟩ := h
  have hcs0 : (Value.slice A len cap).cells.toList = [.slice A len cap] := rfl
  rw [hcs0] at hf
  rcases Go.Deep.open_slice Try.underlying22 hf with ⟨h0, _⟩ | ⟨a, len', cap', m, n', D, Pl, hcs, hb, hl, hm, hmm, hx, hi⟩
  · simp only [List.cons.injEq, Value.slice.injEq, and_true] at h0
    obtain ⟨rfl, rfl, rfl⟩ := h0
    exact ⟨[], ⟨none, 0, rfl, Nat.zero_le _, fun i hi => by cases hi⟩, fun n c e => (by injection e with _ _ e; exact e.symm), fun A' n' c' e => by injection e with _ e1 e2; omega⟩
  · simp only [List.cons.injEq, Value.slice.injEq, and_true] at hcs
    obtain ⟨rfl, rfl, rfl⟩ := hcs
    have hlm : len ≤ m := by rw [hmm]; split <;> omega
    have key : ∀ i, i < len → ∃ p : Pc, (∀ j v, p.vs[j]? = some v → W.cell? (a.add (i * 5 + j)) = some v) ∧ p.Ok := fun i hil => by
      obtain ⟨cs', hc, ht'⟩ := hi i (by omega)
      rw [cellsP9] at hc
      obtain ⟨_, _, hat⟩ := World.cells?_some hc
      obtain ⟨p, rfl, hok⟩ := pc_cells ht'
      refine ⟨p, fun j v hj => ?_, hok⟩
      have hjl := (List.getElem?_eq_some_iff.1 hj).1
      have h0 := hat (i := j) hjl
      rw [Go.Deep.add_add] at h0
      rw [h0]
      exact hj
    obtain ⟨L, hLl, hL⟩ := ex_pcs len key
    refine ⟨L, ⟨some a, cap, by rw [hLl], by rw [hLl]; omega, fun i hi2 => ?_⟩, fun n c e => (by injection e with e _ _; cases e), fun A' n' c' e => by injection e with _ e1 e2; omega⟩
    obtain ⟨h1, h2⟩ := hL i (by omega)
    have e2 : L.getD i pc0 = L[i] := by rw [List.getD, List.getElem?_eq_getElem hi2]; rfl
    rw [e2] at h1 h2
    obtain ⟨b, off, spot⟩ := a
    have h3 := (hL 0 (by omega)).1 0 _ rfl
    have hs : spot = none := by simpa [Addr.add] using World.cell?_spot h3
    subst hs
    have hadd : ∀ k, (⟨b, off, none⟩ : Addr).add k = ⟨b, off + k, none⟩ := fun k => by
      by_cases hk : k = 0
      · subst hk; rfl
      · simp [Addr.add, hk]
    refine ⟨b, off, rfl, ?_, fun j v hj => ?_, h2⟩
    · rw [hadd] at h3
      exact World.block_lt_of_cell? W _ h3
    · have h4 := h1 j v hj
      rw [hadd] at h4
      rw [Nat.add_assoc]
      exact h4
end Go.Proofs.Ytcicdbhffkpldaa
