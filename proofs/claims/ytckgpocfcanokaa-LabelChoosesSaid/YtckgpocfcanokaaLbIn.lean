/- A series, and a selector, that came in, read as such. No condition of its own. -/
import Derived.Test.YtckgpocfcanokaaLbRow
import Derived.Deep.Slices
import Derived.Deep.Strs
import Derived.Lib.SmallJoins
import Derived.ProofKit
namespace Go.Proofs.Ytckgpocfcanokaa
open Go.RowKit Go.ChangeShapes Go.WideShapes Go.ChangeAt

theorem cellsLS : Try.prog.cellsOf 9 = 1 := by kernel_rfl
theorem cellsLI : Try.prog.cellsOf 3 = 1 := by kernel_rfl
theorem cellsLL : Try.prog.cellsOf 39 = 2 := by kernel_rfl
theorem cellsLQ : Try.prog.cellsOf 41 = 3 := by kernel_rfl
theorem cellsLA : Try.prog.cellsOf 22 = 1 := by kernel_rfl
theorem cellsLB : Try.prog.cellsOf 26 = 1 := by kernel_rfl
theorem cellsL2 : Try.prog.cellsOf 24 = 2 := by kernel_rfl
theorem cellsL3 : Try.prog.cellsOf 28 = 2 := by kernel_rfl
theorem two_of {α : Type} {l : List α} (h : l.length = 2) : ∃ a b, l = [a, b] := by
  match l, h with
  | [a, b], _ => exact ⟨a, b, rfl⟩
theorem three_of {α : Type} {l : List α} (h : l.length = 3) : ∃ a b c, l = [a, b, c] := by
  match l, h with
  | [a, b, c], _ => exact ⟨a, b, c, rfl⟩
theorem lb_cells {H : Type} {enc : TypeId × Value → H} {W : World} {base fuel : Nat} {hd : Bool} {cs : List Value} {y : DataW H × List MemPlace} (h : DataW.trod enc Try.prog W base (fun _ => true) hd fuel 39 cs = some y) : ∃ q : Qu, cs = lbV q ∧ (q.n.size ≤ maxLen ∧ q.v.size ≤ maxLen ∧ q.g = 0) := by
  obtain ⟨y0, y1, n, _, hl, h0, h1⟩ := trod_struct2 Try.underlying39 h
  obtain ⟨c0, c1, rfl⟩ := two_of (hl.trans cellsLL)
  rw [cellsLS] at h0 h1
  obtain ⟨s, e0, _, k0⟩ := DataW.trod_string Try.underlying9 h0
  obtain ⟨t, e1, _, k1⟩ := DataW.trod_string Try.underlying9 h1
  have f0 : [c0] = [Value.string s] := e0
  have f1 : [c1] = [Value.string t] := e1
  obtain rfl : c0 = .string s := by simpa using f0
  obtain rfl : c1 = .string t := by simpa using f1
  exact ⟨⟨s, 0, t⟩, rfl, k0, k1, rfl⟩
theorem qu_cells {H : Type} {enc : TypeId × Value → H} {W : World} {base fuel : Nat} {hd : Bool} {cs : List Value} {y : DataW H × List MemPlace} (h : DataW.trod enc Try.prog W base (fun _ => true) hd fuel 41 cs = some y) : ∃ q : Qu, cs = quV q ∧ (q.n.size ≤ maxLen ∧ q.v.size ≤ maxLen ∧ (Lit.int .i64 q.g).wf = true) := by
  obtain ⟨y0, y1, y2, n, _, hl, h0, h1, h2⟩ := Go.Deep.trod_struct3 Try.underlying41 h
  obtain ⟨c0, c1, c2, rfl⟩ := three_of (hl.trans cellsLQ)
  rw [cellsLS] at h0 h2
  rw [cellsLI] at h1
  obtain ⟨s, e0, _, k0⟩ := DataW.trod_string Try.underlying9 h0
  obtain ⟨g, e1, _, k1⟩ := DataW.trod_int Try.underlying3 h1
  obtain ⟨t, e2, _, k2⟩ := DataW.trod_string Try.underlying9 h2
  have f0 : [c0] = [Value.string s] := e0
  have f1 : [c1] = [Value.int .i64 g] := e1
  have f2 : [c2] = [Value.string t] := e2
  obtain rfl : c0 = .string s := by simpa using f0
  obtain rfl : c1 = .int .i64 g := by simpa using f1
  obtain rfl : c2 = .string t := by simpa using f2
  exact ⟨⟨s, g, t⟩, rfl, k0, k2, k1⟩
def qu0 : Qu := ⟨ByteArray.empty, 0, ByteArray.empty⟩
theorem ex_qus {P : Nat → Qu → Prop} : ∀ (k : Nat), (∀ i, i < k → ∃ a, P i a) → ∃ L : List Qu, L.length = k ∧ ∀ i, i < k → P i (L.getD i qu0)
  | 0, _ => ⟨[], rfl, fun i h => by omega⟩
  | k + 1, h => by
    obtain ⟨L, hl, hL⟩ := ex_qus k fun i hi => h i (by omega)
    obtain ⟨xs, hxs⟩ := h k (by omega)
    refine ⟨L ++ [xs], by simp [hl], fun i hi => ?_⟩
    by_cases e : i = k
    · subst e
      rw [List.getD, List.getElem?_append_right (by omega), hl, Nat.sub_self]
      exact hxs
    · rw [List.getD, List.getElem?_append_left (by omega)]
      exact hL i (by omega)
/-- A row of structs in memory, read one by one. -/
theorem rows_of {W : World} {cellsV : Qu → List Value} {ok : Qu → Prop} {k : Nat} (hk : ∀ q, (cellsV q).length = k) (h0 : 0 < k) {a : Addr} {len cap : Nat} (hm : len ≤ maxLen) (key : ∀ i, i < len → ∃ q : Qu, (∀ j v, (cellsV q)[j]? = some v → W.cell? (a.add (i * k + j)) = some v) ∧ ok q) :
    ∃ L : List Qu, RsE k W (.slice (some a) len cap) (L.map cellsV) ∧ ∀ q ∈ L, ok q := by
  obtain ⟨L, hLl, hL⟩ := ex_qus len key
  have hg : ∀ i (h : i < L.length), L.getD i qu0 = L[i] := fun i h => by rw [List.getD, List.getElem?_eq_getElem h]; rfl
  refine ⟨L, ⟨⟨some a, cap, by rw [List.length_map, hLl], by rw [List.length_map, hLl]; exact hm, fun i hi2 => ?_⟩, fun n c e => by injection e with e _ _; cases e⟩, fun q hq => ?_⟩
  · rw [List.length_map] at hi2
    obtain ⟨h1, h2⟩ := hL i (by omega)
    rw [hg i hi2] at h1 h2
    obtain ⟨b, off, spot⟩ := a
    obtain ⟨v0, hv0⟩ : ∃ v0, (cellsV (L.getD 0 qu0))[0]? = some v0 := ⟨_, List.getElem?_eq_getElem (by rw [hk]; exact h0)⟩
    have h3 := (hL 0 (by omega)).1 0 _ hv0
    have hs : spot = none := by simpa [Addr.add] using World.cell?_spot h3
    subst hs
    have hadd : ∀ k, (⟨b, off, none⟩ : Addr).add k = ⟨b, off + k, none⟩ := fun k => by
      by_cases hk : k = 0
      · subst hk; rfl
      · simp [Addr.add, hk]
    refine ⟨b, off, rfl, ?_, fun j v hj => ?_⟩
    · rw [hadd] at h3
      exact World.block_lt_of_cell? W _ h3
    · rw [List.getElem_map] at hj
      have h4 := h1 j v hj
      rw [hadd] at h4
      rw [Nat.add_assoc]
      exact h4
  · obtain ⟨i, hi, rfl⟩ := List.getElem_of_mem hq
    have h1 := (hL i (by omega)).2
    rw [hg i hi] at h1
    exact h1
theorem lbs_of {H : Type} {enc : TypeId × Value → H} {W : World} {base fuel : Nat} {hd : Bool} {c : Value} {y : DataW H × List MemPlace} (h : DataW.trod enc Try.prog W base (fun _ => true) hd fuel 22 [c] = some y) : ∃ L, RsLb W c L := by
  rcases Go.Deep.open_slice Try.underlying22 h with ⟨h0, _⟩ | ⟨a, len', cap', m, n', D, Pl, hcs, hb, hl, hm, hmm, hx, hi⟩
  · simp only [List.cons.injEq, and_true] at h0
    subst h0
    exact ⟨[], ⟨⟨none, 0, rfl, Nat.zero_le _, fun i hi => by cases hi⟩, fun n c e => by injection e with _ _ e; exact e.symm⟩, fun q hq => (List.not_mem_nil hq).elim⟩
  · simp only [List.cons.injEq, and_true] at hcs
    subst hcs
    have hlm : len' ≤ m := by rw [hmm]; split <;> omega
    obtain ⟨L, h1, h2⟩ := rows_of (W := W) (cellsV := lbV) (ok := fun q => q.n.size ≤ maxLen ∧ q.v.size ≤ maxLen ∧ q.g = 0) (k := 2) (fun _ => rfl) (by decide) (a := a) (len := len') (cap := cap') (by omega) fun i hil => by
      obtain ⟨cs', hc, ht'⟩ := hi i (by omega)
      rw [cellsLL] at hc
      obtain ⟨_, _, hat⟩ := World.cells?_some hc
      obtain ⟨p, rfl, hok⟩ := lb_cells ht'
      refine ⟨p, fun j v hj => ?_, hok⟩
      have hjl := (List.getElem?_eq_some_iff.1 hj).1
      have h0 := hat (i := j) hjl
      rw [Go.Deep.add_add] at h0
      rw [h0]
      exact hj
    exact ⟨L, h1, h2⟩
theorem qus_of {H : Type} {enc : TypeId × Value → H} {W : World} {base fuel : Nat} {hd : Bool} {c : Value} {y : DataW H × List MemPlace} (h : DataW.trod enc Try.prog W base (fun _ => true) hd fuel 26 [c] = some y) : ∃ L, RsQu W c L := by
  rcases Go.Deep.open_slice Try.underlying26 h with ⟨h0, _⟩ | ⟨a, len', cap', m, n', D, Pl, hcs, hb, hl, hm, hmm, hx, hi⟩
  · simp only [List.cons.injEq, and_true] at h0
    subst h0
    exact ⟨[], ⟨⟨none, 0, rfl, Nat.zero_le _, fun i hi => by cases hi⟩, fun n c e => by injection e with _ _ e; exact e.symm⟩, fun q hq => (List.not_mem_nil hq).elim⟩
  · simp only [List.cons.injEq, and_true] at hcs
    subst hcs
    have hlm : len' ≤ m := by rw [hmm]; split <;> omega
    obtain ⟨L, h1, h2⟩ := rows_of (W := W) (cellsV := quV) (ok := fun q => q.n.size ≤ maxLen ∧ q.v.size ≤ maxLen ∧ (Lit.int .i64 q.g).wf = true) (k := 3) (fun _ => rfl) (by decide) (a := a) (len := len') (cap := cap') (by omega) fun i hil => by
      obtain ⟨cs', hc, ht'⟩ := hi i (by omega)
      rw [cellsLQ] at hc
      obtain ⟨_, _, hat⟩ := World.cells?_some hc
      obtain ⟨p, rfl, hok⟩ := qu_cells ht'
      refine ⟨p, fun j v hj => ?_, hok⟩
      have hjl := (List.getElem?_eq_some_iff.1 hj).1
      have h0 := hat (i := j) hjl
      rw [Go.Deep.add_add] at h0
      rw [h0]
      exact hj
    exact ⟨L, h1, h2⟩
set_option maxRecDepth 100000 in
theorem ser_arg {H : Type} {enc : TypeId × Value → H} {W : World} {r : Reach} {b0 base : Nat} {hd : Bool} {v : Value} {d : DataW H} {ps : List MemPlace} (hv : Value.okWide Try.prog W r b0 24 v)
    (h : DataW.Trod enc Try.prog W base (fun _ => true) hd 24 v d ps) : ∃ n u ls, v = .agg #[.string n, u] ∧ RsLb W u ls ∧ n.size ≤ maxLen := by
  obtain ⟨cs, rfl, _⟩ := okWide_struct Try.underlying24 hv
  obtain ⟨fuel, hf⟩ := h
  have hf : DataW.trod enc Try.prog W base (fun _ => true) hd fuel 24 cs.toList = some (d, ps) := hf
  obtain ⟨y0, y1, n, _, hl, h0, h1⟩ := trod_struct2 Try.underlying24 hf
  obtain ⟨c0, c1, hcs⟩ := two_of (hl.trans cellsL2)
  rw [hcs] at h0 h1
  rw [cellsLS] at h0
  rw [cellsLA] at h1
  obtain ⟨s, e0, _, k0⟩ := DataW.trod_string Try.underlying9 h0
  have f0 : [c0] = [Value.string s] := e0
  obtain rfl : c0 = .string s := by simpa using f0
  have h1 : DataW.trod enc Try.prog W base (fun _ => true) hd n 22 [c1] = some y1 := h1
  obtain ⟨L, hL⟩ := lbs_of h1
  refine ⟨s, c1, L, ?_, hL, k0⟩
  congr 1
  rw [← Array.toArray_toList (xs := cs), hcs]
set_option maxRecDepth 100000 in
theorem sel_arg {H : Type} {enc : TypeId × Value → H} {W : World} {r : Reach} {b0 base : Nat} {hd : Bool} {v : Value} {d : DataW H} {ps : List MemPlace} (hv : Value.okWide Try.prog W r b0 28 v)
    (h : DataW.Trod enc Try.prog W base (fun _ => true) hd 28 v d ps) : ∃ n u ls, v = .agg #[.string n, u] ∧ RsQu W u ls ∧ n.size ≤ maxLen := by
  obtain ⟨cs, rfl, _⟩ := okWide_struct Try.underlying28 hv
  obtain ⟨fuel, hf⟩ := h
  have hf : DataW.trod enc Try.prog W base (fun _ => true) hd fuel 28 cs.toList = some (d, ps) := hf
  obtain ⟨y0, y1, n, _, hl, h0, h1⟩ := trod_struct2 Try.underlying28 hf
  obtain ⟨c0, c1, hcs⟩ := two_of (hl.trans cellsL3)
  rw [hcs] at h0 h1
  rw [cellsLS] at h0
  rw [cellsLB] at h1
  obtain ⟨s, e0, _, k0⟩ := DataW.trod_string Try.underlying9 h0
  have f0 : [c0] = [Value.string s] := e0
  obtain rfl : c0 = .string s := by simpa using f0
  have h1 : DataW.trod enc Try.prog W base (fun _ => true) hd n 26 [c1] = some y1 := h1
  obtain ⟨L, hL⟩ := qus_of h1
  refine ⟨s, c1, L, ?_, hL, k0⟩
  congr 1
  rw [← Array.toArray_toList (xs := cs), hcs]
end Go.Proofs.Ytckgpocfcanokaa
