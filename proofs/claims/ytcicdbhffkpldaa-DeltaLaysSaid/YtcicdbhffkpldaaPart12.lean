/- Part 12 of the words that the laws share: Rfl, Srow, SrowB, PcApp, RowsV. No condition of its own: each theorem says its own. -/
import Derived.Test.YtcicdbhffkpldaaPart9
import Derived.Test.YtcicdbhffkpldaaPart11
import Derived.Test.YtcicdbhffkpldaaPart4
import Derived.Great.BuildSlice
import Derived.Deep.MidRow
import Derived.Maps.AppendAt
import Derived.Laws.AppendOwnNone

/- Slices of elements that are bytes alone (arrays, structs of bytes): what they read as; rows of the call's own; append of one element; a literal of one element; a struct of a byte and an array put together. No condition of its own. -/
namespace Go.Proofs.Ytcicdbhffkpldaa
open Go.RowKit

/-- The slice v reads as the elements L, each of n bytes. -/
def Rf (n : Nat) (w : World) (v : Value) (L : List (List UInt8)) : Prop :=
  (∀ l ∈ L, l.length = n) ∧
  ((∃ A c, v = .slice A 0 c ∧ c ≤ maxLen ∧ L = []) ∨
   ∃ b off c, v = .slice (some ⟨b, off, none⟩) L.length c ∧ b < w.heap.size ∧ L.length ≤ c ∧ c ≤ maxLen ∧ ∀ i j, i < L.length → j < n → w.cell? ⟨b, off + i * n + j, none⟩ = some (bv ((L.getD i []).getD j 0)))
theorem Rf.keep {n : Nat} {w w' : World} {v : Value} {L : List (List UInt8)} (h : Rf n w v L) (hs : w.heap.size ≤ w'.heap.size) (hk : ∀ p : Addr, p.block < w.heap.size → w'.cell? p = w.cell? p) : Rf n w' v L := by
  refine ⟨h.1, ?_⟩
  rcases h.2 with h | ⟨b, off, c, h1, h2, h3, h4, h5⟩
  · exact .inl h
  · exact .inr ⟨b, off, c, h1, by omega, h3, h4, fun i j hi hj => (hk _ h2).trans (h5 i j hi hj)⟩
theorem Rf.below {n : Nat} {w w' : World} {v : Value} {L : List (List UInt8)} (h : Rf n w v L) (hb : Below w.heap.size w w') : Rf n w' v L := h.keep hb.size fun _ hp => hb.cell hp
theorem Rf.drewN {n : Nat} {w : World} {v : Value} {L : List (List UInt8)} (h : Rf n w v L) (m : Nat) : Rf n (w.drewN m) v L := h
theorem Rf.empty {n : Nat} (w : World) (A : Option Addr) (c : Nat) (hc : c ≤ maxLen) : Rf n w (.slice A 0 c) [] := ⟨fun _ h => (List.not_mem_nil h).elim, .inl ⟨A, c, rfl, hc, rfl⟩⟩
theorem Rf.form {n : Nat} {w : World} {v : Value} {L : List (List UInt8)} (h : Rf n w v L) : ∃ A c, v = .slice A L.length c ∧ L.length ≤ c ∧ c ≤ maxLen ∧
    (0 < L.length → ∃ b off, A = some ⟨b, off, none⟩ ∧ b < w.heap.size ∧ ∀ i j, i < L.length → j < n → w.cell? ⟨b, off + i * n + j, none⟩ = some (bv ((L.getD i []).getD j 0))) := by
  rcases h.2 with ⟨A, c, rfl, hc, rfl⟩ | ⟨b, off, c, rfl, h2, h3, h4, h5⟩
  · exact ⟨A, c, rfl, Nat.zero_le _, hc, fun h => absurd h (by simp)⟩
  · exact ⟨_, c, rfl, h3, h4, fun _ => ⟨b, off, rfl, h2, h5⟩⟩
theorem len_get {n : Nat} {L : List (List UInt8)} (h : ∀ l ∈ L, l.length = n) {i : Nat} (hi : i < L.length) : (L.getD i []).length = n := by
  rw [List.getD, List.getElem?_eq_getElem hi]
  exact h _ (List.getElem_mem hi)
/-- An element as a range of cells. -/
theorem el_range {n : Nat} {w : World} {b off : Nat} {L : List (List UInt8)} (hl : ∀ l ∈ L, l.length = n) (h5 : ∀ i j, i < L.length → j < n → w.cell? ⟨b, off + i * n + j, none⟩ = some (bv ((L.getD i []).getD j 0))) {i : Nat} (hi : i < L.length) : w.rangeAt b (off + i * n) ((L.getD i []).map bv) := fun j v hv => by
  have hln := len_get hl hi
  have hj : j < n := by
    rcases Nat.lt_or_ge j (L.getD i []).length with h | h
    · omega
    · rw [List.getElem?_eq_none (by simpa using h)] at hv; cases hv
  rw [h5 i j hi hj]
  rw [List.getElem?_map, List.getElem?_eq_getElem (by omega)] at hv
  rw [← hv]
  congr 1
  rw [List.getD, List.getElem?_eq_getElem (by omega)]
  rfl
/-- A piece of an element as a range of cells. -/
theorem el_range_from {n : Nat} {w : World} {b off : Nat} {L : List (List UInt8)} (hl : ∀ l ∈ L, l.length = n) (h5 : ∀ i j, i < L.length → j < n → w.cell? ⟨b, off + i * n + j, none⟩ = some (bv ((L.getD i []).getD j 0))) {i : Nat} (hi : i < L.length) (k : Nat) : w.rangeAt b (off + i * n + k) (((L.getD i []).drop k).map bv) := fun j v hv => by
  have h := el_range hl h5 hi (k + j) v (by rw [List.getElem?_map] at hv ⊢; rw [List.getElem?_drop] at hv; exact hv)
  rw [show off + i * n + k + j = off + i * n + (k + j) by omega]
  exact h
/-- A row of the call's own. -/
def OwnF (n : Nat) (w : World) (base : Nat) (e : TypeId) (v : Value) (L : List (List UInt8)) : Prop := (∀ l ∈ L, l.length = n) ∧ w.ownsRow base e n v L.length (L.flatten.map bv)
theorem flat_get : ∀ {n : Nat} {L : List (List UInt8)}, (∀ l ∈ L, l.length = n) → ∀ i j, i < L.length → j < n → L.flatten[i * n + j]? = some ((L.getD i []).getD j 0)
  | n, l :: L, h, 0, j, _, hj => by
    have hl := h l (List.mem_cons_self ..)
    rw [List.flatten_cons, Nat.zero_mul, Nat.zero_add, List.getElem?_append_left (by omega), List.getElem?_eq_getElem (by omega), List.getD_cons_zero, List.getD, List.getElem?_eq_getElem (by omega)]
    rfl
  | n, l :: L, h, i + 1, j, hi, hj => by
    have hl := h l (List.mem_cons_self ..)
    have e : (i + 1) * n + j = l.length + (i * n + j) := by rw [Nat.add_mul, hl]; omega
    rw [List.flatten_cons, e, List.getElem?_append_right (by omega), Nat.add_sub_cancel_left, List.getD_cons_succ]
    exact flat_get (fun l hl => h l (List.mem_cons_of_mem _ hl)) i j (by simpa using hi) hj
theorem flat_length : ∀ {n : Nat} {L : List (List UInt8)}, (∀ l ∈ L, l.length = n) → L.flatten.length = L.length * n
  | n, [], _ => by simp
  | n, l :: L, h => by
    rw [List.flatten_cons, List.length_append, h l (List.mem_cons_self ..), flat_length (fun l hl => h l (List.mem_cons_of_mem _ hl)), List.length_cons, Nat.add_mul]
    omega
theorem OwnF.nil (n : Nat) (w : World) (base : Nat) (e : TypeId) : OwnF n w base e (.slice none 0 0) [] := ⟨fun _ h => (List.not_mem_nil h).elim, ⟨by simp, .inl ⟨rfl, rfl⟩⟩⟩
theorem OwnF.rf {n : Nat} {w : World} {base : Nat} {e : TypeId} {v : Value} {L : List (List UInt8)} (h : OwnF n w base e v L) : Rf n w v L := by
  refine ⟨h.1, ?_⟩
  rcases h.2.2 with ⟨rfl, h0⟩ | ⟨g, cap, cur, hv, hbg, hgh, hnc, hcm, hcs, htk⟩
  · exact .inl ⟨none, 0, rfl, Nat.zero_le _, List.eq_nil_of_length_eq_zero h0⟩
  · subst hv
    have hlt : g < w.heap.size := by
      rcases Nat.lt_or_ge g w.heap.size with h | h
      · exact h
      · rw [Array.getElem?_eq_none h] at hgh; cases hgh
    refine .inr ⟨g, 0, cap, rfl, hlt, hnc, hcm, fun i j hi hj => ?_⟩
    have hij : i * n + j < L.length * n := by
      have h1 : (i + 1) * n ≤ L.length * n := Nat.mul_le_mul_right n hi
      rw [Nat.add_mul] at h1
      omega
    rw [Nat.zero_add, h.2.cellAt (i * n + j) hij, List.getElem?_map, flat_get h.1 i j hi hj]
    rfl
theorem OwnF.lain {n : Nat} {w w' : World} {base : Nat} {e : TypeId} {v : Value} {L : List (List UInt8)} (h : OwnF n w base e v L) (hb : Below w.heap.size w w') : OwnF n w' base e v L := by
  refine ⟨h.1, h.2.kept (row := none) ⟨hb.os, hb.tape, hb.output, hb.size, fun k hk _ => hb.block k hk⟩ ?_⟩
  by_cases h0 : v.ownBlock = none
  · exact .inl h0
  · exact .inr h0
theorem OwnF.mono {n : Nat} {w : World} {base base' : Nat} {e : TypeId} {v : Value} {L : List (List UInt8)} (h : OwnF n w base e v L) (hb : base' ≤ base) : OwnF n w base' e v L :=
  ⟨h.1, h.2.1, h.2.2.imp id fun ⟨g, cap, cur, h1, h2, h3⟩ => ⟨g, cap, cur, h1, Nat.le_trans hb h2, h3⟩⟩
/-- Another block is stored to. -/
theorem OwnF.sole {n : Nat} {w w' : World} {base B : Nat} {e : TypeId} {v : Value} {L : List (List UInt8)} (h : OwnF n w base e v L) (hs : Sole w w' B) (hne : v.ownBlock ≠ some B) : OwnF n w' base e v L :=
  ⟨h.1, h.2.kept (row := some B) ⟨hs.below.os, hs.below.tape, hs.below.output, Nat.le_of_eq hs.size.symm, fun k _ hk => hs.other k (fun e => hk (by rw [e]))⟩ (.inr hne)⟩
theorem OwnF.lt {n : Nat} {w : World} {base : Nat} {e : TypeId} {v : Value} {L : List (List UInt8)} (h : OwnF n w base e v L) : ∀ k, v.ownBlock = some k → base ≤ k ∧ k < w.heap.size := fun k hk => h.2.lt k hk
/-- append of one element, which lies in a new block of its own, onto a row of the call's own. -/
theorem wpList_append_el {P : Program} (w : World) (sh : List UInt8) (e0 : TypeId) {ops : Array Oper} {rest : List Oper} {o : Oper} {a : Act} {Q : Exit → Act → World → Prop} (hgd : o.guard = none) (s x : Operand) (t : TypeId)
    (ho : o.op = .call { callee := .builtin .append, args := #[s, x], argTypes := #[t, t] })
    (base : Nat) (e : TypeId) (i : TypeInfo) (z : Value) (n bytes : Nat) (ht : P.underlying t = some (.slice e)) (hi : P.info? e = some i) (hz : i.zero = some z)
    (hsize : i.size = n) (hby : i.bytes = bytes) (hzs : z.cells.size = n) (hn : 0 < n)
    (v : Value) (L : List (List UInt8)) (hs : a.eval s = v) (hown : OwnF n w base e v L) (hsh : sh.length = n)
    (hx : a.eval x = .slice (some ⟨w.heap.size, 0, none⟩) 1 1)
    (h63 : L.length + 1 ≤ maxLen) (hb : (L.length + 1) * bytes ≤ 140737488355328) (hbase : base ≤ w.heap.size)
    (h : ∀ v' w', OwnF n w' base e v' (L ++ [sh]) → Next w w' base v v' → wpList P ops Q rest (a.put o.dst v') w') : wpList P ops Q (o :: rest) a (w.alloc (.cells (sh.map bv).toArray e0)) := by
  refine wpList_plain hgd fun K hK => ?_
  obtain ⟨v', w', hr, h2, h3, _, h5⟩ := run_append_own_at (P := P) (w.alloc (.cells (sh.map bv).toArray e0)) base t o.type e i z n bytes ht hi hz hsize hby hzs hn v L.length (L.flatten.map bv) (hown.2.alloc _) ⟨w.heap.size, 0, none⟩ 1 1 (sh.map bv) (by rw [List.length_map, hsh, Nat.one_mul]) (World.news_of_block (cs := (sh.map bv).toArray) (t := e0) (fr := (0, 0)) (heap_alloc_new w _)) (bv_one sh) h63 hb (by simp; omega)
  unfold Oper.wp execOp
  simp only [ho, resolve, invoke, builtin, Sem.run_bind, Sem.run_pure, Result.andThen_ok, List.map_toArray, List.map_cons, List.map_nil, hs, hx, hr]
  refine hK _ _ (h v' w' ⟨fun l hl => ?_, ?_⟩ ⟨((Below.refl _ _).alloc hbase _).grown h3 (by simp; omega) (fun k hk => (hown.lt k hk).1), ?_, fun k hk hne => ?_, ?_⟩)
  · rcases List.mem_append.1 hl with h1 | h1
    · exact hown.1 l h1
    · rw [List.mem_singleton.1 h1]; exact hsh
  · have e1 : (L ++ [sh]).flatten.map bv = L.flatten.map bv ++ sh.map bv := by rw [List.flatten_append, List.map_append, List.flatten_singleton]
    rw [e1, List.length_append]
    exact h2
  · have := h3.size; simp at this; omega
  · exact (h3.block k (by simp; omega) hne).trans (Below.heap_alloc w _ k hk)
  · rcases h5 with e5 | e5
    · exact .inl e5
    · exact .inr ⟨_, e5, by simp⟩
/-- Another own row stays behind such an append. -/
theorem OwnF.next {n : Nat} {w w' : World} {base : Nat} {e : TypeId} {u v v' : Value} {L : List (List UInt8)} (h : OwnF n w base e u L) (hn : Next w w' base v v') (hap : Apart2 u v) : OwnF n w' base e u L := by
  refine ⟨h.1, h.2.kept (row := v.ownBlock) ⟨hn.below.os, hn.below.tape, hn.below.output, hn.size, hn.heap⟩ ?_⟩
  cases hb : u.ownBlock with
  | none => exact .inl rfl
  | some k => exact .inr (fun e => hap k hb (by rw [← e]))
/-- A slice of one element. -/
theorem wpList_build_el {P : Program} {ops : Array Oper} {rest : List Oper} {o : Oper} {a : Act} {w : World} {Q : Exit → Act → World → Prop} (hg : o.guard = none) (t e : TypeId) (x : Operand) (ho : o.op = .buildSlice t 1 #[(0, x)])
    (ie : TypeInfo) (z : Value) (n : Nat) (hu : P.underlying t = some (.slice e)) (hie : P.info? e = some ie) (hz : ie.zero = some z) (hn : ie.size = n) (h0 : 0 < n) (hb : n ≤ 1000)
    (sh : List UInt8) (hsh : sh.length = n) (hx : a.eval x = .agg (sh.map bv).toArray)
    (h : wpList P ops Q rest (a.put o.dst (.slice (some ⟨w.heap.size, 0, none⟩) 1 1)) (w.alloc (.cells (sh.map bv).toArray e))) : wpList P ops Q (o :: rest) a w := by
  subst hn
  refine wpList_buildSlice hg t e 1 #[(0, x)] ho (sh.map bv).toArray ie z hu hie hz (by omega) (by omega) ?_ h
  have hp : (#[(0, x)].map fun (i, x) => (i, a.eval x)).toList = (([Value.agg (sh.map bv).toArray].zipIdx 0).map fun x => (x.2, x.1)) := by simp [hx]
  rw [hp]
  obtain ⟨r, hr, hrs, hk⟩ := Great.fill_dense h0 [Value.agg (sh.map bv).toArray] 0 ((Array.range (1 * ie.size)).map (z.cells[· % z.cells.size]!)) (fun v hv => by rw [List.mem_singleton.1 hv]; simp [Value.cells, hsh]) (by simp)
  rw [hr]
  congr 1
  apply Array.ext_getElem?
  intro k
  rw [hk k]
  simp only [Nat.zero_mul, Nat.zero_le, true_and, List.length_singleton, Nat.zero_add, Nat.one_mul]
  by_cases hlt : k < ie.size
  · rw [if_pos hlt, Nat.div_eq_of_lt hlt, Nat.mod_eq_of_lt hlt]
    simp [Value.cells]
  · rw [if_neg hlt, Array.getElem?_eq_none (by simp; omega), Array.getElem?_eq_none (by simp; omega)]
end Go.Proofs.Ytcicdbhffkpldaa

/- Rows of the call's own whose elements are structs of whichever cells: what a cell holds; a cell stored; an element appended. And what a call may change: a set of blocks. No condition of its own. -/
namespace Go.Proofs.Ytcicdbhffkpldaa
open Go.RowKit

/-- A row of structs of n cells each. -/
def OwnR (n : Nat) (w : World) (base : Nat) (e : TypeId) (v : Value) (R : List (List Value)) : Prop := (∀ l ∈ R, l.length = n) ∧ w.ownsRow base e n v R.length R.flatten
theorem rows_get : ∀ {n : Nat} {R : List (List Value)}, (∀ l ∈ R, l.length = n) → ∀ i j, i < R.length → j < n → R.flatten[i * n + j]? = (R.getD i [])[j]?
  | n, l :: R, h, 0, j, _, hj => by
    have hl := h l (List.mem_cons_self ..)
    rw [List.flatten_cons, Nat.zero_mul, Nat.zero_add, List.getElem?_append_left (by omega), List.getD_cons_zero]
  | n, l :: R, h, i + 1, j, hi, hj => by
    have hl := h l (List.mem_cons_self ..)
    have e : (i + 1) * n + j = l.length + (i * n + j) := by rw [Nat.add_mul, hl]; omega
    rw [List.flatten_cons, e, List.getElem?_append_right (by omega), Nat.add_sub_cancel_left, List.getD_cons_succ]
    exact rows_get (fun l hl => h l (List.mem_cons_of_mem _ hl)) i j (by simpa using hi) hj
theorem rows_set : ∀ {n : Nat} {R : List (List Value)}, (∀ l ∈ R, l.length = n) → ∀ i j u, i < R.length → j < n → R.flatten.set (i * n + j) u = (R.set i ((R.getD i []).set j u)).flatten
  | n, l :: R, h, 0, j, u, _, hj => by
    have hl := h l (List.mem_cons_self ..)
    rw [List.flatten_cons, Nat.zero_mul, Nat.zero_add, List.set_append_left _ _ (by omega), List.getD_cons_zero, List.set_cons_zero, List.flatten_cons]
  | n, l :: R, h, i + 1, j, u, hi, hj => by
    have hl := h l (List.mem_cons_self ..)
    have e : (i + 1) * n + j = l.length + (i * n + j) := by rw [Nat.add_mul, hl]; omega
    rw [List.flatten_cons, e, List.set_append_right _ _ (by omega), Nat.add_sub_cancel_left, List.getD_cons_succ, List.set_cons_succ, List.flatten_cons, rows_set (fun l hl => h l (List.mem_cons_of_mem _ hl)) i j u (by simpa using hi) hj]
theorem row_at {n : Nat} {R : List (List Value)} (h : ∀ l ∈ R, l.length = n) {i : Nat} (hi : i < R.length) : (R.getD i []).length = n := by
  rw [List.getD, List.getElem?_eq_getElem hi]
  exact h _ (List.getElem_mem hi)
theorem ij_lt {n i j m : Nat} (hi : i < m) (hj : j < n) : i * n + j < m * n := by
  have h1 : (i + 1) * n ≤ m * n := Nat.mul_le_mul_right n hi
  rw [Nat.add_mul] at h1
  omega
theorem OwnR.nil (n : Nat) (w : World) (base : Nat) (e : TypeId) : OwnR n w base e (.slice none 0 0) [] := ⟨fun _ h => (List.not_mem_nil h).elim, ⟨by simp, .inl ⟨rfl, rfl⟩⟩⟩
theorem OwnR.form {n : Nat} {w : World} {base : Nat} {e : TypeId} {v : Value} {R : List (List Value)} (h : OwnR n w base e v R) : ∃ A c, v = .slice A R.length c ∧ R.length ≤ c ∧ c ≤ maxLen ∧ (0 < R.length → ∃ g, A = some ⟨g, 0, none⟩ ∧ base ≤ g ∧ g < w.heap.size) := by
  rcases h.2.2 with ⟨rfl, h0⟩ | ⟨g, cap, cur, rfl, hb, hg, hn, hm, _, _⟩
  · exact ⟨none, 0, by rw [h0], by omega, Nat.zero_le _, fun h => by omega⟩
  · refine ⟨_, cap, rfl, hn, hm, fun _ => ⟨g, rfl, hb, ?_⟩⟩
    rcases Nat.lt_or_ge g w.heap.size with h | h
    · exact h
    · rw [Array.getElem?_eq_none h] at hg; cases hg
theorem OwnR.cell {n : Nat} {w : World} {base : Nat} {e : TypeId} {R : List (List Value)} {g m c : Nat} (h : OwnR n w base e (.slice (some ⟨g, 0, none⟩) m c) R) (i j : Nat) (hi : i < R.length) (hj : j < n) : w.cell? ⟨g, i * n + j, none⟩ = (R.getD i [])[j]? := by
  have hm : m = R.length := by
    rcases h.2.2 with ⟨h0, _⟩ | ⟨g', cap, cur, hv, _⟩
    · cases h0
    · injection hv
  subst hm
  rw [h.2.cellAt (i * n + j) (ij_lt hi hj), rows_get h.1 i j hi hj]
theorem OwnR.free {n : Nat} {w : World} {base : Nat} {e : TypeId} {R : List (List Value)} {g m c : Nat} (h : OwnR n w base e (.slice (some ⟨g, 0, none⟩) m c) R) (j : Nat) : w.frozen? ⟨g, j, none⟩ = false := by
  have hm : m = R.length := by
    rcases h.2.2 with ⟨h0, _⟩ | ⟨g', cap, cur, hv, _⟩
    · cases h0
    · injection hv
  subst hm
  exact h.2.frozenAt j
theorem OwnR.stored {n : Nat} {w : World} {base : Nat} {e : TypeId} {R : List (List Value)} {g m c : Nat} (h : OwnR n w base e (.slice (some ⟨g, 0, none⟩) m c) R) (i j : Nat) (u : Value) (hi : i < R.length) (hj : j < n) : OwnR n (w.setCell ⟨g, i * n + j, none⟩ u) base e (.slice (some ⟨g, 0, none⟩) m c) (R.set i ((R.getD i []).set j u)) := by
  have hm : m = R.length := by
    rcases h.2.2 with ⟨h0, _⟩ | ⟨g', cap, cur, hv, _⟩
    · cases h0
    · injection hv
  subst hm
  refine ⟨fun l hl => ?_, ?_⟩
  · rcases List.mem_or_eq_of_mem_set hl with h1 | h1
    · exact h.1 l h1
    · rw [h1, List.length_set, row_at h.1 hi]
  · rw [List.length_set, ← rows_set h.1 i j u hi hj]
    exact (h.2.stored (i * n + j) u).1
theorem OwnR.lt {n : Nat} {w : World} {base : Nat} {e : TypeId} {v : Value} {R : List (List Value)} (h : OwnR n w base e v R) : ∀ k, v.ownBlock = some k → base ≤ k ∧ k < w.heap.size := fun k hk => h.2.lt k hk
/-- What may have changed: the blocks that F names, and such as have come. -/
structure Chg (F : Nat → Prop) (w w' : World) : Prop where
  os : w'.os = w.os
  tape : w'.tape = w.tape
  output : w'.output = w.output
  size : w.heap.size ≤ w'.heap.size
  keep : ∀ k, k < w.heap.size → ¬ F k → w'.heap[k]? = w.heap[k]?
theorem Chg.refl (F : Nat → Prop) (w : World) : Chg F w w := ⟨rfl, rfl, rfl, Nat.le_refl _, fun _ _ _ => rfl⟩
theorem Chg.drewN (F : Nat → Prop) {w w' : World} (h : Chg F w w') (n : Nat) : Chg F w (w'.drewN n) := ⟨h.os, h.tape, h.output, h.size, h.keep⟩
theorem Chg.trans {F : Nat → Prop} {a b c : World} (h : Chg F a b) (k : Chg (fun j => F j ∨ a.heap.size ≤ j) b c) : Chg F a c :=
  ⟨k.os.trans h.os, k.tape.trans h.tape, k.output.trans h.output, Nat.le_trans h.size k.size, fun j hj hF => (k.keep j (Nat.lt_of_lt_of_le hj h.size) (fun e => e.elim hF (fun e => by omega))).trans (h.keep j hj hF)⟩
theorem Chg.mono {F G : Nat → Prop} {w w' : World} (h : Chg F w w') (hFG : ∀ k, F k → G k) : Chg G w w' := ⟨h.os, h.tape, h.output, h.size, fun k hk hG => h.keep k hk fun e => hG (hFG k e)⟩
theorem Chg.of_below {B : Nat} {w w' : World} (h : Below B w w') : Chg (fun k => B ≤ k) w w' := ⟨h.os, h.tape, h.output, h.size, fun k _ hk => h.block k (by omega)⟩
theorem Chg.below {F : Nat → Prop} {B : Nat} {w w' : World} (h : Chg F w w') (hF : ∀ k, F k → B ≤ k) (hB : B ≤ w.heap.size) : Below B w w' := ⟨h.os, h.tape, h.output, h.size, fun k hk => h.keep k (by omega) fun e => by have := hF k e; omega⟩
theorem Chg.cell {F : Nat → Prop} {w w' : World} (h : Chg F w w') {p : Addr} (hp : p.block < w.heap.size) (hF : ¬ F p.block) : w'.cell? p = w.cell? p := World.cell?_of_block (h.keep _ hp hF)
theorem Chg.rd {F : Nat → Prop} {w w' : World} {v : Value} {xs : List UInt8} (h : Chg F w w') (hr : Rd w v xs) (hF : ∀ k, v.ownBlock = some k → ¬ F k) : Rd w' v xs := by
  rcases hr with h1 | ⟨b, off, c, rfl, h2, h3, h4, h5⟩
  · exact .inl h1
  · exact .inr ⟨b, off, c, rfl, Nat.lt_of_lt_of_le h2 h.size, h3, h4, fun i hi => (h.cell (p := ⟨b, off + i, none⟩) h2 (hF b rfl)).trans (h5 i hi)⟩
theorem Chg.blk {F : Nat → Prop} {w w' : World} {B : Nat} {t : TypeId} {cs : List Value} (h : Chg F w w') (hb : Blk w B t cs) (hF : ¬ F B) : Blk w' B t cs := (h.keep B hb.lt hF).trans hb
theorem Chg.ownR {F : Nat → Prop} {w w' : World} {n base : Nat} {e : TypeId} {v : Value} {R : List (List Value)} (h : Chg F w w') (hr : OwnR n w base e v R) (hF : ∀ k, v.ownBlock = some k → ¬ F k) : OwnR n w' base e v R := by
  refine ⟨hr.1, ?_⟩
  rcases hr.2 with ⟨h1, h2 | ⟨g, cap, cur, rfl, hb, hg, h3⟩⟩
  · exact ⟨h1, .inl h2⟩
  · have hlt : g < w.heap.size := by
      rcases Nat.lt_or_ge g w.heap.size with h | h
      · exact h
      · rw [Array.getElem?_eq_none h] at hg; cases hg
    exact ⟨h1, .inr ⟨g, cap, cur, rfl, hb, (h.keep g hlt (hF g rfl)).trans hg, h3⟩⟩
theorem Chg.setCell (F : Nat → Prop) (w : World) (B j : Nat) (v : Value) (hF : F B) : Chg F w (w.setCell ⟨B, j, none⟩ v) := ⟨rfl, rfl, rfl, by simp [World.setCell], fun k _ hk => Below.heap_setCell w _ v k (fun e => hk (e ▸ hF))⟩
/-- A slice of bytes that is read still, where its block, if it has bytes, is none that has changed. -/
theorem chg_rd0 {F : Nat → Prop} {w w' : World} {v : Value} {xs : List UInt8} (h : Chg F w w') (hr : Rd w v xs) (hF : 0 < xs.length → ∀ k, v.ownBlock = some k → ¬ F k) : Rd w' v xs := by
  rcases hr with h1 | ⟨b, off, c, rfl, h2, h3, h4, h5⟩
  · exact .inl h1
  · exact .inr ⟨b, off, c, rfl, Nat.lt_of_lt_of_le h2 h.size, h3, h4, fun i hi => (h.cell (p := ⟨b, off + i, none⟩) h2 (hF (by omega) b rfl)).trans (h5 i hi)⟩
end Go.Proofs.Ytcicdbhffkpldaa

/- Rows of structs: an element loaded whole, stored whole, appended; a slice of one element; a piece of another row appended. No condition of its own. -/
namespace Go.Proofs.Ytcicdbhffkpldaa
open Go.RowKit

theorem inf_of {P : Program} {t : TypeId} {z : Value} {n m : Nat} (h : (P.info? t).map (fun i => (i.zero, i.size, i.bytes)) = some (some z, n, m)) : ∃ i, P.info? t = some i ∧ i.zero = some z ∧ i.size = n ∧ i.bytes = m := by
  cases hi : P.info? t with
  | none => rw [hi] at h; cases h
  | some i => rw [hi] at h; simp at h; exact ⟨i, rfl, h.1, h.2.1, h.2.2⟩
theorem zer_of {P : Program} {t : TypeId} {z : Value} {n m : Nat} (h : (P.info? t).map (fun i => (i.zero, i.size, i.bytes)) = some (some z, n, m)) : (P.info? t).bind (·.zero) = some z := by
  obtain ⟨i, hi, hz, _⟩ := inf_of h
  rw [hi]
  exact hz
theorem siz_of {P : Program} {t : TypeId} {z : Value} {n m : Nat} (h : (P.info? t).map (fun i => (i.zero, i.size, i.bytes)) = some (some z, n, m)) : (P.info? t).map (·.size) = some n := by
  obtain ⟨i, hi, _, hs, _⟩ := inf_of h
  rw [hi, ← hs]
  rfl
/-- A variable of a type whose zero value is an array, or a struct. -/
theorem wpList_alloc_v {P : Program} {ops : Array Oper} {rest : List Oper} {o : Oper} {a : Act} {w : World} {Q : Exit → Act → World → Prop} (hgd : o.guard = none) (t : TypeId) (ho : o.op = .alloc t) (cs : Array Value)
    (hz : (P.info? t).bind (·.zero) = some (.agg cs)) (N : Nat) (hN : w.heap.size = N)
    (h : wpList P ops Q rest (a.put o.dst (.pointer (some ⟨N, 0, none⟩))) (w.alloc (.cells cs t))) : wpList P ops Q (o :: rest) a w := by
  subst hN
  refine wpList_plain hgd fun K hK => ?_
  have hrun : (zeroValue t).run P w = .ok (.agg cs) w := by
    cases hi : P.info? t with
    | none => rw [hi] at hz; cases hz
    | some i =>
      rw [hi] at hz
      have hz : i.zero = some (.agg cs) := hz
      simp [zeroValue, typeInfo, hi, hz]
  unfold Oper.wp
  simp [execOp, ho, Instr.alloc, hrun, Result.andThen]
  exact hK _ _ h
/-- A value is built whose cells are known. -/
theorem wpList_build_it {P : Program} {ops : Array Oper} {rest : List Oper} {o : Oper} {a : Act} {w : World} {Q : Exit → Act → World → Prop} (hg : o.guard = none) (t : TypeId) (parts : Array (Nat × Operand)) (ho : o.op = .build t parts) (ps : List (Nat × Value)) (hp : (parts.toList.map fun p => (p.1, a.eval p.2)) = ps) (cells : Array Value)
    (hf : P.built t ps = some cells)
    (h : wpList P ops Q rest (a.put o.dst (.agg cells)) w) : wpList P ops Q (o :: rest) a w := by
  have e : (parts.map fun (i, x) => (i, a.eval x)).toList = ps := by
    rw [Array.toList_map]
    exact hp
  refine wpList_build hg t parts ho (by rw [e, hf]; rfl) ?_
  rw [e, hf]
  exact h
theorem OwnR.range {n : Nat} {w : World} {base : Nat} {e : TypeId} {R : List (List Value)} {g m c : Nat} (h : OwnR n w base e (.slice (some ⟨g, 0, none⟩) m c) R) {i : Nat} (hi : i < R.length) : w.rangeAt g (i * n) (R.getD i []) := by
  intro j u hu
  have hj : j < n := by
    rcases Nat.lt_or_ge j n with h1 | h1
    · exact h1
    · rw [List.getElem?_eq_none (by rw [row_at h.1 hi]; exact h1)] at hu
      cases hu
  rw [h.cell i j hi hj]
  exact hu
theorem rows_length : ∀ {n : Nat} {R : List (List Value)}, (∀ l ∈ R, l.length = n) → R.flatten.length = R.length * n
  | n, [], _ => by simp
  | n, l :: R, h => by
    rw [List.flatten_cons, List.length_append, h l (List.mem_cons_self ..), rows_length (fun l hl => h l (List.mem_cons_of_mem _ hl)), List.length_cons, Nat.add_mul]
    omega
theorem OwnR.there {n : Nat} {w : World} {base : Nat} {e : TypeId} {R : List (List Value)} {g m c : Nat} (h : OwnR n w base e (.slice (some ⟨g, 0, none⟩) m c) R) {i : Nat} (hi : i < R.length) : w.there g (i * n) n := fun j hj => by
  rw [h.cell i j hi hj, List.getElem?_eq_getElem (by rw [row_at h.1 hi]; exact hj)]
  exact ⟨rfl, h.free _⟩
/-- An element is stored, cell by cell. -/
theorem OwnR.lay {n base : Nat} {e : TypeId} {g m c : Nat} : ∀ (vs : List Value) (i j : Nat) (w : World) (R : List (List Value)), OwnR n w base e (.slice (some ⟨g, 0, none⟩) m c) R → i < R.length → j + vs.length ≤ n → OwnR n (w.setCells g (i * n + j) vs) base e (.slice (some ⟨g, 0, none⟩) m c) (R.set i (layL (R.getD i []) j vs))
  | [], i, j, w, R, h, hi, _ => by
    have e : R.set i (R.getD i []) = R := by
      rw [List.getD, List.getElem?_eq_getElem hi]
      exact List.set_getElem_self hi
    show OwnR n w base _ _ (R.set i (R.getD i []))
    rw [e]
    exact h
  | v :: r, i, j, w, R, h, hi, hj => by
    rw [List.length_cons] at hj
    have h1 := OwnR.lay r i (j + 1) _ _ (h.stored i j v hi (by omega)) (by rw [List.length_set]; exact hi) (by omega)
    have e : (R.set i ((R.getD i []).set j v)).getD i [] = (R.getD i []).set j v := by
      rw [List.getD, List.getElem?_set_self hi]
      rfl
    rw [e, List.set_set] at h1
    exact h1
/-- An element is stored whole. -/
theorem OwnR.put {n base : Nat} {e : TypeId} {g m c : Nat} {w : World} {R : List (List Value)} (h : OwnR n w base e (.slice (some ⟨g, 0, none⟩) m c) R) {i : Nat} (hi : i < R.length) {l : List Value} (hl : l.length = n) : OwnR n (w.setCells g (i * n) l) base e (.slice (some ⟨g, 0, none⟩) m c) (R.set i l) := by
  have h1 := OwnR.lay l i 0 w R h hi (by omega)
  rw [layL_all (by rw [row_at h.1 hi]; exact hl)] at h1
  exact h1
/-- An element is loaded whole. -/
theorem wpList_load_row_el {P : Program} {ops : Array Oper} {rest : List Oper} {op : Oper} {a : Act} {w : World} {Q : Exit → Act → World → Prop} (hgd : op.guard = none) (ty : TypeId) (x : Operand) (ho : op.op = .load ty x)
    {n base g m c : Nat} {e : TypeId} {R : List (List Value)} (h : OwnR n w base e (.slice (some ⟨g, 0, none⟩) m c) R) {i : Nat} (hi : i < R.length) (hx : a.eval x = .pointer (some ⟨g, i * n, none⟩)) (d : TypeDesc)
    (hu : P.underlying ty = some d) (hd : d.isRow = true) (hs : (P.info? ty).map (·.size) = some n)
    (hQ : wpList P ops Q rest (a.put op.dst (.agg (R.getD i []).toArray)) w) : wpList P ops Q (op :: rest) a w :=
  wpList_load_mid hgd ty x ho g (i * n) hx _ d (h.range hi) hu hd (by rw [row_at h.1 hi]; exact hs) hQ
/-- append of one element, which lies in a new block of its own, onto a row of the call's own. -/
theorem wpList_append_elR {P : Program} (w : World) (l : List Value) (e0 : TypeId) {ops : Array Oper} {rest : List Oper} {o : Oper} {a : Act} {Q : Exit → Act → World → Prop} (hgd : o.guard = none) (s x : Operand) (t : TypeId)
    (ho : o.op = .call { callee := .builtin .append, args := #[s, x], argTypes := #[t, t] })
    (base : Nat) (e : TypeId) (i : TypeInfo) (z : Value) (n bytes : Nat) (ht : P.underlying t = some (.slice e)) (hi : P.info? e = some i) (hz : i.zero = some z)
    (hsize : i.size = n) (hby : i.bytes = bytes) (hzs : z.cells.size = n) (hn : 0 < n)
    (v : Value) (R : List (List Value)) (hs : a.eval s = v) (hown : OwnR n w base e v R) (hl : l.length = n) (h1 : ∀ u ∈ l, u.oneCell' = true)
    (hx : a.eval x = .slice (some ⟨w.heap.size, 0, none⟩) 1 1)
    (h63 : R.length + 1 ≤ maxLen) (hb : (R.length + 1) * bytes ≤ 140737488355328) (hbase : base ≤ w.heap.size)
    (h : ∀ v' w', OwnR n w' base e v' (R ++ [l]) → Next w w' base v v' → wpList P ops Q rest (a.put o.dst v') w') : wpList P ops Q (o :: rest) a (w.alloc (.cells l.toArray e0)) := by
  refine wpList_plain hgd fun K hK => ?_
  obtain ⟨v', w', hr, h2, h3, _, h5⟩ := run_append_own_at (P := P) (w.alloc (.cells l.toArray e0)) base t o.type e i z n bytes ht hi hz hsize hby hzs hn v R.length R.flatten (hown.2.alloc _) ⟨w.heap.size, 0, none⟩ 1 1 l (by rw [hl, Nat.one_mul]) (World.news_of_block (cs := l.toArray) (t := e0) (fr := (0, 0)) (heap_alloc_new w _)) h1 h63 hb (by simp; omega)
  unfold Oper.wp execOp
  simp only [ho, resolve, invoke, builtin, Sem.run_bind, Sem.run_pure, Result.andThen_ok, List.map_toArray, List.map_cons, List.map_nil, hs, hx, hr]
  refine hK _ _ (h v' w' ⟨fun l' hl' => ?_, ?_⟩ ⟨((Below.refl _ _).alloc hbase _).grown h3 (by simp; omega) (fun k hk => (hown.lt k hk).1), ?_, fun k hk hne => ?_, ?_⟩)
  · rcases List.mem_append.1 hl' with h4 | h4
    · exact hown.1 l' h4
    · rw [List.mem_singleton.1 h4]; exact hl
  · have e1 : (R ++ [l]).flatten = R.flatten ++ l := by rw [List.flatten_append, List.flatten_singleton]
    rw [e1, List.length_append]
    exact h2
  · have := h3.size; simp at this; omega
  · exact (h3.block k (by simp; omega) hne).trans (Below.heap_alloc w _ k hk)
  · rcases h5 with e5 | e5
    · exact .inl e5
    · exact .inr ⟨_, e5, by simp⟩
/-- A slice of one element. -/
theorem wpList_build_elR {P : Program} {ops : Array Oper} {rest : List Oper} {o : Oper} {a : Act} {w : World} {Q : Exit → Act → World → Prop} (hg : o.guard = none) (t e : TypeId) (x : Operand) (ho : o.op = .buildSlice t 1 #[(0, x)])
    (ie : TypeInfo) (z : Value) (n : Nat) (hu : P.underlying t = some (.slice e)) (hie : P.info? e = some ie) (hz : ie.zero = some z) (hn : ie.size = n) (h0 : 0 < n) (hb : n ≤ 1000)
    (l : List Value) (hl : l.length = n) (hx : a.eval x = .agg l.toArray)
    (h : wpList P ops Q rest (a.put o.dst (.slice (some ⟨w.heap.size, 0, none⟩) 1 1)) (w.alloc (.cells l.toArray e))) : wpList P ops Q (o :: rest) a w := by
  subst hn
  refine wpList_buildSlice hg t e 1 #[(0, x)] ho l.toArray ie z hu hie hz (by omega) (by omega) ?_ h
  have hp : (#[(0, x)].map fun (i, x) => (i, a.eval x)).toList = (([Value.agg l.toArray].zipIdx 0).map fun x => (x.2, x.1)) := by simp [hx]
  rw [hp]
  obtain ⟨r, hr, hrs, hk⟩ := Great.fill_dense h0 [Value.agg l.toArray] 0 ((Array.range (1 * ie.size)).map (z.cells[· % z.cells.size]!)) (fun v hv => by rw [List.mem_singleton.1 hv]; simp [Value.cells, hl]) (by simp)
  rw [hr]
  congr 1
  apply Array.ext_getElem?
  intro k
  rw [hk k]
  simp only [Nat.zero_mul, Nat.zero_le, true_and, List.length_singleton, Nat.zero_add, Nat.one_mul]
  by_cases hlt : k < ie.size
  · rw [if_pos hlt, Nat.div_eq_of_lt hlt, Nat.mod_eq_of_lt hlt]
    simp [Value.cells]
  · rw [if_neg hlt, Array.getElem?_eq_none (by simp; omega), Array.getElem?_eq_none (by simp; omega)]
/-- append of another row's piece onto a row of the call's own. -/
theorem wpList_append_rowR {P : Program} (w : World) {ops : Array Oper} {rest : List Oper} {o : Oper} {a : Act} {Q : Exit → Act → World → Prop} (hgd : o.guard = none) (s x : Operand) (t : TypeId)
    (ho : o.op = .call { callee := .builtin .append, args := #[s, x], argTypes := #[t, t] })
    (base : Nat) (e : TypeId) (i : TypeInfo) (z : Value) (n bytes : Nat) (ht : P.underlying t = some (.slice e)) (hi : P.info? e = some i) (hz : i.zero = some z)
    (hsize : i.size = n) (hby : i.bytes = bytes) (hzs : z.cells.size = n) (hn : 0 < n)
    (v : Value) (R : List (List Value)) (hs : a.eval s = v) (hown : OwnR n w base e v R)
    (vx : Value) (R2 : List (List Value)) (hl2 : ∀ l ∈ R2, l.length = n) (h1 : ∀ l ∈ R2, ∀ u ∈ l, u.oneCell' = true)
    (hx : a.eval x = vx) (hv : (vx = .slice none 0 0 ∧ R2 = []) ∨ ∃ b off c, vx = .slice (some ⟨b, off, none⟩) R2.length c ∧ ∀ i j, i < R2.length → j < n → w.cell? ⟨b, off + (i * n + j), none⟩ = (R2.getD i [])[j]?)
    (h63 : R.length + R2.length ≤ maxLen) (hb : (R.length + R2.length) * bytes ≤ 140737488355328) (hbase : base ≤ w.heap.size)
    (h : ∀ v' w', OwnR n w' base e v' (R ++ R2) → Next w w' base v v' → wpList P ops Q rest (a.put o.dst v') w') : wpList P ops Q (o :: rest) a w := by
  rcases hv with ⟨rfl, rfl⟩ | ⟨b, off, c, rfl, hc⟩
  · exact wpList_append_own_none hgd s x t ho base e i n ht hi v R.length R.flatten hs hown.2 hx (h v w (by rw [List.append_nil]; exact hown) ⟨Below.refl _ _, Nat.le_refl _, fun _ _ _ => rfl, .inl rfl⟩)
  · refine wpList_append_own_at w hgd s x t ho base e i z n bytes ht hi hz hsize hby hzs hn v R.length R.flatten hs hown.2 ⟨b, off, none⟩ R2.length c R2.flatten hx (rows_length hl2) ?_ ?_ h63 hb hbase fun v' w' k1 k2 _ k4 => h v' w' ⟨?_, ?_⟩ ⟨(Below.refl _ _).grown k2 hbase (fun k hk => (hown.lt k hk).1), k2.size, k2.block, ?_⟩
    · intro j u hu
      have hj : j < R2.length * n := by
        rcases Nat.lt_or_ge j (R2.length * n) with h2 | h2
        · exact h2
        · rw [List.getElem?_eq_none (by rw [rows_length hl2]; exact h2)] at hu
          cases hu
      have h2 : j / n < R2.length := (Nat.div_lt_iff_lt_mul hn).2 hj
      have h3 : j % n < n := Nat.mod_lt _ hn
      have e1 : j / n * n + j % n = j := by rw [Nat.mul_comm]; exact Nat.div_add_mod j n
      have h4 := hc (j / n) (j % n) h2 h3
      rw [← rows_get hl2 _ _ h2 h3, e1, hu] at h4
      by_cases h0 : j = 0
      · subst h0
        simpa [Addr.add] using h4
      · simpa [Addr.add, h0] using h4
    · intro u hu
      obtain ⟨l, hl, hul⟩ := List.mem_flatten.1 hu
      exact h1 l hl u hul
    · intro l hl
      rcases List.mem_append.1 hl with h4 | h4
      · exact hown.1 l h4
      · exact hl2 l h4
    · rw [List.length_append, List.flatten_append]
      exact k1
    · rcases k4 with e5 | e5
      · exact .inl e5
      · exact .inr ⟨_, e5, Nat.le_refl _⟩
/-- A block is made: which, what it holds. -/
theorem wpList_alloc_w {P : Program} {ops : Array Oper} {rest : List Oper} {o : Oper} {a : Act} {w : World} {Q : Exit → Act → World → Prop} (hgd : o.guard = none) (t : TypeId) (ho : o.op = .alloc t) (cs : List Value)
    (hz : (P.info? t).bind (·.zero) = some (.agg cs.toArray)) (N : Nat) (hN : w.heap.size = N)
    (h : ∀ w', Blk w' N t cs → Below N w w' → w'.heap.size = N + 1 → wpList P ops Q rest (a.put o.dst (.pointer (some ⟨N, 0, none⟩))) w') : wpList P ops Q (o :: rest) a w := by
  refine wpList_alloc_v hgd t ho cs.toArray hz N hN ?_
  subst hN
  exact h _ (Blk.made w t cs) ((Below.refl _ _).alloc (Nat.le_refl _) _) (World.size_alloc _ _)
theorem row_form {w : World} {base n : Nat} {t : TypeId} {v : Value} {xs : List Value} (h : w.ownsRow base t 1 v n xs) : ∃ Ap cp, v = .slice Ap n cp ∧ ∀ i x, xs[i]? = some x → ∃ g, Ap = some ⟨g, 0, none⟩ ∧ base ≤ g ∧ g < w.heap.size ∧ w.cell? ⟨g, i, none⟩ = some x := by
  have h0 := h.1
  rcases h.2 with ⟨rfl, rfl⟩ | ⟨g, cap, cur, rfl, hb, hg, _⟩
  · refine ⟨none, 0, rfl, fun i x hx => ?_⟩
    have : xs = [] := List.eq_nil_of_length_eq_zero (by omega)
    rw [this] at hx
    cases hx
  · refine ⟨_, cap, rfl, fun i x hx => ⟨g, rfl, hb, (Array.getElem?_eq_some_iff.1 hg).1, ?_⟩⟩
    have hi := (List.getElem?_eq_some_iff.1 hx).1
    rw [h.cellAt i (by omega)]
    exact hx
end Go.Proofs.Ytcicdbhffkpldaa

/- Rows of pieces of a call's own: what they read as; append of pieces that came in. No condition. -/
namespace Go.Proofs.Ytcicdbhffkpldaa
open Go.RowKit

def pcRows (l : List Pc) : List (List Value) := l.map Pc.vs
theorem pcRows_len (l : List Pc) : (pcRows l).length = l.length := by unfold pcRows; rw [List.length_map]
theorem pcRows_five (l : List Pc) : ∀ r ∈ pcRows l, r.length = 5 := fun r hr => by
  obtain ⟨p, _, rfl⟩ := List.mem_map.1 hr
  rfl
theorem pcRows_one (l : List Pc) : ∀ r ∈ pcRows l, ∀ u ∈ r, u.oneCell' = true := fun r hr u hu => by
  obtain ⟨p, _, rfl⟩ := List.mem_map.1 hr
  unfold Pc.vs at hu
  simp only [List.mem_cons, List.not_mem_nil, or_false] at hu
  rcases hu with rfl | rfl | rfl | rfl | rfl <;> rfl
theorem pcRows_snoc (l : List Pc) (p : Pc) : pcRows (l ++ [p]) = pcRows l ++ [p.vs] := by unfold pcRows; rw [List.map_append]; rfl
theorem pcRows_at (l : List Pc) {i : Nat} (hi : i < l.length) : (pcRows l).getD i [] = l[i].vs := by
  unfold pcRows
  rw [List.getD, List.getElem?_map, List.getElem?_eq_getElem hi]
  rfl
theorem ownR_rsp {w : World} {base : Nat} {e : TypeId} {u : Value} {l : List Pc} (h : OwnR 5 w base e u (pcRows l)) (hok : ∀ p ∈ l, p.Ok) (hl : l.length ≤ maxLen) : RsP w u l := by
  have hn : ∀ n c, u = .slice none n c → c = 0 := fun n c e => by
    rcases h.2.2 with ⟨h0, _⟩ | ⟨g, cap, cur, hv, _⟩
    · rw [h0] at e
      injection e with _ _ e
      exact e.symm
    · rw [hv] at e
      injection e with e
      cases e
  obtain ⟨A, c, rfl, hc⟩ := h.form
  rw [pcRows_len] at h hc hn ⊢
  refine ⟨⟨A, c, rfl, hl, fun i hi => ?_⟩, hn, fun A' n' c' e => by injection e with _ e1 e2; omega⟩
  rcases h.2.2 with ⟨h0, h1⟩ | ⟨g, cap, cur, hv, h2⟩
  · injection h0 with _ h3 _
    omega
  · injection hv with h3
    subst h3
    have hlt := (h.lt g rfl).2
    refine ⟨g, 0, rfl, hlt, fun j v hv => ?_, hok _ (List.getElem_mem hi)⟩
    have hj : j < 5 := by
      have := (List.getElem?_eq_some_iff.1 hv).1
      simpa [Pc.vs] using this
    have h4 := h.cell i j (by rw [pcRows_len]; exact hi) hj
    rw [pcRows_at l hi] at h4
    rw [Nat.zero_add]
    exact h4.trans hv
theorem wpList_append_pcs {P : Program} (w : World) {ops : Array Oper} {rest : List Oper} {o : Oper} {a : Act} {Q : Exit → Act → World → Prop} (hgd : o.guard = none) (s x : Operand) (t : TypeId)
    (ho : o.op = .call { callee := .builtin .append, args := #[s, x], argTypes := #[t, t] })
    (base : Nat) (e : TypeId) (i : TypeInfo) (z : Value) (bytes : Nat) (ht : P.underlying t = some (.slice e)) (hi : P.info? e = some i) (hz : i.zero = some z)
    (hsize : i.size = 5) (hby : i.bytes = bytes) (hzs : z.cells.size = 5)
    (v : Value) (R : List (List Value)) (hs : a.eval s = v) (hown : OwnR 5 w base e v R)
    (A : Option Addr) (c : Nat) (l : List Pc) (hx : a.eval x = .slice A l.length c) (hr : RsP w (.slice A l.length c) l)
    (h63 : R.length + l.length ≤ maxLen) (hb : (R.length + l.length) * bytes ≤ 140737488355328) (hbase : base ≤ w.heap.size)
    (h : ∀ v' w', OwnR 5 w' base e v' (R ++ pcRows l) → Next w w' base v v' → wpList P ops Q rest (a.put o.dst v') w') : wpList P ops Q (o :: rest) a w := by
  have fin : ∀ (v' : Value) (w' : World), w'.ownsRow base e 5 v' (R.length + l.length) (R.flatten ++ (pcRows l).flatten) → OwnR 5 w' base e v' (R ++ pcRows l) := fun v' w' k1 => by
    refine ⟨fun r hr => ?_, ?_⟩
    · rcases List.mem_append.1 hr with h4 | h4
      · exact hown.1 r h4
      · exact pcRows_five l r h4
    · rw [List.length_append, List.flatten_append, pcRows_len]
      exact k1
  cases A with
  | none =>
    have h0 : l = [] := by
      match l, hr with
      | [], _ => rfl
      | p :: l, hr =>
        obtain ⟨g, o, he, _⟩ := hr.at' (i := 0) (by simp)
        cases he
    subst h0
    obtain rfl : c = 0 := hr.nil _ _ rfl
    refine wpList_append_own_none hgd s x t ho base e i 5 ht hi v R.length R.flatten hs hown.2 hx (h v w ?_ ⟨Below.refl _ _, Nat.le_refl _, fun _ _ _ => rfl, .inl rfl⟩)
    show OwnR 5 w base e v (R ++ [])
    rw [List.append_nil]
    exact hown
  | some ad =>
    refine wpList_append_own_at w hgd s x t ho base e i z 5 bytes ht hi hz hsize hby hzs (by decide) v R.length R.flatten hs hown.2 ad l.length c (pcRows l).flatten hx (by rw [rows_length (pcRows_five l), pcRows_len]) ?_ ?_ h63 hb hbase fun v' w' k1 k2 _ k4 => h v' w' (fin v' w' k1) ⟨(Below.refl _ _).grown k2 hbase (fun k hk => (hown.lt k hk).1), k2.size, k2.block, ?_⟩
    · intro j u hu
      have hlen : (pcRows l).flatten.length = l.length * 5 := by rw [rows_length (pcRows_five l), pcRows_len]
      have hj : j < l.length * 5 := by
        have := (List.getElem?_eq_some_iff.1 hu).1
        omega
      have h2 : j / 5 < l.length := by omega
      obtain ⟨g, o', he, _, hat, _⟩ := hr.at' h2
      injection he with he
      subst he
      have h3 := rows_get (pcRows_five l) (j / 5) (j % 5) (by rw [pcRows_len]; exact h2) (by omega)
      rw [show j / 5 * 5 + j % 5 = j by omega, hu, pcRows_at l h2] at h3
      have h4 := hat (j % 5) u h3.symm
      have e5 : (⟨g, o' + j / 5 * 5 + j % 5, none⟩ : Addr) = (⟨g, o', none⟩ : Addr).add j := by
        by_cases h0 : j = 0
        · subst h0; rfl
        · simp [Addr.add, h0]
          omega
      rw [← e5]
      exact h4
    · intro u hu
      obtain ⟨r, hl, hul⟩ := List.mem_flatten.1 hu
      exact pcRows_one l r hl u hul
    · rcases k4 with e5 | e5
      · exact .inl e5
      · exact .inr ⟨_, e5, Nat.le_refl _⟩
end Go.Proofs.Ytcicdbhffkpldaa

/- A row of slices of the call's own, each a row of pieces that lies elsewhere. No condition of its own. -/
namespace Go.Proofs.Ytcicdbhffkpldaa
open Go.RowKit

theorem next_far {w w' : World} {base : Nat} {v v' : Value} (h : Next w w' base v v') {g : Nat} (hg : g < w.heap.size) (hne : some g ≠ v.ownBlock) : some g ≠ v'.ownBlock := by
  rcases h.blk with e | ⟨k, e, hk⟩
  · rw [e]; exact hne
  · rw [e]
    intro e2
    injection e2 with e2
    omega
theorem rsP_next {w w' : World} {base : Nat} {v v' u : Value} {l : List Pc} (h : RsP w u l) (hx : Next w w' base v v') (hne : ∀ g, u.ownBlock = some g → some g ≠ v.ownBlock) : RsP w' u l := by
  have hn := h.nil
  have hp := h.cap
  obtain ⟨A, c, rfl, hm, h⟩ := h.ex
  refine ⟨⟨A, c, rfl, hm, fun i hi => ?_⟩, hn, hp⟩
  obtain ⟨g, o, rfl, h1, h2, h3⟩ := h i hi
  exact ⟨g, o, rfl, Nat.lt_of_lt_of_le h1 hx.size, fun j x hj => (hx.cell (p := ⟨g, o + i * 5 + j, none⟩) h1 (hne g rfl)).trans (h2 j x hj), h3⟩
theorem ownR_bel {n : Nat} {w w' : World} {base : Nat} {e : TypeId} {v : Value} {R : List (List Value)} (h : OwnR n w base e v R) (hb : Below w.heap.size w w') : OwnR n w' base e v R :=
  ⟨h.1, h.2.kept (row := none) ⟨hb.os, hb.tape, hb.output, hb.size, fun k hk _ => hb.block k hk⟩ (by
    cases v.ownBlock with
    | none => exact .inl rfl
    | some k => exact .inr fun e => by cases e)⟩
/-- A row of pieces that lies apart from another's block. -/
structure FarP (w : World) (vo u : Value) (l : List Pc) : Prop where
  row : RsP w u l
  far : ∀ b, u.ownBlock = some b → b < w.heap.size ∧ some b ≠ vo.ownBlock
theorem FarP.below {w w' : World} {vo u : Value} {l : List Pc} (h : FarP w vo u l) (hb : Below w.heap.size w w') : FarP w' vo u l :=
  ⟨h.row.below hb, fun b e => ⟨Nat.lt_of_lt_of_le (h.far b e).1 hb.size, (h.far b e).2⟩⟩
theorem FarP.next {w w' : World} {base : Nat} {vo v' u : Value} {l : List Pc} (h : FarP w vo u l) (hx : Next w w' base vo v') : FarP w' v' u l :=
  ⟨rsP_next h.row hx fun g e => (h.far g e).2, fun b e => ⟨Nat.lt_of_lt_of_le (h.far b e).1 hx.size, next_far hx (h.far b e).1 (h.far b e).2⟩⟩
/-- Groups of the call's own. -/
structure OwnG (w : World) (base : Nat) (vo : Value) (ls : List (List Pc)) : Prop where
  ex : ∃ us : List Value, OwnR 1 w base 22 vo (us.map fun u => [u]) ∧ us.length = ls.length ∧ ∀ (i : Nat) (u : Value) (l : List Pc), us[i]? = some u → ls[i]? = some l → FarP w vo u l
theorem OwnG.nil (w : World) (base : Nat) : OwnG w base (.slice none 0 0) [] := ⟨[], OwnR.nil _ _ _ _, rfl, fun i u l h => by simp at h⟩
theorem OwnG.below {w w' : World} {base : Nat} {vo : Value} {ls : List (List Pc)} (h : OwnG w base vo ls) (hb : Below w.heap.size w w') : OwnG w' base vo ls := by
  obtain ⟨us, h1, h2, h3⟩ := h.ex
  exact ⟨us, ownR_bel h1 hb, h2, fun i u l hu hl => (h3 i u l hu hl).below hb⟩
theorem OwnG.snoc {w w' : World} {base : Nat} {vo v' u : Value} {ls : List (List Pc)} {g : List Pc} {us : List Value} (h2 : us.length = ls.length) (h3 : ∀ (i : Nat) (u : Value) (l : List Pc), us[i]? = some u → ls[i]? = some l → FarP w vo u l) (hu : FarP w vo u g)
    (ho : OwnR 1 w' base 22 v' ((us.map fun u => [u]) ++ [[u]])) (hx : Next w w' base vo v') : OwnG w' base v' (ls ++ [g]) := by
  refine ⟨us ++ [u], ?_, by rw [List.length_append, List.length_append, h2]; rfl, fun i x l hx1 hl => ?_⟩
  · rw [List.map_append]
    exact ho
  · by_cases hi : i < us.length
    · rw [List.getElem?_append_left hi] at hx1
      rw [List.getElem?_append_left (by omega)] at hl
      exact (h3 i x l hx1 hl).next hx
    · rw [List.getElem?_append_right (by omega)] at hx1
      rw [List.getElem?_append_right (by omega)] at hl
      rw [h2] at hx1
      obtain ⟨k, hk⟩ : ∃ k, k = i - ls.length := ⟨_, rfl⟩
      rw [← hk] at hx1 hl
      cases k with
      | zero =>
        simp only [List.getElem?_cons_zero, Option.some.injEq] at hx1 hl
        subst hx1 hl
        exact hu.next hx
      | succ k => simp at hx1
theorem OwnG.rsG {w : World} {base : Nat} {vo : Value} {ls : List (List Pc)} (h : OwnG w base vo ls) (hm : ls.length ≤ maxLen) : RsG w vo ls := by
  obtain ⟨us, h1, h2, h3⟩ := h.ex
  rcases h1.2.2 with ⟨h0, h4⟩ | ⟨g, cap, cur, hv, _⟩
  · rw [List.length_map] at h4
    have e : ls.length = 0 := by omega
    exact ⟨none, 0, by rw [h0, e], hm, fun i hi => by omega⟩
  · subst hv
    have hlt := (h1.lt g rfl).2
    refine ⟨_, _, by rw [List.length_map, h2], hm, fun i hi => ?_⟩
    have hi' : i < us.length := by omega
    have hc := h1.cell i 0 (by rw [List.length_map]; exact hi') (by decide)
    refine ⟨g, 0, us[i], rfl, hlt, ?_, (h3 i us[i] ls[i] (List.getElem?_eq_getElem hi') (List.getElem?_eq_getElem hi)).row⟩
    rw [show (0 + i) = i * 1 + 0 by omega, hc, List.getD, List.getElem?_map, List.getElem?_eq_getElem hi']
    rfl
end Go.Proofs.Ytcicdbhffkpldaa
