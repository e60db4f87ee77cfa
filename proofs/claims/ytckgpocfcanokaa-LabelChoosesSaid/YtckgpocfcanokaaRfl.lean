/- Slices of elements that are bytes alone (arrays, structs of bytes): what they read as; rows of the call's own; append of one element; a literal of one element; a struct of a byte and an array put together. No condition of its own. -/
import Derived.Test.YtckgpocfcanokaaGen
import Derived.Test.YtckgpocfcanokaaStep
import Derived.Great.BuildSlice
namespace Go.Proofs.Ytckgpocfcanokaa
open Go.RowKit

/-- The slice v reads as the elements L, each of n bytes. -/
def Rf (n : Nat) (w : World) (v : Value) (L : List (List UInt8)) : Prop :=
  (∀ l ∈ L, l.length = n) ∧
  ((∃ A c, v = .slice A 0 c ∧ c ≤ maxLen ∧ L = []) ∨
   ∃ b off c, v = .slice (some ⟨b, off, none⟩) L.length c ∧ b < w.heap.size ∧ L.length ≤ c ∧ c ≤ maxLen ∧ ∀ i j, i < L.length → j < n → w.cell? ⟨b, off + i * n + j, none⟩ = some (bv ((L.getD i []).getD j 0)))
theorem Rf.keep {n : Nat} {w w' : World} {v : Value} {L : List (List UInt8)} (h : Rf n w v L) (hs : w.heap.size ≤ w'.heap.size) (hk : ∀ p : Addr, p.block < w.heap.size → w'.cell? p = w.cell? p) : Rf n w' v L := by
  refine ⟨h.1, ?_⟩
  rcases h.2 with h | ⟨b, off, c, h1, h2, h3, h4, h5⟩
  · exact .inl h
  · exact .inr ⟨b, off, c, h1, by omega, h3, h4, fun i j hi hj => (hk _ h2).trans (h5 i j hi hj)⟩
theorem Rf.below {n : Nat} {w w' : World} {v : Value} {L : List (List UInt8)} (h : Rf n w v L) (hb : Below w.heap.size w w') : Rf n w' v L := h.keep hb.size fun _ hp => hb.cell hp
theorem Rf.drewN {n : Nat} {w : World} {v : Value} {L : List (List UInt8)} (h : Rf n w v L) (m : Nat) : Rf n (w.drewN m) v L := h
theorem Rf.empty {n : Nat} (w : World) (A : Option Addr) (c : Nat) (hc : c ≤ maxLen) : Rf n w (.slice A 0 c) [] := ⟨fun _ h => (List.not_mem_nil h).elim, .inl ⟨A, c, rfl, hc, rfl⟩⟩
theorem Rf.form {n : Nat} {w : World} {v : Value} {L : List (List UInt8)} (h : Rf n w v L) : ∃ A c, v = .slice A L.length c ∧ L.length ≤ c ∧ c ≤ maxLen ∧
    (0 < L.length → ∃ b off, A = some ⟨b, off, none⟩ ∧ b < w.heap.size ∧ ∀ i j, i < L.length → j < n → w.cell? ⟨b, off + i * n + j, none⟩ = some (bv ((L.getD i []).getD j 0))) := by
  rcases h.2 with ⟨A, c, rfl, hc, rfl⟩ | ⟨b, off, c, rfl, h2, h3, h4, h5⟩
  · exact ⟨A, c, rfl, Nat.zero_le _, hc, fun h => absurd h (by simp)⟩
  · exact ⟨_, c, rfl, h3, h4, fun _ => ⟨b, off, rfl, h2, h5⟩⟩
theorem len_get {n : Nat} {L : List (List UInt8)} (h : ∀ l ∈ L, l.length = n) {i : Nat} (hi : i < L.length) : (L.getD i []).length = n := by
  rw [List.getD, List.getElem?_eq_getElem hi]
  exact h _ (List.getElem_mem hi)
/-- An element as a range of cells. -/
theorem el_range {n : Nat} {w : World} {b off : Nat} {L : List (List UInt8)} (hl : ∀ l ∈ L, l.length = n) (h5 : ∀ i j, i < L.length → j < n → w.cell? ⟨b, off + i * n + j, none⟩ = some (bv ((L.getD i []).getD j 0))) {i : Nat} (hi : i < L.length) : w.rangeAt b (off + i * n) ((L.getD i []).map bv) := fun j v hv => by
  have hln := len_get hl hi
  have hj : j < n := by
    rcases Nat.lt_or_ge j (L.getD i []).length with h | h
    · omega
    · rw [List.getElem?_eq_none (by simpa using h)] at hv; cases hv
  rw [h5 i j hi hj]
  rw [List.getElem?_map, List.getElem?_eq_getElem (by omega)] at hv
  rw [← hv]
  congr 1
  rw [List.getD, List.getElem?_eq_getElem (by omega)]
  rfl
/-- A piece of an element as a range of cells. -/
theorem el_range_from {n : Nat} {w : World} {b off : Nat} {L : List (List UInt8)} (hl : ∀ l ∈ L, l.length = n) (h5 : ∀ i j, i < L.length → j < n → w.cell? ⟨b, off + i * n + j, none⟩ = some (bv ((L.getD i []).getD j 0))) {i : Nat} (hi : i < L.length) (k : Nat) : w.rangeAt b (off + i * n + k) (((L.getD i []).drop k).map bv) := fun j v hv => by
  have h := el_range hl h5 hi (k + j) v (by rw [List.getElem?_map] at hv ⊢; rw [List.getElem?_drop] at hv; exact hv)
  rw [show off + i * n + k + j = off + i * n + (k + j) by omega]
  exact h
/-- A row of the call's own. -/
def OwnF (n : Nat) (w : World) (base : Nat) (e : TypeId) (v : Value) (L : List (List UInt8)) : Prop := (∀ l ∈ L, l.length = n) ∧ w.ownsRow base e n v L.length (L.flatten.map bv)
theorem flat_get : ∀ {n : Nat} {L : List (List UInt8)}, (∀ l ∈ L, l.length = n) → ∀ i j, i < L.length → j < n → L.flatten[i * n + j]? = some ((L.getD i []).getD j 0)
  | n, l :: L, h, 0, j, _, hj => by
    have hl := h l (List.mem_cons_self ..)
    rw [List.flatten_cons, Nat.zero_mul, Nat.zero_add, List.getElem?_append_left (by omega), List.getElem?_eq_getElem (by omega), List.getD_cons_zero, List.getD, List.getElem?_eq_getElem (by omega)]
    rfl
  | n, l :: L, h, i + 1, j, hi, hj => by
    have hl := h l (List.mem_cons_self ..)
    have e : (i + 1) * n + j = l.length + (i * n + j) := by rw [Nat.add_mul, hl]; omega
    rw [List.flatten_cons, e, List.getElem?_append_right (by omega), Nat.add_sub_cancel_left, List.getD_cons_succ]
    exact flat_get (fun l hl => h l (List.mem_cons_of_mem _ hl)) i j (by simpa using hi) hj
theorem flat_length : ∀ {n : Nat} {L : List (List UInt8)}, (∀ l ∈ L, l.length = n) → L.flatten.length = L.length * n
  | n, [], _ => by simp
  | n, l :: L, h => by
    rw [List.flatten_cons, List.length_append, h l (List.mem_cons_self ..), flat_length (fun l hl => h l (List.mem_cons_of_mem _ hl)), List.length_cons, Nat.add_mul]
    omega
theorem OwnF.nil (n : Nat) (w : World) (base : Nat) (e : TypeId) : OwnF n w base e (.slice none 0 0) [] := ⟨fun _ h => (List.not_mem_nil h).elim, ⟨by simp, .inl ⟨rfl, rfl⟩⟩⟩
theorem OwnF.rf {n : Nat} {w : World} {base : Nat} {e : TypeId} {v : Value} {L : List (List UInt8)} (h : OwnF n w base e v L) : Rf n w v L := by
  refine ⟨h.1, ?_⟩
  rcases h.2.2 with ⟨rfl, h0⟩ | ⟨g, cap, cur, hv, hbg, hgh, hnc, hcm, hcs, htk⟩
  · exact .inl ⟨none, 0, rfl, Nat.zero_le _, List.eq_nil_of_length_eq_zero h0⟩
  · subst hv
    have hlt : g < w.heap.size := by
      rcases Nat.lt_or_ge g w.heap.size with h | h
      · exact h
      · rw [Array.getElem?_eq_none h] at hgh; cases hgh
    refine .inr ⟨g, 0, cap, rfl, hlt, hnc, hcm, fun i j hi hj => ?_⟩
    have hij : i * n + j < L.length * n := by
      have h1 : (i + 1) * n ≤ L.length * n := Nat.mul_le_mul_right n hi
      rw [Nat.add_mul] at h1
      omega
    rw [Nat.zero_add, h.2.cellAt (i * n + j) hij, List.getElem?_map, flat_get h.1 i j hi hj]
    rfl
theorem OwnF.lain {n : Nat} {w w' : World} {base : Nat} {e : TypeId} {v : Value} {L : List (List UInt8)} (h : OwnF n w base e v L) (hb : Below w.heap.size w w') : OwnF n w' base e v L := by
  refine ⟨h.1, h.2.kept (row := none) ⟨hb.os, hb.tape, hb.output, hb.size, fun k hk _ => hb.block k hk⟩ ?_⟩
  by_cases h0 : v.ownBlock = none
  · exact .inl h0
  · exact .inr h0
theorem OwnF.mono {n : Nat} {w : World} {base base' : Nat} {e : TypeId} {v : Value} {L : List (List UInt8)} (h : OwnF n w base e v L) (hb : base' ≤ base) : OwnF n w base' e v L :=
  ⟨h.1, h.2.1, h.2.2.imp id fun ⟨g, cap, cur, h1, h2, h3⟩ => ⟨g, cap, cur, h1, Nat.le_trans hb h2, h3⟩⟩
/-- Another block is stored to. -/
theorem OwnF.sole {n : Nat} {w w' : World} {base B : Nat} {e : TypeId} {v : Value} {L : List (List UInt8)} (h : OwnF n w base e v L) (hs : Sole w w' B) (hne : v.ownBlock ≠ some B) : OwnF n w' base e v L :=
  ⟨h.1, h.2.kept (row := some B) ⟨hs.below.os, hs.below.tape, hs.below.output, Nat.le_of_eq hs.size.symm, fun k _ hk => hs.other k (fun e => hk (by rw [e]))⟩ (.inr hne)⟩
theorem OwnF.lt {n : Nat} {w : World} {base : Nat} {e : TypeId} {v : Value} {L : List (List UInt8)} (h : OwnF n w base e v L) : ∀ k, v.ownBlock = some k → base ≤ k ∧ k < w.heap.size := fun k hk => h.2.lt k hk
/-- append of one element, which lies in a new block of its own, onto a row of the call's own. -/
theorem wpList_append_el {P : Program} (w : World) (sh : List UInt8) (e0 : TypeId) {ops : Array Oper} {rest : List Oper} {o : Oper} {a : Act} {Q : Exit → Act → World → Prop} (hgd : o.guard = none) (s x : Operand) (t : TypeId)
    (ho : o.op = .call { callee := .builtin .append, args := #[s, x], argTypes := #[t, t] })
    (base : Nat) (e : TypeId) (i : TypeInfo) (z : Value) (n bytes : Nat) (ht : P.underlying t = some (.slice e)) (hi : P.info? e = some i) (hz : i.zero = some z)
    (hsize : i.size = n) (hby : i.bytes = bytes) (hzs : z.cells.size = n) (hn : 0 < n)
    (v : Value) (L : List (List UInt8)) (hs : a.eval s = v) (hown : OwnF n w base e v L) (hsh : sh.length = n)
    (hx : a.eval x = .slice (some ⟨w.heap.size, 0, none⟩) 1 1)
    (h63 : L.length + 1 ≤ maxLen) (hb : (L.length + 1) * bytes ≤ 140737488355328) (hbase : base ≤ w.heap.size)
    (h : ∀ v' w', OwnF n w' base e v' (L ++ [sh]) → Next w w' base v v' → wpList P ops Q rest (a.put o.dst v') w') : wpList P ops Q (o :: rest) a (w.alloc (.cells (sh.map bv).toArray e0)) := by
  refine wpList_plain hgd fun K hK => ?_
  obtain ⟨v', w', hr, h2, h3, _, h5⟩ := run_append_own_at (P := P) (w.alloc (.cells (sh.map bv).toArray e0)) base t o.type e i z n bytes ht hi hz hsize hby hzs hn v L.length (L.flatten.map bv) (hown.2.alloc _) ⟨w.heap.size, 0, none⟩ 1 1 (sh.map bv) (by rw [List.length_map, hsh, Nat.one_mul]) (World.news_of_block (cs := (sh.map bv).toArray) (t := e0) (fr := (0, 0)) (heap_alloc_new w _)) (bv_one sh) h63 hb (by simp; omega)
  unfold Oper.wp execOp
  simp only [ho, resolve, invoke, builtin, Sem.run_bind, Sem.run_pure, Result.andThen_ok, List.map_toArray, List.map_cons, List.map_nil, hs, hx, hr]
  refine hK _ _ (h v' w' ⟨fun l hl => ?_, ?_⟩ ⟨((Below.refl _ _).alloc hbase _).grown h3 (by simp; omega) (fun k hk => (hown.lt k hk).1), ?_, fun k hk hne => ?_, ?_⟩)
  · rcases List.mem_append.1 hl with h1 | h1
    · exact hown.1 l h1
    · rw [List.mem_singleton.1 h1]; exact hsh
  · have e1 : (L ++ [sh]).flatten.map bv = L.flatten.map bv ++ sh.map bv := by rw [List.flatten_append, List.map_append, List.flatten_singleton]
    rw [e1, List.length_append]
    exact h2
  · have := h3.size; simp at this; omega
  · exact (h3.block k (by simp; omega) hne).trans (Below.heap_alloc w _ k hk)
  · rcases h5 with e5 | e5
    · exact .inl e5
    · exact .inr ⟨_, e5, by simp⟩
/-- Another own row stays behind such an append. -/
theorem OwnF.next {n : Nat} {w w' : World} {base : Nat} {e : TypeId} {u v v' : Value} {L : List (List UInt8)} (h : OwnF n w base e u L) (hn : Next w w' base v v') (hap : Apart2 u v) : OwnF n w' base e u L := by
  refine ⟨h.1, h.2.kept (row := v.ownBlock) ⟨hn.below.os, hn.below.tape, hn.below.output, hn.size, hn.heap⟩ ?_⟩
  cases hb : u.ownBlock with
  | none => exact .inl rfl
  | some k => exact .inr (fun e => hap k hb (by rw [← e]))
/-- A slice of one element. -/
theorem wpList_build_el {P : Program} {ops : Array Oper} {rest : List Oper} {o : Oper} {a : Act} {w : World} {Q : Exit → Act → World → Prop} (hg : o.guard = none) (t e : TypeId) (x : Operand) (ho : o.op = .buildSlice t 1 #[(0, x)])
    (ie : TypeInfo) (z : Value) (n : Nat) (hu : P.underlying t = some (.slice e)) (hie : P.info? e = some ie) (hz : ie.zero = some z) (hn : ie.size = n) (h0 : 0 < n) (hb : n ≤ 1000)
    (sh : List UInt8) (hsh : sh.length = n) (hx : a.eval x = .agg (sh.map bv).toArray)
    (h : wpList P ops Q rest (a.put o.dst (.slice (some ⟨w.heap.size, 0, none⟩) 1 1)) (w.alloc (.cells (sh.map bv).toArray e))) : wpList P ops Q (o :: rest) a w := by
  subst hn
  refine wpList_buildSlice hg t e 1 #[(0, x)] ho (sh.map bv).toArray ie z hu hie hz (by omega) (by omega) ?_ h
  have hp : (#[(0, x)].map fun (i, x) => (i, a.eval x)).toList = (([Value.agg (sh.map bv).toArray].zipIdx 0).map fun x => (x.2, x.1)) := by simp [hx]
  rw [hp]
  obtain ⟨r, hr, hrs, hk⟩ := Great.fill_dense h0 [Value.agg (sh.map bv).toArray] 0 ((Array.range (1 * ie.size)).map (z.cells[· % z.cells.size]!)) (fun v hv => by rw [List.mem_singleton.1 hv]; simp [Value.cells, hsh]) (by simp)
  rw [hr]
  congr 1
  apply Array.ext_getElem?
  intro k
  rw [hk k]
  simp only [Nat.zero_mul, Nat.zero_le, true_and, List.length_singleton, Nat.zero_add, Nat.one_mul]
  by_cases hlt : k < ie.size
  · rw [if_pos hlt, Nat.div_eq_of_lt hlt, Nat.mod_eq_of_lt hlt]
    simp [Value.cells]
  · rw [if_neg hlt, Array.getElem?_eq_none (by simp; omega), Array.getElem?_eq_none (by simp; omega)]
end Go.Proofs.Ytckgpocfcanokaa
