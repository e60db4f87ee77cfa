/- Rows of structs: an element loaded whole, stored whole, appended; a slice of one element; a piece of another row appended. No condition of its own. -/
import Derived.Test.YtckgpocfcanokaaSrow
import Derived.Deep.MidRow
import Derived.Maps.AppendAt
import Derived.Laws.AppendOwnNone
namespace Go.Proofs.Ytckgpocfcanokaa
open Go.RowKit

theorem inf_of {P : Program} {t : TypeId} {z : Value} {n m : Nat} (h : (P.info? t).map (fun i => (i.zero, i.size, i.bytes)) = some (some z, n, m)) : ∃ i, P.info? t = some i ∧ i.zero = some z ∧ i.size = n ∧ i.bytes = m := by
  cases hi : P.info? t with
  | none => rw [hi] at h; cases h
  | some i => rw [hi] at h; simp at h; exact ⟨i, rfl, h.1, h.2.1, h.2.2⟩
theorem zer_of {P : Program} {t : TypeId} {z : Value} {n m : Nat} (h : (P.info? t).map (fun i => (i.zero, i.size, i.bytes)) = some (some z, n, m)) : (P.info? t).bind (·.zero) = some z := by
  obtain ⟨i, hi, hz, _⟩ := inf_of h
  rw [hi]
  exact hz
theorem siz_of {P : Program} {t : TypeId} {z : Value} {n m : Nat} (h : (P.info? t).map (fun i => (i.zero, i.size, i.bytes)) = some (some z, n, m)) : (P.info? t).map (·.size) = some n := by
  obtain ⟨i, hi, _, hs, _⟩ := inf_of h
  rw [hi, ← hs]
  rfl
/-- A variable of a type whose zero value is an array, or a struct. -/
theorem wpList_alloc_v {P : Program} {ops : Array Oper} {rest : List Oper} {o : Oper} {a : Act} {w : World} {Q : Exit → Act → World → Prop} (hgd : o.guard = none) (t : TypeId) (ho : o.op = .alloc t) (cs : Array Value)
    (hz : (P.info? t).bind (·.zero) = some (.agg cs)) (N : Nat) (hN : w.heap.size = N)
    (h : wpList P ops Q rest (a.put o.dst (.pointer (some ⟨N, 0, none⟩))) (w.alloc (.cells cs t))) : wpList P ops Q (o :: rest) a w := by
  subst hN
  refine wpList_plain hgd fun K hK => ?_
  have hrun : (zeroValue t).run P w = .ok (.agg cs) w := by
    cases hi : P.info? t with
    | none => rw [hi] at hz; cases hz
    | some i =>
      rw [hi] at hz
      have hz : i.zero = some (.agg cs) := hz
      simp [zeroValue, typeInfo, hi, hz]
  unfold Oper.wp
  simp [execOp, ho, Instr.alloc, hrun, Result.andThen]
  exact hK _ _ h
/-- A value is built whose cells are known. -/
theorem wpList_build_it {P : Program} {ops : Array Oper} {rest : List Oper} {o : Oper} {a : Act} {w : World} {Q : Exit → Act → World → Prop} (hg : o.guard = none) (t : TypeId) (parts : Array (Nat × Operand)) (ho : o.op = .build t parts) (ps : List (Nat × Value)) (hp : (parts.toList.map fun p => (p.1, a.eval p.2)) = ps) (cells : Array Value)
    (hf : P.built t ps = some cells)
    (h : wpList P ops Q rest (a.put o.dst (.agg cells)) w) : wpList P ops Q (o :: rest) a w := by
  have e : (parts.map fun (i, x) => (i, a.eval x)).toList = ps := by
    rw [Array.toList_map]
    exact hp
  refine wpList_build hg t parts ho (by rw [e, hf]; rfl) ?_
  rw [e, hf]
  exact h
theorem OwnR.range {n : Nat} {w : World} {base : Nat} {e : TypeId} {R : List (List Value)} {g m c : Nat} (h : OwnR n w base e (.slice (some ⟨g, 0, none⟩) m c) R) {i : Nat} (hi : i < R.length) : w.rangeAt g (i * n) (R.getD i []) := by
  intro j u hu
  have hj : j < n := by
    rcases Nat.lt_or_ge j n with h1 | h1
    · exact h1
    · rw [List.getElem?_eq_none (by rw [row_at h.1 hi]; exact h1)] at hu
      cases hu
  rw [h.cell i j hi hj]
  exact hu
theorem rows_length : ∀ {n : Nat} {R : List (List Value)}, (∀ l ∈ R, l.length = n) → R.flatten.length = R.length * n
  | n, [], _ => by simp
  | n, l :: R, h => by
    rw [List.flatten_cons, List.length_append, h l (List.mem_cons_self ..), rows_length (fun l hl => h l (List.mem_cons_of_mem _ hl)), List.length_cons, Nat.add_mul]
    omega
theorem OwnR.there {n : Nat} {w : World} {base : Nat} {e : TypeId} {R : List (List Value)} {g m c : Nat} (h : OwnR n w base e (.slice (some ⟨g, 0, none⟩) m c) R) {i : Nat} (hi : i < R.length) : w.there g (i * n) n := fun j hj => by
  rw [h.cell i j hi hj, List.getElem?_eq_getElem (by rw [row_at h.1 hi]; exact hj)]
  exact ⟨rfl, h.free _⟩
/-- An element is stored, cell by cell. -/
theorem OwnR.lay {n base : Nat} {e : TypeId} {g m c : Nat} : ∀ (vs : List Value) (i j : Nat) (w : World) (R : List (List Value)), OwnR n w base e (.slice (some ⟨g, 0, none⟩) m c) R → i < R.length → j + vs.length ≤ n → OwnR n (w.setCells g (i * n + j) vs) base e (.slice (some ⟨g, 0, none⟩) m c) (R.set i (layL (R.getD i []) j vs))
  | [], i, j, w, R, h, hi, _ => by
    have e : R.set i (R.getD i []) = R := by
      rw [List.getD, List.getElem?_eq_getElem hi]
      exact List.set_getElem_self hi
    show OwnR n w base _ _ (R.set i (R.getD i []))
    rw [e]
    exact h
  | v :: r, i, j, w, R, h, hi, hj => by
    rw [List.length_cons] at hj
    have h1 := OwnR.lay r i (j + 1) _ _ (h.stored i j v hi (by omega)) (by rw [List.length_set]; exact hi) (by omega)
    have e : (R.set i ((R.getD i []).set j v)).getD i [] = (R.getD i []).set j v := by
      rw [List.getD, List.getElem?_set_self hi]
      rfl
    rw [e, List.set_set] at h1
    exact h1
/-- An element is stored whole. -/
theorem OwnR.put {n base : Nat} {e : TypeId} {g m c : Nat} {w : World} {R : List (List Value)} (h : OwnR n w base e (.slice (some ⟨g, 0, none⟩) m c) R) {i : Nat} (hi : i < R.length) {l : List Value} (hl : l.length = n) : OwnR n (w.setCells g (i * n) l) base e (.slice (some ⟨g, 0, none⟩) m c) (R.set i l) := by
  have h1 := OwnR.lay l i 0 w R h hi (by omega)
  rw [layL_all (by rw [row_at h.1 hi]; exact hl)] at h1
  exact h1
/-- An element is loaded whole. -/
theorem wpList_load_row_el {P : Program} {ops : Array Oper} {rest : List Oper} {op : Oper} {a : Act} {w : World} {Q : Exit → Act → World → Prop} (hgd : op.guard = none) (ty : TypeId) (x : Operand) (ho : op.op = .load ty x)
    {n base g m c : Nat} {e : TypeId} {R : List (List Value)} (h : OwnR n w base e (.slice (some ⟨g, 0, none⟩) m c) R) {i : Nat} (hi : i < R.length) (hx : a.eval x = .pointer (some ⟨g, i * n, none⟩)) (d : TypeDesc)
    (hu : P.underlying ty = some d) (hd : d.isRow = true) (hs : (P.info? ty).map (·.size) = some n)
    (hQ : wpList P ops Q rest (a.put op.dst (.agg (R.getD i []).toArray)) w) : wpList P ops Q (op :: rest) a w :=
  wpList_load_mid hgd ty x ho g (i * n) hx _ d (h.range hi) hu hd (by rw [row_at h.1 hi]; exact hs) hQ
/-- append of one element, which lies in a new block of its own, onto a row of the call's own. -/
theorem wpList_append_elR {P : Program} (w : World) (l : List Value) (e0 : TypeId) {ops : Array Oper} {rest : List Oper} {o : Oper} {a : Act} {Q : Exit → Act → World → Prop} (hgd : o.guard = none) (s x : Operand) (t : TypeId)
    (ho : o.op = .call { callee := .builtin .append, args := #[s, x], argTypes := #[t, t] })
    (base : Nat) (e : TypeId) (i : TypeInfo) (z : Value) (n bytes : Nat) (ht : P.underlying t = some (.slice e)) (hi : P.info? e = some i) (hz : i.zero = some z)
    (hsize : i.size = n) (hby : i.bytes = bytes) (hzs : z.cells.size = n) (hn : 0 < n)
    (v : Value) (R : List (List Value)) (hs : a.eval s = v) (hown : OwnR n w base e v R) (hl : l.length = n) (h1 : ∀ u ∈ l, u.oneCell' = true)
    (hx : a.eval x = .slice (some ⟨w.heap.size, 0, none⟩) 1 1)
    (h63 : R.length + 1 ≤ maxLen) (hb : (R.length + 1) * bytes ≤ 140737488355328) (hbase : base ≤ w.heap.size)
    (h : ∀ v' w', OwnR n w' base e v' (R ++ [l]) → Next w w' base v v' → wpList P ops Q rest (a.put o.dst v') w') : wpList P ops Q (o :: rest) a (w.alloc (.cells l.toArray e0)) := by
  refine wpList_plain hgd fun K hK => ?_
  obtain ⟨v', w', hr, h2, h3, _, h5⟩ := run_append_own_at (P := P) (w.alloc (.cells l.toArray e0)) base t o.type e i z n bytes ht hi hz hsize hby hzs hn v R.length R.flatten (hown.2.alloc _) ⟨w.heap.size, 0, none⟩ 1 1 l (by rw [hl, Nat.one_mul]) (World.news_of_block (cs := l.toArray) (t := e0) (fr := (0, 0)) (heap_alloc_new w _)) h1 h63 hb (by simp; omega)
  unfold Oper.wp execOp
  simp only [ho, resolve, invoke, builtin, Sem.run_bind, Sem.run_pure, Result.andThen_ok, List.map_toArray, List.map_cons, List.map_nil, hs, hx, hr]
  refine hK _ _ (h v' w' ⟨fun l' hl' => ?_, ?_⟩ ⟨((Below.refl _ _).alloc hbase _).grown h3 (by simp; omega) (fun k hk => (hown.lt k hk).1), ?_, fun k hk hne => ?_, ?_⟩)
  · rcases List.mem_append.1 hl' with h4 | h4
    · exact hown.1 l' h4
    · rw [List.mem_singleton.1 h4]; exact hl
  · have e1 : (R ++ [l]).flatten = R.flatten ++ l := by rw [List.flatten_append, List.flatten_singleton]
    rw [e1, List.length_append]
    exact h2
  · have := h3.size; simp at this; omega
  · exact (h3.block k (by simp; omega) hne).trans (Below.heap_alloc w _ k hk)
  · rcases h5 with e5 | e5
    · exact .inl e5
    · exact .inr ⟨_, e5, by simp⟩
/-- A slice of one element. -/
theorem wpList_build_elR {P : Program} {ops : Array Oper} {rest : List Oper} {o : Oper} {a : Act} {w : World} {Q : Exit → Act → World → Prop} (hg : o.guard = none) (t e : TypeId) (x : Operand) (ho : o.op = .buildSlice t 1 #[(0, x)])
    (ie : TypeInfo) (z : Value) (n : Nat) (hu : P.underlying t = some (.slice e)) (hie : P.info? e = some ie) (hz : ie.zero = some z) (hn : ie.size = n) (h0 : 0 < n) (hb : n ≤ 1000)
    (l : List Value) (hl : l.length = n) (hx : a.eval x = .agg l.toArray)
    (h : wpList P ops Q rest (a.put o.dst (.slice (some ⟨w.heap.size, 0, none⟩) 1 1)) (w.alloc (.cells l.toArray e))) : wpList P ops Q (o :: rest) a w := by
  subst hn
  refine wpList_buildSlice hg t e 1 #[(0, x)] ho l.toArray ie z hu hie hz (by omega) (by omega) ?_ h
  have hp : (#[(0, x)].map fun (i, x) => (i, a.eval x)).toList = (([Value.agg l.toArray].zipIdx 0).map fun x => (x.2, x.1)) := by simp [hx]
  rw [hp]
  obtain ⟨r, hr, hrs, hk⟩ := Great.fill_dense h0 [Value.agg l.toArray] 0 ((Array.range (1 * ie.size)).map (z.cells[· % z.cells.size]!)) (fun v hv => by rw [List.mem_singleton.1 hv]; simp [Value.cells, hl]) (by simp)
  rw [hr]
  congr 1
  apply Array.ext_getElem?
  intro k
  rw [hk k]
  simp only [Nat.zero_mul, Nat.zero_le, true_and, List.length_singleton, Nat.zero_add, Nat.one_mul]
  by_cases hlt : k < ie.size
  · rw [if_pos hlt, Nat.div_eq_of_lt hlt, Nat.mod_eq_of_lt hlt]
    simp [Value.cells]
  · rw [if_neg hlt, Array.getElem?_eq_none (by simp; omega), Array.getElem?_eq_none (by simp; omega)]
/-- append of another row's piece onto a row of the call's own. -/
theorem wpList_append_rowR {P : Program} (w : World) {ops : Array Oper} {rest : List Oper} {o : Oper} {a : Act} {Q : Exit → Act → World → Prop} (hgd : o.guard = none) (s x : Operand) (t : TypeId)
    (ho : o.op = .call { callee := .builtin .append, args := #[s, x], argTypes := #[t, t] })
    (base : Nat) (e : TypeId) (i : TypeInfo) (z : Value) (n bytes : Nat) (ht : P.underlying t = some (.slice e)) (hi : P.info? e = some i) (hz : i.zero = some z)
    (hsize : i.size = n) (hby : i.bytes = bytes) (hzs : z.cells.size = n) (hn : 0 < n)
    (v : Value) (R : List (List Value)) (hs : a.eval s = v) (hown : OwnR n w base e v R)
    (vx : Value) (R2 : List (List Value)) (hl2 : ∀ l ∈ R2, l.length = n) (h1 : ∀ l ∈ R2, ∀ u ∈ l, u.oneCell' = true)
    (hx : a.eval x = vx) (hv : (vx = .slice none 0 0 ∧ R2 = []) ∨ ∃ b off c, vx = .slice (some ⟨b, off, none⟩) R2.length c ∧ ∀ i j, i < R2.length → j < n → w.cell? ⟨b, off + (i * n + j), none⟩ = (R2.getD i [])[j]?)
    (h63 : R.length + R2.length ≤ maxLen) (hb : (R.length + R2.length) * bytes ≤ 140737488355328) (hbase : base ≤ w.heap.size)
    (h : ∀ v' w', OwnR n w' base e v' (R ++ R2) → Next w w' base v v' → wpList P ops Q rest (a.put o.dst v') w') : wpList P ops Q (o :: rest) a w := by
  rcases hv with ⟨rfl, rfl⟩ | ⟨b, off, c, rfl, hc⟩
  · exact wpList_append_own_none hgd s x t ho base e i n ht hi v R.length R.flatten hs hown.2 hx (h v w (by rw [List.append_nil]; exact hown) ⟨Below.refl _ _, Nat.le_refl _, fun _ _ _ => rfl, .inl rfl⟩)
  · refine wpList_append_own_at w hgd s x t ho base e i z n bytes ht hi hz hsize hby hzs hn v R.length R.flatten hs hown.2 ⟨b, off, none⟩ R2.length c R2.flatten hx (rows_length hl2) ?_ ?_ h63 hb hbase fun v' w' k1 k2 _ k4 => h v' w' ⟨?_, ?_⟩ ⟨(Below.refl _ _).grown k2 hbase (fun k hk => (hown.lt k hk).1), k2.size, k2.block, ?_⟩
    · intro j u hu
      have hj : j < R2.length * n := by
        rcases Nat.lt_or_ge j (R2.length * n) with h2 | h2
        · exact h2
        · rw [List.getElem?_eq_none (by rw [rows_length hl2]; exact h2)] at hu
          cases hu
      have h2 : j / n < R2.length := (Nat.div_lt_iff_lt_mul hn).2 hj
      have h3 : j % n < n := Nat.mod_lt _ hn
      have e1 : j / n * n + j % n = j := by rw [Nat.mul_comm]; exact Nat.div_add_mod j n
      have h4 := hc (j / n) (j % n) h2 h3
      rw [← rows_get hl2 _ _ h2 h3, e1, hu] at h4
      by_cases h0 : j = 0
      · subst h0
        simpa [Addr.add] using h4
      · simpa [Addr.add, h0] using h4
    · intro u hu
      obtain ⟨l, hl, hul⟩ := List.mem_flatten.1 hu
      exact h1 l hl u hul
    · intro l hl
      rcases List.mem_append.1 hl with h4 | h4
      · exact hown.1 l h4
      · exact hl2 l h4
    · rw [List.length_append, List.flatten_append]
      exact k1
    · rcases k4 with e5 | e5
      · exact .inl e5
      · exact .inr ⟨_, e5, Nat.le_refl _⟩
/-- A block is made: which, what it holds. -/
theorem wpList_alloc_w {P : Program} {ops : Array Oper} {rest : List Oper} {o : Oper} {a : Act} {w : World} {Q : Exit → Act → World → Prop} (hgd : o.guard = none) (t : TypeId) (ho : o.op = .alloc t) (cs : List Value)
    (hz : (P.info? t).bind (·.zero) = some (.agg cs.toArray)) (N : Nat) (hN : w.heap.size = N)
    (h : ∀ w', Blk w' N t cs → Below N w w' → w'.heap.size = N + 1 → wpList P ops Q rest (a.put o.dst (.pointer (some ⟨N, 0, none⟩))) w') : wpList P ops Q (o :: rest) a w := by
  refine wpList_alloc_v hgd t ho cs.toArray hz N hN ?_
  subst hN
  exact h _ (Blk.made w t cs) ((Below.refl _ _).alloc (Nat.le_refl _) _) (World.size_alloc _ _)
theorem row_form {w : World} {base n : Nat} {t : TypeId} {v : Value} {xs : List Value} (h : w.ownsRow base t 1 v n xs) : ∃ Ap cp, v = .slice Ap n cp ∧ ∀ i x, xs[i]? = some x → ∃ g, Ap = some ⟨g, 0, none⟩ ∧ base ≤ g ∧ g < w.heap.size ∧ w.cell? ⟨g, i, none⟩ = some x := by
  have h0 := h.1
  rcases h.2 with ⟨rfl, rfl⟩ | ⟨g, cap, cur, rfl, hb, hg, _⟩
  · refine ⟨none, 0, rfl, fun i x hx => ?_⟩
    have : xs = [] := List.eq_nil_of_length_eq_zero (by omega)
    rw [this] at hx
    cases hx
  · refine ⟨_, cap, rfl, fun i x hx => ⟨g, rfl, hb, (Array.getElem?_eq_some_iff.1 hg).1, ?_⟩⟩
    have hi := (List.getElem?_eq_some_iff.1 hx).1
    rw [h.cellAt i (by omega)]
    exact hx
end Go.Proofs.Ytckgpocfcanokaa
