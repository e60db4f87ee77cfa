/- Laws at one step of a region that draws its order: append of bytes onto a row of the call's own. No condition of its own. -/
import Derived.Test.YtckgpocfcanokaaGen
import Derived.Test.YtckgpocfcanokaaTwo
namespace Go.Proofs.Ytckgpocfcanokaa
open Go.RowKit

theorem wp_append_rd {P : Program} (w : World) {o : Oper} {a : Act} {K : Act → World → Prop} {Q : Exit → Act → World → Prop} (s x : Operand) (t : TypeId)
    (ho : o.op = .call { callee := .builtin .append, args := #[s, x], argTypes := #[t, t] })
    (base : Nat) (e : TypeId) (i : TypeInfo) (z : Value) (ht : P.underlying t = some (.slice e)) (hi : P.info? e = some i) (hz : i.zero = some z)
    (hsize : i.size = 1) (hby : i.bytes = 1) (hzs : z.cells.size = 1)
    (v : Value) (n : Nat) (xs : List Value) (hs : a.eval s = v) (hown : w.ownsRow base e 1 v n xs)
    (vx : Value) (ys : List UInt8) (hx : a.eval x = vx) (hr : Rd w vx ys) (hy : 0 < ys.length)
    (hb : n + ys.length ≤ 140737488355328) (hbase : base ≤ w.heap.size)
    (h : ∀ v' w', w'.ownsRow base e 1 v' (n + ys.length) (xs ++ ys.map bv) → w.grownBy w' v.ownBlock → K (a.put o.dst v') w') : o.wp P a w K Q := by
  rcases hr with ⟨A, c, rfl, hc, hA, rfl⟩ | ⟨b, off, c, h1, h2, h3, h4, h5⟩
  · simp at hy
  · refine wp_append_own w s x t ho base e i z 1 1 ht hi hz hsize hby hzs (by omega) v n xs hs hown ⟨b, off, none⟩ ys.length c (ys.map bv) (by rw [hx, h1]) (by simp) ?_ (bv_one ys) (by unfold maxLen; omega) (by omega) hbase fun v' w' k1 k2 _ => h v' w' k1 k2
    intro j u hu
    rw [List.getElem?_map] at hu
    by_cases hj : j < ys.length
    · rw [List.getElem?_eq_getElem hj] at hu
      obtain rfl : bv ys[j] = u := by simpa using hu
      have h6 := h5 j hj
      by_cases h0 : j = 0
      · subst h0; simpa [Addr.add, bv] using h6
      · simpa [Addr.add, h0, bv] using h6
    · rw [List.getElem?_eq_none (by omega)] at hu
      simp at hu
theorem step_append_rd {P : Program} (w : World) {ops : Array Oper} {o : Oper} {a : Act} {K : Act → World → Prop} {Q : Exit → Act → World → Prop} {E : Prop} (hgd : o.guard = none) (s x : Operand) (t : TypeId)
    (ho : o.op = .call { callee := .builtin .append, args := #[s, x], argTypes := #[t, t] })
    (base : Nat) (e : TypeId) (i : TypeInfo) (z : Value) (ht : P.underlying t = some (.slice e)) (hi : P.info? e = some i) (hz : i.zero = some z)
    (hsize : i.size = 1) (hby : i.bytes = 1) (hzs : z.cells.size = 1)
    (v : Value) (n : Nat) (xs : List Value) (hs : a.eval s = v) (hown : w.ownsRow base e 1 v n xs)
    (vx : Value) (ys : List UInt8) (hx : a.eval x = vx) (hr : Rd w vx ys) (hy : 0 < ys.length)
    (hb : n + ys.length ≤ 140737488355328) (hbase : base ≤ w.heap.size)
    (h : ∀ v' w', w'.ownsRow base e 1 v' (n + ys.length) (xs ++ ys.map bv) → w.grownBy w' v.ownBlock → K (a.put o.dst v') w') :
    if Region.wanted o (yielded ops a.tmps) = true then Oper.wp P o a w K Q else E := by
  have hw : Region.wanted o (yielded ops a.tmps) = true := by simp [Region.wanted, hgd]
  rw [if_pos hw]
  exact wp_append_rd w s x t ho base e i z ht hi hz hsize hby hzs v n xs hs hown vx ys hx hr hy hb hbase h
/-- What is left of the elder world behind an append of one element: each block but the row; the new row lies where the elder one lay, or behind all that was. -/
structure Next (w w' : World) (base : Nat) (v v' : Value) : Prop where
  below : Below base w w'
  size : w.heap.size ≤ w'.heap.size
  heap : ∀ k, k < w.heap.size → some k ≠ v.ownBlock → w'.heap[k]? = w.heap[k]?
  blk : v'.ownBlock = v.ownBlock ∨ ∃ k, v'.ownBlock = some k ∧ w.heap.size ≤ k
theorem Next.cell {w w' : World} {base : Nat} {v v' : Value} (h : Next w w' base v v') {p : Addr} (hp : p.block < w.heap.size) (hne : some p.block ≠ v.ownBlock) : w'.cell? p = w.cell? p := World.cell?_of_block (h.heap _ hp hne)
theorem Next.rd {w w' : World} {base : Nat} {v v' u : Value} {ys : List UInt8} (h : Next w w' base v v') (hr : Rd w u ys) (hap : Apart2 u v) : Rd w' u ys := by
  rcases hr with h1 | ⟨b, off, c, rfl, h2, h3, h4, h5⟩
  · exact .inl h1
  · refine .inr ⟨b, off, c, rfl, Nat.lt_of_lt_of_le h2 h.size, h3, h4, fun i hi => ?_⟩
    rw [h.cell (p := ⟨b, off + i, none⟩) h2 (fun e => hap b rfl e.symm)]
    exact h5 i hi
theorem Next.apart {w w' : World} {base : Nat} {v v' u : Value} (h : Next w w' base v v') (hu : ∀ k, u.ownBlock = some k → k < w.heap.size) (hap : Apart2 u v) : Apart2 u v' := fun k hk hk' => by
  rcases h.blk with e | ⟨j, e, hj⟩
  · exact hap k hk (by rw [← e]; exact hk')
  · rw [e] at hk'
    have := hu k hk
    have e2 : j = k := by simpa using hk'
    omega
theorem wp_append_one_at {P : Program} (w : World) (u : Value) (e0 : TypeId) {o : Oper} {a : Act} {K : Act → World → Prop} {Q : Exit → Act → World → Prop} (s x : Operand) (t : TypeId)
    (ho : o.op = .call { callee := .builtin .append, args := #[s, x], argTypes := #[t, t] })
    (base : Nat) (e : TypeId) (i : TypeInfo) (z : Value) (bytes : Nat) (ht : P.underlying t = some (.slice e)) (hi : P.info? e = some i) (hz : i.zero = some z)
    (hsize : i.size = 1) (hby : i.bytes = bytes) (hzs : z.cells.size = 1) (hu : u.oneCell' = true)
    (v : Value) (n : Nat) (xs : List Value) (hs : a.eval s = v) (hown : w.ownsRow base e 1 v n xs)
    (hx : a.eval x = .slice (some ⟨w.heap.size, 0, none⟩) 1 1)
    (h63 : n + 1 ≤ maxLen) (hb : (n + 1) * bytes ≤ 140737488355328) (hbase : base ≤ w.heap.size)
    (h : ∀ v' w', w'.ownsRow base e 1 v' (n + 1) (xs ++ [u]) → Next w w' base v v' → K (a.put o.dst v') w') : o.wp P a (w.alloc (.cells #[u] e0)) K Q := by
  obtain ⟨v', w', hr, h2, h3, _, h5⟩ := run_append_own_at (P := P) (w.alloc (.cells #[u] e0)) base t o.type e i z 1 bytes ht hi hz hsize hby hzs (by omega) v n xs (hown.alloc _) ⟨w.heap.size, 0, none⟩ 1 1 [u] rfl (World.news_of_block (cs := #[u]) (t := e0) (fr := (0, 0)) (heap_alloc_new w _)) (by simpa using hu) h63 hb (by simp; omega)
  unfold Oper.wp execOp
  simp only [ho, resolve, invoke, builtin, Sem.run_bind, Sem.run_pure, Result.andThen_ok, List.map_toArray, List.map_cons, List.map_nil, hs, hx, hr]
  refine h v' w' h2 ⟨((Below.refl _ _).alloc hbase _).grown h3 (by simp; omega) (fun k hk => (hown.lt k hk).1), ?_, fun k hk hne => ?_, ?_⟩
  · have := h3.size; simp at this; omega
  · exact (h3.block k (by simp; omega) hne).trans (Below.heap_alloc w _ k hk)
  · rcases h5 with e5 | e5
    · exact .inl e5
    · exact .inr ⟨_, e5, by simp⟩
theorem step_append_one_at {P : Program} (w : World) (u : Value) (e0 : TypeId) {ops : Array Oper} {o : Oper} {a : Act} {K : Act → World → Prop} {Q : Exit → Act → World → Prop} {E : Prop} (hgd : o.guard = none) (s x : Operand) (t : TypeId)
    (ho : o.op = .call { callee := .builtin .append, args := #[s, x], argTypes := #[t, t] })
    (base : Nat) (e : TypeId) (i : TypeInfo) (z : Value) (bytes : Nat) (ht : P.underlying t = some (.slice e)) (hi : P.info? e = some i) (hz : i.zero = some z)
    (hsize : i.size = 1) (hby : i.bytes = bytes) (hzs : z.cells.size = 1) (hu : u.oneCell' = true)
    (v : Value) (n : Nat) (xs : List Value) (hs : a.eval s = v) (hown : w.ownsRow base e 1 v n xs)
    (hx : a.eval x = .slice (some ⟨w.heap.size, 0, none⟩) 1 1)
    (h63 : n + 1 ≤ maxLen) (hb : (n + 1) * bytes ≤ 140737488355328) (hbase : base ≤ w.heap.size)
    (h : ∀ v' w', w'.ownsRow base e 1 v' (n + 1) (xs ++ [u]) → Next w w' base v v' → K (a.put o.dst v') w') :
    if Region.wanted o (yielded ops a.tmps) = true then Oper.wp P o a (w.alloc (.cells #[u] e0)).drew K Q else E := by
  have hw : Region.wanted o (yielded ops a.tmps) = true := by simp [Region.wanted, hgd]
  rw [if_pos hw]
  show Oper.wp P o a ((w.drew).alloc (.cells #[u] e0)) K Q
  exact wp_append_one_at w.drew u e0 s x t ho base e i z bytes ht hi hz hsize hby hzs hu v n xs hs hown hx h63 hb hbase fun v' w' k1 k2 => h v' w' k1 ⟨⟨k2.below.os, k2.below.tape, k2.below.output, k2.below.size, k2.below.block⟩, k2.size, k2.heap, k2.blk⟩
theorem ob_lt {g o n c B : Nat} (h : g < B) : ∀ q, (Value.slice (some ⟨g, o, none⟩) n c).ownBlock = some q → q < B := fun q hq => by
  have e : g = q := by simpa [Value.ownBlock] using hq
  omega
theorem run_storeVar_cell {P : Program} (w : World) (b o : Nat) (ty : TypeId) (v : Value) (hc : v.cells = #[v]) (h1 : v.oneCell' = true) (ht : w.there b o 1) (hi : (P.info? ty).map (·.size) = some 1) :
    (storeVar ty ⟨b, o, none⟩ v).run P w = .ok () (w.setCells b o [v]) := by
  have := run_storeCells_cells (P := P) b o [v] 0 w (fun j hj => by simpa using (ht j (by simpa using hj)).1) (fun j hj => by simpa using (ht j (by simpa using hj)).2)
    (fun u hu => by rw [List.mem_singleton.1 hu]; exact h1)
  cases hq : P.info? ty with
  | none => simp [hq] at hi
  | some i =>
    have hs : i.size = 1 := by simpa [hq] using hi
    simp only [Nat.add_zero] at this
    simp [storeVar, sizeOf, typeInfo, hq, hc, hs, this]
/-- One cell is stored into a block that is known whole, at a step of a region that draws its order. -/
theorem step_store_blk {P : Program} {ops : Array Oper} {o : Oper} {a : Act} {w : World} {K : Act → World → Prop} {Q : Exit → Act → World → Prop} {E : Prop} (hgd : o.guard = none) (ty : TypeId) (x y : Operand) (ho : o.op = .store ty x y)
    (B j : Nat) (t : TypeId) (cs : List Value) (hb : Blk w B t cs) (v : Value) (hx : a.eval x = .pointer (some ⟨B, j, none⟩)) (hy : a.eval y = v)
    (hj : j < cs.length) (hc : v.cells = #[v]) (h1 : v.oneCell' = true) (hi : (P.info? ty).map (·.size) = some 1)
    (h : ∀ w', Blk w' B t (cs.set j v) → Sole w w' B → K (a.put o.dst undef) w') :
    if Region.wanted o (yielded ops a.tmps) = true then Oper.wp P o a w K Q else E := by
  have hw : Region.wanted o (yielded ops a.tmps) = true := by simp [Region.wanted, hgd]
  rw [if_pos hw]
  have ht : w.there B j 1 := fun i hi => by
    obtain rfl : i = 0 := by omega
    rw [Nat.add_zero, hb.cell j, hb.free j, List.getElem?_eq_getElem hj]
    exact ⟨rfl, rfl⟩
  unfold Oper.wp execOp
  simp only [ho, hx, hy, Instr.storeAt, Instr.sureAddr, Sem.run_bind, Sem.run_pure, Result.andThen_ok, run_storeVar_cell w B j ty v hc h1 ht hi]
  exact h _ (hb.set j v) (Sole.setCell w B j v)
end Go.Proofs.Ytckgpocfcanokaa
