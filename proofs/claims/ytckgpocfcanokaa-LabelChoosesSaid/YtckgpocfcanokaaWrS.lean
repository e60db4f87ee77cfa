/- A text's bytes appended to a row of bytes that may be written up to its capacity; a text turned to bytes, as such a row. No condition of its own. -/
import Derived.Test.YtckgpocfcanokaaWr
import Derived.Test.YtckgpocfcanokaaGen
import Derived.Lib.AppendStr
namespace Go.Proofs.Ytckgpocfcanokaa
open Go.RowKit

theorem str_cellsW (s : ByteArray) : Go.Lib.strCells s = s.toList.map bv := by
  rw [ByteArray.toList_eq]
  rfl
theorem run_append_wrs {P : Program} (w : World) (t u ty e : TypeId) (i : TypeInfo) (ht : P.underlying t = some (.slice e)) (hu : P.underlying u = some .string) (hi : P.info? e = some i) (hz : i.zero = some (.int .u8 0)) (hsize : i.size = 1) (hby : i.bytes = 1)
    (base : Nat) (v : Value) (xs : List UInt8) (hw : Wr w base v xs) (s : ByteArray) (hb : xs.length + s.size ≤ 140737488355328) (hbase : base ≤ w.heap.size) :
    ∃ v' w', (Builtin.append_ #[t, u] ty #[v, .string s]).run P w = .ok v' w' ∧ Wr w' base v' (xs ++ s.toList) ∧ w.grownBy w' v.ownBlock ∧ (v'.ownBlock = v.ownBlock ∨ v'.ownBlock = some w.heap.size) := by
  obtain ⟨g, cap, rfl, h1, h2, h3, h4, h5, h6⟩ := hw
  have hsc := str_cellsW s
  have hsl : s.toList.length = s.size := by rw [ByteArray.toList_eq, Array.length_toList]; rfl
  by_cases hroom : xs.length + s.size ≤ cap
  · have hf := Go.Lib.run_firstCells_string (P := P) w 1 s
    have hl : (Go.Lib.strCells s).length = s.size := Go.Lib.strCells_length s
    have hst := run_storeCells_cells (P := P) g xs.length (Go.Lib.strCells s) 0 w (fun j hj => (h6 (xs.length + 0 + j) (by omega)).1) (fun j hj => (h6 (xs.length + 0 + j) (by omega)).2) (Go.Lib.strCells_oneCell s)
    simp only [Nat.add_zero] at hst
    have hrun : (Builtin.append_ #[t, u] ty #[.slice (some ⟨g, 0, none⟩) xs.length cap, .string s]).run P w = .ok (.slice (some ⟨g, 0, none⟩) (xs.length + s.size) cap) (w.setCells g xs.length (Go.Lib.strCells s)) := by
      simp [Builtin.append_, run_underlying ht, run_underlying hu, sizeOf, typeInfo, hi, hsize, Builtin.lenOf, hroom, hf, Addr.add_lit, hst]
    rw [hsc] at hrun
    have hbel := Go.below_setCells (B := base) (b := g) (a := w) h1 (s.toList.map bv) xs.length w (Below.refl _ _)
    have hso := Sole.setCells g (s.toList.map bv) xs.length w
    have hin := World.cell?_setCells_in g (s.toList.map bv) xs.length w (fun j hj => by rw [List.length_map, hsl] at hj; exact (h6 (xs.length + j) (by omega)).1)
    refine ⟨_, _, hrun, ⟨g, cap, by rw [List.length_append, hsl], h1, Nat.lt_of_lt_of_le h2 hbel.size, by rw [List.length_append, hsl]; exact hroom, h4, fun j hj => ?_, fun j hj => ⟨?_, ?_⟩⟩, ⟨hso.below.os, hso.below.tape, hso.below.output, Nat.le_of_eq hso.size.symm, fun k _ hk => hso.other k (fun e1 => hk (by rw [e1]; rfl))⟩, .inl rfl⟩
    · by_cases hjx : j < xs.length
      · rw [World.cell?_setCells_out g _ _ w ⟨g, j, none⟩ (fun _ _ => .inl (by simp; omega)), h5 j hjx, List.getElem_append_left hjx]
      · rw [List.length_append] at hj
        have e1 := hin (j - xs.length) (by simp; omega)
        rw [show xs.length + (j - xs.length) = j by omega] at e1
        rw [e1, List.getElem_map, List.getElem_append_right (by omega)]
    · by_cases hjx : j < xs.length ∨ xs.length + s.toList.length ≤ j
      · rw [World.cell?_setCells_out g _ _ w ⟨g, j, none⟩ (fun _ _ => by simp; omega)]
        exact (h6 j hj).1
      · have e1 := hin (j - xs.length) (by simp; omega)
        rw [show xs.length + (j - xs.length) = j by omega] at e1
        rw [e1]
        rfl
    · rw [World.frozen?_setCells]
      exact (h6 j hj).2
  · have holds : ∀ j u, (xs.map bv)[j]? = some u → w.cell? ((⟨g, 0, none⟩ : Addr).add j) = some u := fun j u hu' => by
      rw [Addr.add_lit, Nat.zero_add]
      rw [List.getElem?_map, Option.map_eq_some_iff] at hu'
      obtain ⟨q, hq, rfl⟩ := hu'
      have hj : j < xs.length := (List.getElem?_eq_some_iff.1 hq).1
      rw [List.getElem?_eq_getElem hj] at hq
      rw [h5 j hj, Option.some.inj hq]
    have hr := Go.Lib.run_append_grow_string (P := P) w t u ty e i (.int .u8 0) ht hu hi hz ⟨g, 0, none⟩ xs.length cap (xs.map bv) (by rw [hsize, List.length_map, Nat.mul_one]) holds s (by omega) (by omega) (by rw [hby]; exact growslice_fits (by omega) (by omega))
    have hge := grownCap_ge w (xs.length + s.size) cap e
    have hcm : grownCap w (xs.length + s.size) cap e ≤ maxLen := grownCap_le_maxLen w (xs.length + s.size) cap e (by unfold maxLen; omega)
    refine ⟨_, _, hr, ?_, ⟨rfl, rfl, rfl, by simp, fun k hk _ => Below.heap_alloc w.drew _ k hk⟩, .inr rfl⟩
    rw [hsc]
    have hown : (w.drew.alloc (.cells ((xs.map bv).toArray ++ (s.toList.map bv).toArray ++ Builtin.zeroCells (Value.int .u8 0).cells (grownCap w (xs.length + s.size) cap e - (xs.length + s.size))) e)).ownsRow base e 1
        (.slice (some ⟨w.heap.size, 0, none⟩) (xs.length + s.size) (grownCap w (xs.length + s.size) cap e)) (xs.length + s.size) ((xs ++ s.toList).map bv) := by
      refine ⟨by simp [hsl], .inr ⟨w.heap.size, _, _, rfl, hbase, heap_alloc_new w.drew _, hge, hcm, ?_, ?_⟩⟩
      · have hz1 : (Value.int IntKind.u8 0).cells.size = 1 := rfl
        simp only [Array.size_append, List.size_toArray, size_zeroCells, hz1, List.length_map, hsl]
        omega
      · simp only [Array.toList_append, List.append_assoc, List.map_append, Nat.mul_one]
        rw [← List.append_assoc]
        have hl2 : xs.length + s.size = (xs.map bv ++ s.toList.map bv).length := by simp [hsl]
        rw [hl2]
        exact List.take_left
    exact Wr.of_own hown (by omega)
/-- append of a text's bytes onto such a row. -/
theorem wpList_append_wrs {P : Program} (w : World) {ops : Array Oper} {rest : List Oper} {o : Oper} {a : Act} {Q : Exit → Act → World → Prop} (hgd : o.guard = none) (sl x : Operand) (t u : TypeId)
    (ho : o.op = .call { callee := .builtin .append, args := #[sl, x], argTypes := #[t, u] })
    (base : Nat) (e : TypeId) (i : TypeInfo) (ht : P.underlying t = some (.slice e)) (hu : P.underlying u = some .string) (hi : P.info? e = some i) (hz : i.zero = some (.int .u8 0)) (hsize : i.size = 1) (hby : i.bytes = 1)
    (v : Value) (xs : List UInt8) (hs : a.eval sl = v) (hw : Wr w base v xs) (s : ByteArray) (hx : a.eval x = .string s) (hb : xs.length + s.size ≤ 140737488355328) (hbase : base ≤ w.heap.size)
    (h : ∀ v' w', Wr w' base v' (xs ++ s.toList) → w.grownBy w' v.ownBlock → (v'.ownBlock = v.ownBlock ∨ v'.ownBlock = some w.heap.size) → wpList P ops Q rest (a.put o.dst v') w') : wpList P ops Q (o :: rest) a w := by
  refine wpList_plain hgd fun K hK => ?_
  obtain ⟨v', w', hr, h2, h3, h4⟩ := run_append_wrs (P := P) w t u o.type e i ht hu hi hz hsize hby base v xs hw s hb hbase
  unfold Oper.wp execOp
  simp only [ho, resolve, invoke, builtin, Sem.run_bind, Sem.run_pure, Result.andThen_ok, List.map_toArray, List.map_cons, List.map_nil, hs, hx, hr]
  exact hK _ _ (h v' w' h2 h3 h4)
/-- Bytes under way: what was there ahead stays. -/
structure WB (w0 w : World) (v : Value) (xs : List UInt8) : Prop where
  row : Wr w w0.heap.size v xs
  low : Below w0.heap.size w0 w
theorem WB.on {w0 w w' : World} {v : Value} {xs : List UInt8} (h : WB w0 w v xs) (hb : Below w.heap.size w w') : WB w0 w' v xs := ⟨h.row.below hb, h.low.trans (hb.mono h.low.size)⟩
theorem wpList_wbs {w0 w : World} {ops : Array Oper} {rest : List Oper} {o : Oper} {a : Act} {Q : Exit → Act → World → Prop} (hgd : o.guard = none) (sl x : Operand)
    (ho : o.op = .call { callee := .builtin .append, args := #[sl, x], argTypes := #[53, 9] })
    {v : Value} {xs : List UInt8} (hs : a.eval sl = v) (h : WB w0 w v xs) {s : ByteArray} (hx : a.eval x = .string s) (hb : xs.length + s.size ≤ 140737488355328)
    (hK : ∀ v' w', WB w0 w' v' (xs ++ s.toList) → wpList Try.prog ops Q rest (a.put o.dst v') w') : wpList Try.prog ops Q (o :: rest) a w := by
  obtain ⟨i0, hi, hz0, hz1, hz2⟩ := info_parts info_u8
  exact wpList_append_wrs w hgd sl x _ _ ho w0.heap.size 5 i0 Try.underlying53 Try.underlying9 hi hz0 hz1 hz2 v xs hs h.row s hx hb h.low.size fun v' w' h1 h2 _ => hK v' w' ⟨h1, h.low.grown h2 h.low.size h.row.ge⟩
theorem wpList_wb {w0 w : World} {ops : Array Oper} {rest : List Oper} {o : Oper} {a : Act} {Q : Exit → Act → World → Prop} (hgd : o.guard = none) (sl x : Operand)
    (ho : o.op = .call { callee := .builtin .append, args := #[sl, x], argTypes := #[53, 53] })
    {v : Value} {xs : List UInt8} (hs : a.eval sl = v) (h : WB w0 w v xs) {vy : Value} {ys : List UInt8} (hx : a.eval x = vy) (hr : Rd w vy ys) (h0 : 0 < ys.length) (hb : xs.length + ys.length ≤ 140737488355328)
    (hK : ∀ v' w', WB w0 w' v' (xs ++ ys) → wpList Try.prog ops Q rest (a.put o.dst v') w') : wpList Try.prog ops Q (o :: rest) a w := by
  obtain ⟨i0, hi, hz0, hz1, hz2⟩ := info_parts info_u8
  exact wpList_append_wr w hgd sl x _ ho w0.heap.size 5 i0 _ Try.underlying53 hi hz0 hz1 hz2 rfl v xs hs h.row vy ys hx hr h0 hb h.low.size fun v' w' h1 h2 => hK v' w' ⟨h1, h.low.grown h2 h.low.size h.row.ge⟩
theorem wpList_wb_str {w0 w : World} {ops : Array Oper} {rest : List Oper} {o : Oper} {a : Act} {Q : Exit → Act → World → Prop} (hgd : o.guard = none) (x : Operand)
    (ho : o.op = .convert 9 53 x) (hlow : Below w0.heap.size w0 w) (s : ByteArray) (hx : a.eval x = .string s) (hl : s.size ≤ maxLen)
    (hK : ∀ v' w', WB w0 w' v' s.toList → wpList Try.prog ops Q rest (a.put o.dst v') w') : wpList Try.prog ops Q (o :: rest) a w :=
  wpList_string_bytes w hgd x _ _ 5 ho Try.underlying9 Try.underlying53 Try.underlying5 s hx w0.heap.size hlow.size hl fun v' w' h1 h2 => hK v' w' ⟨by rw [ByteArray.toList_eq]; exact h1, hlow.trans h2⟩
/-- The same beside a block that stays. -/
structure WBD (w0 w : World) (v : Value) (xs : List UInt8) (D : Nat) (t : TypeId) (cs : List Value) : Prop where
  wb : WB w0 w v xs
  blk : Blk w D t cs
  ne : v.ownBlock ≠ some D
theorem WB.made {w0 w : World} {v : Value} {xs : List UInt8} (h : WB w0 w v xs) (t : TypeId) (cs : List Value) : WBD w0 (w.alloc (.cells cs.toArray t)) v xs w.heap.size t cs :=
  ⟨h.on ((Below.refl _ _).alloc (Nat.le_refl _) _), Blk.made w t cs, fun e => Nat.lt_irrefl _ (h.row.lt _ e)⟩
theorem wpList_wbd {w0 w : World} {ops : Array Oper} {rest : List Oper} {o : Oper} {a : Act} {Q : Exit → Act → World → Prop} (hgd : o.guard = none) (sl x : Operand)
    (ho : o.op = .call { callee := .builtin .append, args := #[sl, x], argTypes := #[53, 9] })
    {v : Value} {xs : List UInt8} {D : Nat} {t : TypeId} {cs : List Value} (hs : a.eval sl = v) (h : WBD w0 w v xs D t cs) {s : ByteArray} (hx : a.eval x = .string s) (hb : xs.length + s.size ≤ 140737488355328)
    (hK : ∀ v' w', WBD w0 w' v' (xs ++ s.toList) D t cs → wpList Try.prog ops Q rest (a.put o.dst v') w') : wpList Try.prog ops Q (o :: rest) a w := by
  obtain ⟨i0, hi, hz0, hz1, hz2⟩ := info_parts info_u8
  have hlt := h.blk.lt
  refine wpList_append_wrs w hgd sl x _ _ ho w0.heap.size 5 i0 Try.underlying53 Try.underlying9 hi hz0 hz1 hz2 v xs hs h.wb.row s hx hb h.wb.low.size fun v' w' h1 h2 h3 => hK v' w' ⟨⟨h1, h.wb.low.grown h2 h.wb.low.size h.wb.row.ge⟩, h.blk.grew h2 h.ne, fun e => ?_⟩
  rcases h3 with h4 | h4
  · exact h.ne (h4.symm.trans e)
  · rw [h4] at e
    injection e with e
    omega
end Go.Proofs.Ytckgpocfcanokaa
