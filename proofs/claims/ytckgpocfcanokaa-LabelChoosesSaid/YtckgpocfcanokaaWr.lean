/- Rows of bytes that may be written up to their capacity: a string turned to bytes and what is appended to it. No condition of its own. -/
import Derived.Test.YtckgpocfcanokaaRds
import Derived.ArgAppend
import Derived.Lib.ConvBytes
import Derived.Lib.LazyBuf
namespace Go.Proofs.Ytckgpocfcanokaa
open Go.RowKit

/-- The slice v, at the head of a block from base on, reads as xs; up to its capacity it may be written. -/
def Wr (w : World) (base : Nat) (v : Value) (xs : List UInt8) : Prop :=
  ∃ g cap, v = .slice (some ⟨g, 0, none⟩) xs.length cap ∧ base ≤ g ∧ g < w.heap.size ∧ xs.length ≤ cap ∧ cap ≤ maxLen ∧ (∀ j (h : j < xs.length), w.cell? ⟨g, j, none⟩ = some (bv xs[j])) ∧ ∀ j, j < cap → (w.cell? ⟨g, j, none⟩).isSome = true ∧ w.frozen? ⟨g, j, none⟩ = false
theorem Wr.rd {w : World} {base : Nat} {v : Value} {xs : List UInt8} (h : Wr w base v xs) : Rd w v xs := by
  obtain ⟨g, cap, rfl, _, h2, h3, h4, h5, _⟩ := h
  exact .inr ⟨g, 0, cap, rfl, h2, h3, h4, fun i hi => by rw [Nat.zero_add]; exact h5 i hi⟩
theorem Wr.below {w w' : World} {base : Nat} {v : Value} {xs : List UInt8} (h : Wr w base v xs) (hb : Below w.heap.size w w') : Wr w' base v xs := by
  obtain ⟨g, cap, rfl, h1, h2, h3, h4, h5, h6⟩ := h
  refine ⟨g, cap, rfl, h1, Nat.lt_of_lt_of_le h2 hb.size, h3, h4, fun j hj => ?_, fun j hj => ?_⟩
  · rw [hb.cell (p := ⟨g, j, none⟩) h2]; exact h5 j hj
  · rw [hb.cell (p := ⟨g, j, none⟩) h2, hb.frozen (p := ⟨g, j, none⟩) h2]; exact h6 j hj
theorem Wr.of_own {w : World} {base n : Nat} {t : TypeId} {v : Value} {xs : List UInt8} (h : w.ownsRow base t 1 v n (xs.map bv)) (h0 : 0 < n) : Wr w base v xs := by
  have hl : xs.length = n := by simpa using h.1
  rcases h.2 with ⟨rfl, h1⟩ | ⟨g, cap, cur, rfl, hg, hh, hn, hc, hs, ht⟩
  · omega
  · have hlt : g < w.heap.size := by
      rcases Nat.lt_or_ge g w.heap.size with h1 | h1
      · exact h1
      · rw [Array.getElem?_eq_none h1] at hh; cases hh
    refine ⟨g, cap, by rw [hl], hg, hlt, by omega, hc, fun j hj => ?_, fun j hj => ⟨?_, h.frozenAt j⟩⟩
    · have h2 := h.cellAt (g := g) j (by omega)
      rw [h2, List.getElem?_map, List.getElem?_eq_getElem hj]
      rfl
    · simp only [World.cell?, hh]
      rw [Array.getElem?_eq_getElem (by omega)]
      rfl
/-- A string turned to a slice of bytes. -/
theorem wpList_string_bytes {P : Program} (w : World) {ops : Array Oper} {rest : List Oper} {o : Oper} {a : Act} {Q : Exit → Act → World → Prop} (hgd : o.guard = none) (s : Operand) (src dst e : TypeId) (ho : o.op = .convert src dst s)
    {u : TypeDesc} (hs : P.underlying src = some u) (hd : P.underlying dst = some (.slice e)) (he : P.underlying e = some (.int .u8)) (x : ByteArray) (hx : a.eval s = .string x) (base : Nat) (hbase : base ≤ w.heap.size) (hl : x.size ≤ maxLen)
    (h : ∀ v' w', Wr w' base v' x.data.toList → Below base w w' → wpList P ops Q rest (a.put o.dst v') w') : wpList P ops Q (o :: rest) a w := by
  refine wpList_plain hgd fun K hK => ?_
  have hr := Lib.run_convert_string_bytes (P := P) w src dst e x hs hd he
  have hsz : (Lib.bytesCells w e x).size = grownCap w x.size 0 e := by
    have := grownCap_ge w x.size 0 e
    simp [Lib.bytesCells]
    have e2 : x.data.size = x.size := rfl
    omega
  unfold Oper.wp execOp
  simp only [ho, hx, hr, Sem.run_bind, Sem.run_pure, Result.andThen_ok]
  have hxl : x.data.toList.length = x.size := Array.length_toList
  have hbl : Below w.heap.size w (Lib.bytesWorld w e x) := ⟨rfl, rfl, rfl, by rw [Lib.bytesWorld_size]; omega, fun k hk => Lib.bytesWorld_at_old w e x k hk⟩
  refine hK _ _ (h _ _ ⟨w.heap.size, grownCap w x.size 0 e, by rw [hxl], hbase, by rw [Lib.bytesWorld_size]; omega, by rw [hxl]; exact grownCap_ge w x.size 0 e, grownCap_le_maxLen w _ 0 e hl, fun j hj => ?_, fun j hj => ⟨?_, ?_⟩⟩ (hbl.mono hbase))
  · have hj' : j < x.size := by rw [← hxl]; exact hj
    rw [Lib.bytesWorld_cell w e x j hj', List.getD, List.getElem?_eq_getElem hj]
    rfl
  · simp only [World.cell?, Lib.bytesWorld_at_new]
    rw [Array.getElem?_eq_getElem (by omega)]
    rfl
  · simp only [World.frozen?, Lib.bytesWorld_at_new]
    simp
    omega
/-- append of some bytes onto such a row: in its spare room, or in a new block. -/
theorem wpList_append_wr {P : Program} (w : World) {ops : Array Oper} {rest : List Oper} {o : Oper} {a : Act} {Q : Exit → Act → World → Prop} (hgd : o.guard = none) (s y : Operand) (t : TypeId)
    (ho : o.op = .call { callee := .builtin .append, args := #[s, y], argTypes := #[t, t] })
    (base : Nat) (e : TypeId) (i : TypeInfo) (z : Value) (ht : P.underlying t = some (.slice e)) (hi : P.info? e = some i) (hz : i.zero = some z)
    (hsize : i.size = 1) (hby : i.bytes = 1) (hzs : z.cells.size = 1)
    (v : Value) (xs : List UInt8) (hs : a.eval s = v) (hw : Wr w base v xs)
    (vy : Value) (ys : List UInt8) (hx : a.eval y = vy) (hr : Rd w vy ys) (h0 : 0 < ys.length)
    (hb : xs.length + ys.length ≤ 140737488355328) (hbase : base ≤ w.heap.size)
    (h : ∀ v' w', Wr w' base v' (xs ++ ys) → w.grownBy w' v.ownBlock → wpList P ops Q rest (a.put o.dst v') w') : wpList P ops Q (o :: rest) a w := by
  obtain ⟨g, cap, rfl, h1, h2, h3, h4, h5, h6⟩ := hw
  obtain ⟨A, c, rfl, _, _, _⟩ := hr.form
  obtain ⟨ad, rfl, hab, hsrc⟩ := hr.src h0
  have hnews : ∀ (j : Nat) (u : Value), (ys.map bv)[j]? = some u → w.cell? (ad.add j) = some u := by
    intro j u hu
    rw [List.getElem?_map, Option.map_eq_some_iff] at hu
    obtain ⟨q, hq, rfl⟩ := hu
    exact hsrc j q hq
  have hspare : ∀ j, xs.length + ys.length ≤ cap → j < (ys.map bv).length → (w.cell? ⟨g, 0 + xs.length * 1 + j, none⟩).isSome = true ∧ w.frozen? ⟨g, 0 + xs.length * 1 + j, none⟩ = false := by
    intro j hc hj
    rw [List.length_map] at hj
    have := h6 (xs.length + j) (by omega)
    rw [Nat.zero_add, Nat.mul_one]
    exact this
  refine wpList_append_arg w hgd s y t ho e i z 1 1 ht hi hz hsize hby hzs (by omega) g 0 xs.length cap (xs.map bv) hs (by simp) ?_ ad ys.length c (ys.map bv) hx (by simp) hnews (bv_one ys) (fun hc j hj => hspare j hc hj) (by unfold maxLen; omega) (by omega) ?_ ?_
  · intro j u hu
    rw [List.getElem?_map, Option.map_eq_some_iff] at hu
    obtain ⟨q, hq, rfl⟩ := hu
    have hj : j < xs.length := by
      rcases Nat.lt_or_ge j xs.length with h | h
      · exact h
      · rw [List.getElem?_eq_none h] at hq; cases hq
    rw [List.getElem?_eq_getElem hj] at hq
    rw [Nat.zero_add, h5 j hj, Option.some.inj hq]
  · intro hc
    have hbel := Go.below_setCells (B := base) (b := g) (a := w) h1 (ys.map bv) (0 + xs.length * 1) w (Below.refl _ _)
    have hso := Sole.setCells g (ys.map bv) (0 + xs.length * 1) w
    have hin := World.cell?_setCells_in g (ys.map bv) (0 + xs.length * 1) w (fun j hj => (hspare j hc hj).1)
    refine h _ _ ⟨g, cap, by rw [List.length_append], h1, Nat.lt_of_lt_of_le h2 hbel.size, by rw [List.length_append]; exact hc, h4, fun j hj => ?_, fun j hj => ⟨?_, ?_⟩⟩ ⟨hso.below.os, hso.below.tape, hso.below.output, Nat.le_of_eq hso.size.symm, fun k _ hk => hso.other k (fun e1 => hk (by rw [e1]; rfl))⟩
    · by_cases hjx : j < xs.length
      · rw [World.cell?_setCells_out g _ _ w ⟨g, j, none⟩ (fun _ _ => .inl (by simp; omega)), h5 j hjx, List.getElem_append_left hjx]
      · rw [List.length_append] at hj
        have e1 := hin (j - xs.length) (by simp; omega)
        rw [show 0 + xs.length * 1 + (j - xs.length) = j by omega] at e1
        rw [e1, List.getElem_map, List.getElem_append_right (by omega)]
    · by_cases hjx : j < xs.length ∨ xs.length + ys.length ≤ j
      · rw [World.cell?_setCells_out g _ _ w ⟨g, j, none⟩ (fun _ _ => by simp; omega)]
        exact (h6 j hj).1
      · have e1 := hin (j - xs.length) (by simp; omega)
        rw [show 0 + xs.length * 1 + (j - xs.length) = j by omega] at e1
        rw [e1]
        rfl
    · rw [World.frozen?_setCells]
      exact (h6 j hj).2
  · intro _ v' w' own gr
    rw [← List.map_append] at own
    obtain ⟨g', cap', q1, q2, q3⟩ := Wr.of_own own (by omega)
    exact h v' w' ⟨g', cap', q1, by omega, q3⟩ ⟨gr.os, gr.tape, gr.output, gr.size, fun k hk _ => gr.block k hk (by simp)⟩
theorem Wr.ge {w : World} {base : Nat} {v : Value} {xs : List UInt8} (h : Wr w base v xs) : ∀ k, v.ownBlock = some k → base ≤ k := fun k hk => by
  obtain ⟨g, cap, rfl, h1, _⟩ := h
  have e : g = k := by simpa [Value.ownBlock] using hk
  omega
theorem Wr.lt {w : World} {base : Nat} {v : Value} {xs : List UInt8} (h : Wr w base v xs) : ∀ k, v.ownBlock = some k → k < w.heap.size := fun k hk => by
  obtain ⟨g, cap, rfl, _, h2, _⟩ := h
  have e : g = k := by simpa [Value.ownBlock] using hk
  omega
end Go.Proofs.Ytckgpocfcanokaa
