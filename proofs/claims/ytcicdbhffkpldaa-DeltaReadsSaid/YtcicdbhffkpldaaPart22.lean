/- Part 22 of the words that the laws share: ObW. No condition of its own: each theorem says its own. -/
import Derived.Test.YtcicdbhffkpldaaPart9
import Derived.Lib.AppendStr

/- Bytes of a call's own that grow by appends of bytes and of texts. No condition of its own. -/
namespace Go.Proofs.Ytcicdbhffkpldaa
open Go.RowKit

/-- A row of bytes of the call's own, and what was there ahead of the call stays. -/
structure OB (w0 w : World) (v : Value) (xs : List UInt8) : Prop where
  own : w.ownsRow w0.heap.size 5 1 v xs.length (xs.map bv)
  low : Below w0.heap.size w0 w
theorem OB.start (w : World) : OB w w (.slice none 0 0) [] := ⟨World.ownsRow_nil _ _ _ _, Below.refl _ _⟩
theorem OB.on {w0 w w' : World} {v : Value} {xs : List UInt8} (h : OB w0 w v xs) (hb : Below w.heap.size w w') : OB w0 w' v xs := ⟨own_lain h.own hb, h.low.trans (hb.mono h.low.size)⟩
theorem OB.rd {w0 w : World} {v : Value} {xs : List UInt8} (h : OB w0 w v xs) : Rd w v xs := Rd.of_own h.own
theorem OB.of_own {w0 w w' : World} {v : Value} {xs : List UInt8} (h : Below w0.heap.size w0 w) (ho : w'.ownsRow w.heap.size 5 1 v xs.length (xs.map bv)) (hb : Below w.heap.size w w') : OB w0 w' v xs := ⟨own_mono ho h.size, h.trans (hb.mono h.size)⟩
/-- What is appended: the row is longer, what lay below the row's world stays. -/
theorem wpList_append_ob {w0 w : World} {ops : Array Oper} {rest : List Oper} {o : Oper} {a : Act} {Q : Exit → Act → World → Prop} (hgd : o.guard = none) (s x : Operand)
    (ho : o.op = .call { callee := .builtin .append, args := #[s, x], argTypes := #[25, 25] })
    {v : Value} {xs : List UInt8} (hs : a.eval s = v) (h : OB w0 w v xs) {vx : Value} {ys : List UInt8} (hx : a.eval x = vx) (hr : Rd w vx ys) (hb : xs.length + ys.length ≤ 140737488355328)
    (hK : ∀ v' w', OB w0 w' v' (xs ++ ys) → wpList Try.prog ops Q rest (a.put o.dst v') w') : wpList Try.prog ops Q (o :: rest) a w := by
  obtain ⟨i0, hi, hz0, hz1, hz2⟩ := info_parts info_u8
  refine wpList_append_rd _ hgd s x _ ho w0.heap.size 5 i0 _ Try.underlying25 hi hz0 hz1 hz2 rfl v xs.length (xs.map bv) hs h.own vx ys hx hr hb h.low.size ?_
  intro v' w' own g
  refine hK v' w' ⟨?_, h.low.grown g h.low.size (own_ge h.own)⟩
  rw [List.length_append, List.map_append]
  exact own
theorem str_cells (s : ByteArray) : Go.Lib.strCells s = s.toList.map bv := by
  rw [ByteArray.toList_eq]
  rfl
theorem wpList_append_obs {w0 w : World} {ops : Array Oper} {rest : List Oper} {o : Oper} {a : Act} {Q : Exit → Act → World → Prop} (hgd : o.guard = none) (sl x : Operand)
    (ho : o.op = .call { callee := .builtin .append, args := #[sl, x], argTypes := #[25, 9] })
    {v : Value} {xs : List UInt8} (hs : a.eval sl = v) (h : OB w0 w v xs) {s : ByteArray} (hx : a.eval x = .string s) (hb : xs.length + s.size ≤ 140737488355328)
    (hK : ∀ v' w', OB w0 w' v' (xs ++ s.toList) → wpList Try.prog ops Q rest (a.put o.dst v') w') : wpList Try.prog ops Q (o :: rest) a w := by
  obtain ⟨i0, hi, hz0, hz1, hz2⟩ := info_parts info_u8
  have hl : s.toList.length = s.size := by rw [ByteArray.toList_eq, Array.length_toList]; rfl
  refine Go.Lib.wpList_append_own_string _ hgd sl x _ _ ho w0.heap.size 5 i0 Try.underlying25 Try.underlying9 hi hz0 hz1 hz2 v xs.length (xs.map bv) hs h.own s hx (by unfold maxLen; omega) hb h.low.size ?_
  intro v' w' own g _
  refine hK v' w' ⟨?_, h.low.grown g h.low.size (own_ge h.own)⟩
  rw [List.length_append, hl, List.map_append, ← str_cells]
  exact own
end Go.Proofs.Ytcicdbhffkpldaa
