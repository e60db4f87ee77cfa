/- Words for a block that is known whole (an array of the call's own): what it reads as, kept over draws, new blocks, stores elsewhere; set by a store. No condition of its own. -/
import Derived.Test.YtckgpocfcanokaaMem
import Derived.Deep.MidRow
import Derived.Laws.Rows
import Derived.Lib.SliceRun
import Derived.Laws.CopyOwn
namespace Go.Proofs.Ytckgpocfcanokaa
open Go.RowKit

/-- Block B of the world is a row of cells, free to be written. -/
def Blk (w : World) (B : Nat) (t : TypeId) (cs : List Value) : Prop := w.heap[B]? = some (.cells cs.toArray t)
theorem Blk.lt {w : World} {B : Nat} {t : TypeId} {cs : List Value} (h : Blk w B t cs) : B < w.heap.size := by
  rcases Nat.lt_or_ge B w.heap.size with h1 | h1
  · exact h1
  · unfold Blk at h; rw [Array.getElem?_eq_none h1] at h; cases h
theorem Blk.cell {w : World} {B : Nat} {t : TypeId} {cs : List Value} (h : Blk w B t cs) (j : Nat) : w.cell? ⟨B, j, none⟩ = cs[j]? := by
  rw [cell_of_row w B j cs.toArray t (0, 0) h]; simp
theorem Blk.free {w : World} {B : Nat} {t : TypeId} {cs : List Value} (h : Blk w B t cs) (j : Nat) : w.frozen? ⟨B, j, none⟩ = false := frozen_of_row w B j cs.toArray t h
theorem Blk.below {w w' : World} {B C : Nat} {t : TypeId} {cs : List Value} (h : Blk w B t cs) (hb : Below C w w') (hB : B < C) : Blk w' B t cs := (hb.block B hB).trans h
theorem Blk.drewN {w : World} {B : Nat} {t : TypeId} {cs : List Value} (h : Blk w B t cs) (n : Nat) : Blk (w.drewN n) B t cs := h
theorem Blk.drew {w : World} {B : Nat} {t : TypeId} {cs : List Value} (h : Blk w B t cs) : Blk w.drew B t cs := h
theorem Blk.alloc {w : World} {B : Nat} {t : TypeId} {cs : List Value} (h : Blk w B t cs) (o : Obj) : Blk (w.alloc o) B t cs := (Below.heap_alloc w o B h.lt).trans h
theorem Blk.made (w : World) (t : TypeId) (cs : List Value) : Blk (w.alloc (.cells cs.toArray t)) w.heap.size t cs := heap_alloc_new w _
theorem Blk.set {w : World} {B : Nat} {t : TypeId} {cs : List Value} (h : Blk w B t cs) (j : Nat) (v : Value) : Blk (w.setCell ⟨B, j, none⟩ v) B t (cs.set j v) := by
  unfold Blk at h ⊢
  simp [World.setCell, Array.getElem?_modify, h]
theorem Blk.other {w : World} {B : Nat} {t : TypeId} {cs : List Value} (h : Blk w B t cs) {p : Addr} (hp : B ≠ p.block) (v : Value) : Blk (w.setCell p v) B t cs := (Below.heap_setCell w p v B hp).trans h
theorem Blk.grew {w w' : World} {B : Nat} {t : TypeId} {cs : List Value} (h : Blk w B t cs) {row : Option Nat} (hg : w.grownBy w' row) (hr : row ≠ some B) : Blk w' B t cs :=
  (hg.block B h.lt (fun e => hr e.symm)).trans h
/-- In w' block B alone may read otherwise than in w; none has come. -/
structure Sole (w w' : World) (B : Nat) : Prop where
  below : Below B w w'
  size : w'.heap.size = w.heap.size
  other : ∀ k, k ≠ B → w'.heap[k]? = w.heap[k]?
theorem Sole.refl (w : World) (B : Nat) : Sole w w B := ⟨Below.refl _ _, rfl, fun _ _ => rfl⟩
theorem Sole.trans {a b c : World} {B : Nat} (h : Sole a b B) (k : Sole b c B) : Sole a c B := ⟨h.below.trans k.below, k.size.trans h.size, fun j hj => (k.other j hj).trans (h.other j hj)⟩
theorem Sole.setCell (w : World) (B j : Nat) (v : Value) : Sole w (w.setCell ⟨B, j, none⟩ v) B := ⟨(Below.refl B w).setCell (p := ⟨B, j, none⟩) (Nat.le_refl _) v, by simp [World.setCell], fun k hk => Below.heap_setCell w _ v k hk⟩
theorem Sole.setCells (B : Nat) : ∀ (vs : List Value) (o : Nat) (w : World), Sole w (w.setCells B o vs) B
  | [], _, w => Sole.refl w B
  | v :: r, o, w => (Sole.setCell w B o v).trans (Sole.setCells B r (o + 1) _)
theorem Sole.blk {w w' : World} {B C : Nat} {t : TypeId} {cs : List Value} (h : Sole w w' B) (hb : Blk w C t cs) (hne : C ≠ B) : Blk w' C t cs := (h.other C hne).trans hb
theorem Sole.cell {w w' : World} {B : Nat} (h : Sole w w' B) {p : Addr} (hne : p.block ≠ B) : w'.cell? p = w.cell? p := World.cell?_of_block (w := w) (h.other p.block hne)
theorem own_sole {w w' : World} {base B n : Nat} {t : TypeId} {v : Value} {xs : List Value} (h : w.ownsRow base t 1 v n xs) (hs : Sole w w' B) (hne : v.ownBlock ≠ some B) : w'.ownsRow base t 1 v n xs :=
  h.kept (row := some B) ⟨hs.below.os, hs.below.tape, hs.below.output, Nat.le_of_eq hs.size.symm, fun k _ hk => hs.other k (fun e => hk (by rw [e]))⟩ (.inr hne)
/-- A row with some cells laid from a place on. -/
def layL : List Value → Nat → List Value → List Value
  | cs, _, [] => cs
  | cs, o, v :: r => layL (cs.set o v) (o + 1) r
theorem Blk.lay {B : Nat} {t : TypeId} : ∀ (vs : List Value) (o : Nat) (w : World) (cs : List Value), Blk w B t cs → Blk (w.setCells B o vs) B t (layL cs o vs)
  | [], _, _, _, h => h
  | v :: r, o, _, _, h => Blk.lay r (o + 1) _ _ (h.set o v)
theorem layL_eq : ∀ (vs : List Value) (o : Nat) (cs : List Value), o + vs.length ≤ cs.length → layL cs o vs = cs.take o ++ vs ++ cs.drop (o + vs.length)
  | [], o, cs, _ => by simp [layL]
  | v :: r, o, cs, h => by
    simp only [List.length_cons] at h
    rw [layL, layL_eq r (o + 1) (cs.set o v) (by simp; omega), List.take_succ_eq_append_getElem (by simp; omega)]
    simp only [List.getElem_set_self, List.length_cons]
    rw [List.take_set_of_le (Nat.le_refl o), List.drop_set_of_lt (by omega), show o + 1 + r.length = o + (r.length + 1) by omega]
    simp
theorem layL_all {vs cs : List Value} (h : vs.length = cs.length) : layL cs 0 vs = vs := by
  rw [layL_eq vs 0 cs (by omega)]
  simp [h]
theorem Blk.there {w : World} {B : Nat} {t : TypeId} {cs : List Value} (h : Blk w B t cs) {n : Nat} (hn : n ≤ cs.length) : w.there B 0 n := fun j hj => by
  rw [Nat.zero_add, h.cell j, h.free j, List.getElem?_eq_getElem (by omega)]
  exact ⟨rfl, rfl⟩
/-- A whole array is stored into a block that is known whole. -/
theorem wpList_store_blk {P : Program} {ops : Array Oper} {rest : List Oper} {o : Oper} {a : Act} {w : World} {Q : Exit → Act → World → Prop} (hgd : o.guard = none) (ty : TypeId) (x y : Operand) (ho : o.op = .store ty x y)
    (B : Nat) (t : TypeId) (old : List Value) (hb : Blk w B t old) (cs : List Value) (hx : a.eval x = .pointer (some ⟨B, 0, none⟩)) (hy : a.eval y = .agg cs.toArray)
    (hl : cs.length = old.length) (hi : (P.info? ty).map (·.size) = some cs.length) (h1 : ∀ v ∈ cs, v.oneCell' = true)
    (h : ∀ w', Blk w' B t cs → Sole w w' B → wpList P ops Q rest (a.put o.dst undef) w') : wpList P ops Q (o :: rest) a w := by
  refine wpList_store_mid hgd ty x y ho B 0 cs.toArray hx hy (hb.there (by simp; omega)) (by simpa using hi) (all_oneCell_toArray h1) (h _ ?_ (Sole.setCells B _ 0 w))
  have h2 := hb.lay cs.toArray.toList 0
  rw [layL_all (by simpa using hl)] at h2
  exact h2
/-- A whole array is loaded out of a block that is known whole. -/
theorem wpList_load_blk {P : Program} {ops : Array Oper} {rest : List Oper} {o : Oper} {a : Act} {w : World} {Q : Exit → Act → World → Prop} (hgd : o.guard = none) (ty : TypeId) (x : Operand) (ho : o.op = .load ty x)
    (B : Nat) (hx : a.eval x = .pointer (some ⟨B, 0, none⟩)) (t : TypeId) (cs : List Value) (d : TypeDesc) (hb : Blk w B t cs)
    (hu : P.underlying ty = some d) (hd : (match d with | .struct _ | .array _ _ => true | _ => false) = true) (hi : (P.info? ty).map (·.size) = some cs.length)
    (h : wpList P ops Q rest (a.put o.dst (.agg cs.toArray)) w) : wpList P ops Q (o :: rest) a w :=
  wpList_load_row hgd ty x ho B hx t cs.toArray (0, 0) d hb hu hd (by simpa using hi) h
/-- The result is read out of a block that is known whole. -/
theorem results_blk {P : Program} {fn : Func} {p : Tmp} {ty : TypeId} (h : fn.results = #[.cell p ty]) (tmps : Array Value) (w : World) (B : Nat) (t : TypeId) (cs : List Value) (d : TypeDesc)
    (hp : tmps.getD p undef = .pointer (some ⟨B, 0, none⟩)) (hb : Blk w B t cs) (hu : P.underlying ty = some d) (hd : (match d with | .struct _ | .array _ _ => true | _ => false) = true) (hi : (P.info? ty).map (·.size) = some cs.length) :
    (results fn tmps).run P w = .ok (.agg cs.toArray) w :=
  results_cell_row h tmps w B t cs.toArray (0, 0) d hp hb hu hd (by simpa using hi)
/-- A piece of an array, by its bounds. -/
theorem run_slice_arr {P : Program} (w : World) (t : TypeId) (n : Nat) (e : TypeId) (i : TypeInfo) (ht : P.underlying t = some (.array n e)) (hi : P.info? e = some i) (h1 : i.size = 1) (b l h : Nat) (L H : Int) (hL : L = (l : Int)) (hH : H = (h : Int)) (h0 : l ≤ h) (h2 : h ≤ n) (h3 : l < n) :
    (Instr.sliceAt t (.pointer (some ⟨b, 0, none⟩)) (some (.int .i64 L)) (some (.int .i64 H)) none).run P w = .ok (.slice (some ⟨b, l, none⟩) (h - l) (n - l)) w := by
  have e1 : P.arrayLen t = n := by simp [Program.arrayLen, ht]
  have e2 : P.elem t = e := by simp [Program.elem, ht]
  have e3 : (sizeOf e).run P w = .ok 1 w := by simp [sizeOf, typeInfo, hi, h1]
  subst hL hH
  rw [run_sliceAt_array_lh w t ⟨b, 0, none⟩ (by rw [e1, e2]; exact ht) .i64 .i64 _ _ (by omega) (by omega) (by rw [e1]; omega), e2, e3]
  have e4 : (⟨b, 0, none⟩ : Addr).add l = ⟨b, l, none⟩ := by unfold Addr.add; split <;> simp_all
  have e5 : ¬ n = l := by omega
  simp [slicedAt, e1, e5, e4]
theorem run_slice_arr_l {P : Program} (w : World) (t : TypeId) (n : Nat) (e : TypeId) (i : TypeInfo) (ht : P.underlying t = some (.array n e)) (hi : P.info? e = some i) (h1 : i.size = 1) (b l : Nat) (L : Int) (hL : L = (l : Int)) (h2 : l ≤ n) :
    (Instr.sliceAt t (.pointer (some ⟨b, 0, none⟩)) (some (.int .i64 L)) none none).run P w = .ok (.slice (some ⟨b, if n = l then 0 else l, none⟩) (n - l) (n - l)) w := by
  have e1 : P.arrayLen t = n := by simp [Program.arrayLen, ht]
  have e2 : P.elem t = e := by simp [Program.elem, ht]
  have e3 : (sizeOf e).run P w = .ok 1 w := by simp [sizeOf, typeInfo, hi, h1]
  subst hL
  rw [run_sliceAt_array_l w t ⟨b, 0, none⟩ (by rw [e1, e2]; exact ht) .i64 _ (by omega) (by rw [e1]; omega), e2, e3]
  have e4 : (⟨b, 0, none⟩ : Addr).add l = ⟨b, l, none⟩ := by unfold Addr.add; split <;> simp_all
  by_cases e5 : n = l
  · subst e5; simp [slicedAt, e1]
  · simp [slicedAt, e1, e5, e4]
theorem run_slice_arr_l' {P : Program} (t : TypeId) (n : Nat) (e : TypeId) (i : TypeInfo) (ht : P.underlying t = some (.array n e)) (hi : P.info? e = some i) (h1 : i.size = 1) (b l : Nat) (L : Int) (hL : L = (l : Int)) (h2 : l ≤ n) :
    ∃ o m : Nat, m = n - l ∧ (0 < m → o = l) ∧ ∀ w, (Instr.sliceAt t (.pointer (some ⟨b, 0, none⟩)) (some (.int .i64 L)) none none).run P w = .ok (.slice (some ⟨b, o, none⟩) m m) w :=
  ⟨if n = l then 0 else l, n - l, rfl, fun h => if_neg (by omega), fun w => run_slice_arr_l w t n e i ht hi h1 b l L hL h2⟩
/-- What lies in a row whose cells from a place on were cleared. -/
def clearL (cs : List Value) (o n : Nat) (z : Value) : List Value := cs.take o ++ List.replicate n z ++ cs.drop (o + n)
/-- clear over a piece of a block that is known whole. -/
theorem wpList_clear_blk {P : Program} {ops : Array Oper} {rest : List Oper} {o : Oper} {a : Act} {w : World} {Q : Exit → Act → World → Prop} (hgd : o.guard = none) (s : Operand) (t : TypeId)
    (ho : o.op = .call { callee := .builtin .clear, args := #[s], argTypes := #[t] }) (e : TypeId) (z : Value) (ht : P.underlying t = some (.slice e)) (hv : ∀ w, (zeroValue e).run P w = .ok z w) (hz : z.cells = #[z]) (h1 : z.oneCell' = true)
    (B off off' n c : Nat) (T : TypeId) (cs : List Value) (hb : Blk w B T cs) (hs : a.eval s = .slice (some ⟨B, off', none⟩) n c) (hoff : 0 < n → off' = off) (hfit : off + n ≤ cs.length)
    (h : ∀ w', Blk w' B T (clearL cs off n z) → Sole w w' B → wpList P ops Q rest (a.put o.dst (.tuple #[])) w') : wpList P ops Q (o :: rest) a w := by
  refine wpList_plain hgd fun K hK => ?_
  by_cases h0 : n = 0
  · subst h0
    have hrun : (Builtin.clear_ #[t] o.type #[.slice (some ⟨B, off', none⟩) 0 c]).run P w = .ok (.tuple #[]) w := by simp [Builtin.clear_, run_underlying ht]
    unfold Oper.wp
    simp [execOp, ho, resolve, invoke, builtin, hs, hrun, Result.andThen]
    refine hK _ _ (h w ?_ (Sole.refl w B))
    have e : clearL cs off 0 z = cs := by simp [clearL]
    rw [e]
    exact hb
  · obtain rfl := hoff (by omega)
    have hrun := Lib.run_clear_slice (P := P) w t e o.type z ht hv hz h1 B off' n c (by omega) (fun j hj => by rw [hb.cell, List.getElem?_eq_getElem (by omega)]; rfl) (fun j hj => hb.free _)
    unfold Oper.wp
    simp [execOp, ho, resolve, invoke, builtin, hs, hrun, Result.andThen]
    refine hK _ _ (h _ ?_ (Sole.setCells B _ off' w))
    have h2 := hb.lay (List.replicate n z) off'
    rw [layL_eq _ _ _ (by simp; omega)] at h2
    unfold clearL
    simpa using h2
end Go.Proofs.Ytckgpocfcanokaa
