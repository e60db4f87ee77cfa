/- Rows of the call's own whose elements are structs of whichever cells: what a cell holds; a cell stored; an element appended. And what a call may change: a set of blocks. No condition of its own. -/
import Derived.Test.YtckgpocfcanokaaRfl
namespace Go.Proofs.Ytckgpocfcanokaa
open Go.RowKit

/-- A row of structs of n cells each. -/
def OwnR (n : Nat) (w : World) (base : Nat) (e : TypeId) (v : Value) (R : List (List Value)) : Prop := (∀ l ∈ R, l.length = n) ∧ w.ownsRow base e n v R.length R.flatten
theorem rows_get : ∀ {n : Nat} {R : List (List Value)}, (∀ l ∈ R, l.length = n) → ∀ i j, i < R.length → j < n → R.flatten[i * n + j]? = (R.getD i [])[j]?
  | n, l :: R, h, 0, j, _, hj => by
    have hl := h l (List.mem_cons_self ..)
    rw [List.flatten_cons, Nat.zero_mul, Nat.zero_add, List.getElem?_append_left (by omega), List.getD_cons_zero]
  | n, l :: R, h, i + 1, j, hi, hj => by
    have hl := h l (List.mem_cons_self ..)
    have e : (i + 1) * n + j = l.length + (i * n + j) := by rw [Nat.add_mul, hl]; omega
    rw [List.flatten_cons, e, List.getElem?_append_right (by omega), Nat.add_sub_cancel_left, List.getD_cons_succ]
    exact rows_get (fun l hl => h l (List.mem_cons_of_mem _ hl)) i j (by simpa using hi) hj
theorem rows_set : ∀ {n : Nat} {R : List (List Value)}, (∀ l ∈ R, l.length = n) → ∀ i j u, i < R.length → j < n → R.flatten.set (i * n + j) u = (R.set i ((R.getD i []).set j u)).flatten
  | n, l :: R, h, 0, j, u, _, hj => by
    have hl := h l (List.mem_cons_self ..)
    rw [List.flatten_cons, Nat.zero_mul, Nat.zero_add, List.set_append_left _ _ (by omega), List.getD_cons_zero, List.set_cons_zero, List.flatten_cons]
  | n, l :: R, h, i + 1, j, u, hi, hj => by
    have hl := h l (List.mem_cons_self ..)
    have e : (i + 1) * n + j = l.length + (i * n + j) := by rw [Nat.add_mul, hl]; omega
    rw [List.flatten_cons, e, List.set_append_right _ _ (by omega), Nat.add_sub_cancel_left, List.getD_cons_succ, List.set_cons_succ, List.flatten_cons, rows_set (fun l hl => h l (List.mem_cons_of_mem _ hl)) i j u (by simpa using hi) hj]
theorem row_at {n : Nat} {R : List (List Value)} (h : ∀ l ∈ R, l.length = n) {i : Nat} (hi : i < R.length) : (R.getD i []).length = n := by
  rw [List.getD, List.getElem?_eq_getElem hi]
  exact h _ (List.getElem_mem hi)
theorem ij_lt {n i j m : Nat} (hi : i < m) (hj : j < n) : i * n + j < m * n := by
  have h1 : (i + 1) * n ≤ m * n := Nat.mul_le_mul_right n hi
  rw [Nat.add_mul] at h1
  omega
theorem OwnR.nil (n : Nat) (w : World) (base : Nat) (e : TypeId) : OwnR n w base e (.slice none 0 0) [] := ⟨fun _ h => (List.not_mem_nil h).elim, ⟨by simp, .inl ⟨rfl, rfl⟩⟩⟩
theorem OwnR.form {n : Nat} {w : World} {base : Nat} {e : TypeId} {v : Value} {R : List (List Value)} (h : OwnR n w base e v R) : ∃ A c, v = .slice A R.length c ∧ R.length ≤ c ∧ c ≤ maxLen ∧ (0 < R.length → ∃ g, A = some ⟨g, 0, none⟩ ∧ base ≤ g ∧ g < w.heap.size) := by
  rcases h.2.2 with ⟨rfl, h0⟩ | ⟨g, cap, cur, rfl, hb, hg, hn, hm, _, _⟩
  · exact ⟨none, 0, by rw [h0], by omega, Nat.zero_le _, fun h => by omega⟩
  · refine ⟨_, cap, rfl, hn, hm, fun _ => ⟨g, rfl, hb, ?_⟩⟩
    rcases Nat.lt_or_ge g w.heap.size with h | h
    · exact h
    · rw [Array.getElem?_eq_none h] at hg; cases hg
theorem OwnR.cell {n : Nat} {w : World} {base : Nat} {e : TypeId} {R : List (List Value)} {g m c : Nat} (h : OwnR n w base e (.slice (some ⟨g, 0, none⟩) m c) R) (i j : Nat) (hi : i < R.length) (hj : j < n) : w.cell? ⟨g, i * n + j, none⟩ = (R.getD i [])[j]? := by
  have hm : m = R.length := by
    rcases h.2.2 with ⟨h0, _⟩ | ⟨g', cap, cur, hv, _⟩
    · cases h0
    · injection hv
  subst hm
  rw [h.2.cellAt (i * n + j) (ij_lt hi hj), rows_get h.1 i j hi hj]
theorem OwnR.free {n : Nat} {w : World} {base : Nat} {e : TypeId} {R : List (List Value)} {g m c : Nat} (h : OwnR n w base e (.slice (some ⟨g, 0, none⟩) m c) R) (j : Nat) : w.frozen? ⟨g, j, none⟩ = false := by
  have hm : m = R.length := by
    rcases h.2.2 with ⟨h0, _⟩ | ⟨g', cap, cur, hv, _⟩
    · cases h0
    · injection hv
  subst hm
  exact h.2.frozenAt j
theorem OwnR.stored {n : Nat} {w : World} {base : Nat} {e : TypeId} {R : List (List Value)} {g m c : Nat} (h : OwnR n w base e (.slice (some ⟨g, 0, none⟩) m c) R) (i j : Nat) (u : Value) (hi : i < R.length) (hj : j < n) : OwnR n (w.setCell ⟨g, i * n + j, none⟩ u) base e (.slice (some ⟨g, 0, none⟩) m c) (R.set i ((R.getD i []).set j u)) := by
  have hm : m = R.length := by
    rcases h.2.2 with ⟨h0, _⟩ | ⟨g', cap, cur, hv, _⟩
    · cases h0
    · injection hv
  subst hm
  refine ⟨fun l hl => ?_, ?_⟩
  · rcases List.mem_or_eq_of_mem_set hl with h1 | h1
    · exact h.1 l h1
    · rw [h1, List.length_set, row_at h.1 hi]
  · rw [List.length_set, ← rows_set h.1 i j u hi hj]
    exact (h.2.stored (i * n + j) u).1
theorem OwnR.lt {n : Nat} {w : World} {base : Nat} {e : TypeId} {v : Value} {R : List (List Value)} (h : OwnR n w base e v R) : ∀ k, v.ownBlock = some k → base ≤ k ∧ k < w.heap.size := fun k hk => h.2.lt k hk
/-- What may have changed: the blocks that F names, and such as have come. -/
structure Chg (F : Nat → Prop) (w w' : World) : Prop where
  os : w'.os = w.os
  tape : w'.tape = w.tape
  output : w'.output = w.output
  size : w.heap.size ≤ w'.heap.size
  keep : ∀ k, k < w.heap.size → ¬ F k → w'.heap[k]? = w.heap[k]?
theorem Chg.refl (F : Nat → Prop) (w : World) : Chg F w w := ⟨rfl, rfl, rfl, Nat.le_refl _, fun _ _ _ => rfl⟩
theorem Chg.drewN (F : Nat → Prop) {w w' : World} (h : Chg F w w') (n : Nat) : Chg F w (w'.drewN n) := ⟨h.os, h.tape, h.output, h.size, h.keep⟩
theorem Chg.trans {F : Nat → Prop} {a b c : World} (h : Chg F a b) (k : Chg (fun j => F j ∨ a.heap.size ≤ j) b c) : Chg F a c :=
  ⟨k.os.trans h.os, k.tape.trans h.tape, k.output.trans h.output, Nat.le_trans h.size k.size, fun j hj hF => (k.keep j (Nat.lt_of_lt_of_le hj h.size) (fun e => e.elim hF (fun e => by omega))).trans (h.keep j hj hF)⟩
theorem Chg.mono {F G : Nat → Prop} {w w' : World} (h : Chg F w w') (hFG : ∀ k, F k → G k) : Chg G w w' := ⟨h.os, h.tape, h.output, h.size, fun k hk hG => h.keep k hk fun e => hG (hFG k e)⟩
theorem Chg.of_below {B : Nat} {w w' : World} (h : Below B w w') : Chg (fun k => B ≤ k) w w' := ⟨h.os, h.tape, h.output, h.size, fun k _ hk => h.block k (by omega)⟩
theorem Chg.below {F : Nat → Prop} {B : Nat} {w w' : World} (h : Chg F w w') (hF : ∀ k, F k → B ≤ k) (hB : B ≤ w.heap.size) : Below B w w' := ⟨h.os, h.tape, h.output, h.size, fun k hk => h.keep k (by omega) fun e => by have := hF k e; omega⟩
theorem Chg.cell {F : Nat → Prop} {w w' : World} (h : Chg F w w') {p : Addr} (hp : p.block < w.heap.size) (hF : ¬ F p.block) : w'.cell? p = w.cell? p := World.cell?_of_block (h.keep _ hp hF)
theorem Chg.rd {F : Nat → Prop} {w w' : World} {v : Value} {xs : List UInt8} (h : Chg F w w') (hr : Rd w v xs) (hF : ∀ k, v.ownBlock = some k → ¬ F k) : Rd w' v xs := by
  rcases hr with h1 | ⟨b, off, c, rfl, h2, h3, h4, h5⟩
  · exact .inl h1
  · exact .inr ⟨b, off, c, rfl, Nat.lt_of_lt_of_le h2 h.size, h3, h4, fun i hi => (h.cell (p := ⟨b, off + i, none⟩) h2 (hF b rfl)).trans (h5 i hi)⟩
theorem Chg.blk {F : Nat → Prop} {w w' : World} {B : Nat} {t : TypeId} {cs : List Value} (h : Chg F w w') (hb : Blk w B t cs) (hF : ¬ F B) : Blk w' B t cs := (h.keep B hb.lt hF).trans hb
theorem Chg.ownR {F : Nat → Prop} {w w' : World} {n base : Nat} {e : TypeId} {v : Value} {R : List (List Value)} (h : Chg F w w') (hr : OwnR n w base e v R) (hF : ∀ k, v.ownBlock = some k → ¬ F k) : OwnR n w' base e v R := by
  refine ⟨hr.1, ?_⟩
  rcases hr.2 with ⟨h1, h2 | ⟨g, cap, cur, rfl, hb, hg, h3⟩⟩
  · exact ⟨h1, .inl h2⟩
  · have hlt : g < w.heap.size := by
      rcases Nat.lt_or_ge g w.heap.size with h | h
      · exact h
      · rw [Array.getElem?_eq_none h] at hg; cases hg
    exact ⟨h1, .inr ⟨g, cap, cur, rfl, hb, (h.keep g hlt (hF g rfl)).trans hg, h3⟩⟩
theorem Chg.setCell (F : Nat → Prop) (w : World) (B j : Nat) (v : Value) (hF : F B) : Chg F w (w.setCell ⟨B, j, none⟩ v) := ⟨rfl, rfl, rfl, by simp [World.setCell], fun k _ hk => Below.heap_setCell w _ v k (fun e => hk (e ▸ hF))⟩
/-- A slice of bytes that is read still, where its block, if it has bytes, is none that has changed. -/
theorem chg_rd0 {F : Nat → Prop} {w w' : World} {v : Value} {xs : List UInt8} (h : Chg F w w') (hr : Rd w v xs) (hF : 0 < xs.length → ∀ k, v.ownBlock = some k → ¬ F k) : Rd w' v xs := by
  rcases hr with h1 | ⟨b, off, c, rfl, h2, h3, h4, h5⟩
  · exact .inl h1
  · exact .inr ⟨b, off, c, rfl, Nat.lt_of_lt_of_le h2 h.size, h3, h4, fun i hi => (h.cell (p := ⟨b, off + i, none⟩) h2 (hF (by omega) b rfl)).trans (h5 i hi)⟩
end Go.Proofs.Ytckgpocfcanokaa
