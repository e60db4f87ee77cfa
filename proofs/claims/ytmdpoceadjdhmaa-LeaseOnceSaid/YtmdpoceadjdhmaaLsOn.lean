/- A lease, and the numbers that were taken in a row of their own. Premise: the lease's contracts. -/
import Derived.Test.YtmdpoceadjdhmaaLsCon
import Derived.Test.YtmdpoceadjdhmaaSrowB
namespace Go.Proofs.Ytmdpoceadjdhmaa
open Go.RowKit

def nv1 (z : Nat) : List Value := [.int .u64 (z : Int)]
theorem nv1_flat : ∀ al : List Nat, (al.map nv1).flatten = al.map fun z : Nat => Value.int .u64 (z : Int)
  | [] => rfl
  | z :: al => by
    rw [List.map_cons, List.flatten_cons, nv1_flat al]
    rfl
theorem info_n64 : (Try.prog.info? 23).map (fun i => (i.zero, i.size, i.bytes)) = some (some (.int .u64 0), 1, 8) := by kernel_rfl
section
variable {LC : LeaseC}
def AllIs (w0 : World) (v : Value) (al : List Nat) (W : World) : Prop := OwnR 1 W w0.heap.size 23 v (al.map nv1) ∧ Below w0.heap.size w0 W
def OnIs (LC : LeaseC) (w0 : World) (p : Value) (s : LS) (v : Value) (al : List Nat) (W : World) : Prop :=
  ∃ F, LC.At W p s F ∧ (∀ j, F j → w0.heap.size ≤ j) ∧ (∀ j, v.ownBlock = some j → ¬ F j) ∧ AllIs w0 v al W
theorem AllIs.nil (w : World) : AllIs w (.slice none 0 0) [] w := ⟨⟨fun l hl => (by cases hl), World.ownsRow_nil _ _ _ _⟩, Below.refl _ _⟩
theorem AllIs.row {w0 W : World} {v : Value} {al : List Nat} (h : AllIs w0 v al W) : W.ownsRow w0.heap.size 23 1 v al.length (al.map fun z : Nat => Value.int .u64 (z : Int)) := by
  have h1 := h.1.2
  rw [List.length_map, nv1_flat] at h1
  exact h1
theorem AllIs.lt {w0 W : World} {v : Value} {al : List Nat} (h : AllIs w0 v al W) : ∀ j, v.ownBlock = some j → j < W.heap.size := fun j hj => (h.row.lt j hj).2
theorem OnIs.all {w0 W : World} {p v : Value} {s : LS} {al : List Nat} (h : OnIs LC w0 p s v al W) : AllIs w0 v al W := by
  obtain ⟨F, _, _, _, h4⟩ := h
  exact h4
theorem OnIs.good {w0 W : World} {p v : Value} {s : LS} {al : List Nat} (h : OnIs LC w0 p s v al W) : LOk s := by
  obtain ⟨F, h1, _⟩ := h
  exact LC.good h1
theorem AllIs.chg {w0 W W' : World} {v : Value} {al : List Nat} {F : Nat → Prop} (h : AllIs w0 v al W) (hc : Chg F W W') (hF : ∀ j, F j → w0.heap.size ≤ j) (hv : ∀ j, v.ownBlock = some j → ¬ F j) : AllIs w0 v al W' := ⟨hc.ownR h.1 hv, h.2.trans (hc.below hF h.2.size)⟩
theorem on_step {w0 W W' : World} {p v : Value} {s' : LS} {al : List Nat} {F : Nat → Prop} (h2 : ∀ j, F j → w0.heap.size ≤ j) (h3 : ∀ j, v.ownBlock = some j → ¬ F j) (h4 : AllIs w0 v al W) (hl : LLeft LC.At W W' p s' F) : OnIs LC w0 p s' v al W' := by
  obtain ⟨⟨F', h7, h8⟩, h9⟩ := hl
  have hlt := h4.lt
  refine ⟨F', h7, fun j hj => ?_, fun j hj e => ?_, h4.chg h9 h2 h3⟩
  · rcases h8 j hj with h | h
    · exact h2 j h
    · exact Nat.le_trans h4.2.size h
  · rcases h8 j e with h | h
    · exact h3 j hj h
    · have := hlt j hj
      omega
theorem on_new {w0 W : World} {v : Value} {al : List Nat} (h : AllIs w0 v al W) {node b : Nat} (hn : node < 65536) (hl : b < 18446744073709551616) : Calls Try.prog 6 #[.int .u16 (node : Int), .int .u64 (b : Int)] W fun e w' => ∃ p, e = .returned p ∧ OnIs LC w0 p (newL node b) v al w' := by
  refine (LC.new node b W hn hl).mono ?_
  rintro e w' ⟨p, rfl, ⟨G, h1, h2⟩, h3⟩
  have hlt := h.lt
  have hs := h.2.size
  exact ⟨p, rfl, G, h1, fun j hj => Nat.le_trans hs (h2 j hj), fun j hj e => (by have := hlt j hj; have := h2 j e; omega), h.chg (Chg.of_below h3) (fun j hj => Nat.le_trans hs hj) fun j hj e => (by have := hlt j hj; omega)⟩
theorem on_take {w0 W : World} {p v : Value} {s : LS} {al : List Nat} (h : OnIs LC w0 p s v al W) : Calls Try.prog 8 #[p] W fun e w' => e = .returned (.tuple #[.int .u64 ((takeL s).2.1 : Int), .int .i64 ((takeL s).2.2 : Int)]) ∧ OnIs LC w0 p (takeL s).1 v al w' := by
  obtain ⟨F, h1, h2, h3, h4⟩ := h
  exact (LC.take h1).mono fun _ _ ⟨h7, h8⟩ => ⟨h7, on_step h2 h3 h4 h8⟩
theorem on_grant {w0 W : World} {p v : Value} {s : LS} {al : List Nat} (h : OnIs LC w0 p s v al W) {b : Nat} (hb : b < 18446744073709551616) : Calls Try.prog 12 #[p, .int .u64 (b : Int)] W fun e w' => e = .returned (.int .i64 ((grantL s b).2 : Int)) ∧ OnIs LC w0 p (grantL s b).1 v al w' := by
  obtain ⟨F, h1, h2, h3, h4⟩ := h
  exact (LC.grant h1 b hb).mono fun _ _ ⟨h7, h8⟩ => ⟨h7, on_step h2 h3 h4 h8⟩
theorem on_wants {w0 W : World} {p v : Value} {s : LS} {al : List Nat} (h : OnIs LC w0 p s v al W) {n : Nat} (hn : n < 18446744073709551616) : Calls Try.prog 14 #[p, .int .u64 (n : Int)] W fun e w' => e = .returned (.tuple #[.int .u64 ((wantsL s n).1 : Int), .int .i64 ((wantsL s n).2 : Int)]) ∧ OnIs LC w0 p s v al w' := by
  obtain ⟨F, h1, h2, h3, h4⟩ := h
  refine (LC.wants h1 n hn).mono ?_
  rintro e w' ⟨rfl, h8⟩
  have hlt := LC.lt h1
  have hl4 := h4.lt
  have hs := h4.2.size
  exact ⟨rfl, F, LC.other h1 (Chg.of_below h8) fun j hj e => (by have := hlt j hj; omega), h2, h3, h4.chg (Chg.of_below h8) (fun j hj => Nat.le_trans hs hj) fun j hj e => (by have := hl4 j hj; omega)⟩
/-- One number more in the row. -/
theorem on_app {w0 W W' : World} {p v v' : Value} {s : LS} {al : List Nat} {x : Nat} (h : OnIs LC w0 p s v al W) (hn : Next W W' w0.heap.size v v') (ho : OwnR 1 W' w0.heap.size 23 v' (al.map nv1 ++ [nv1 x])) : OnIs LC w0 p s v' (al ++ [x]) W' := by
  obtain ⟨F, h1, h2, h3, h4⟩ := h
  have hlt := LC.lt h1
  have hc : Chg (fun j => v.ownBlock = some j) W W' := ⟨hn.below.os, hn.below.tape, hn.below.output, hn.size, fun k hk hne => hn.heap k hk fun e => hne e.symm⟩
  refine ⟨F, LC.other h1 hc fun j hj e => h3 j e hj, h2, fun j hj e => ?_, ?_, h4.2.trans hn.below⟩
  · rcases hn.blk with h5 | ⟨k, h5, h6⟩
    · exact h3 j (h5 ▸ hj) e
    · rw [h5] at hj
      injection hj with hj
      have := hlt j e
      omega
  · rw [List.map_append]
    exact ho
end
end Go.Proofs.Ytmdpoceadjdhmaa
