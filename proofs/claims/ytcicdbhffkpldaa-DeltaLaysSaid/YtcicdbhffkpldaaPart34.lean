/- Part 34 of the words that the laws share: PcComp. No condition of its own: each theorem says its own. -/
import Derived.Test.YtcicdbhffkpldaaPart32
import Derived.Test.YtcicdbhffkpldaaPart33
import Derived.Test.YtcicdbhffkpldaaPart1
import Derived.Great.BuildSlice
import Derived.BigQuiet
import Derived.Deep.Cut

/- The developers' comparing functions: what they say, and that they only draw and make new blocks. Condition: pieces, ids as they are. -/
namespace Go.Proofs.Ytcicdbhffkpldaa
open Go.RowKit Go.Sort

def cmpId (n o m q : Nat) : Int := orL [cmpI n m, cmpI o q]
def cmpPc (a b : Pc) : Int := orL [Lib.compareBytes a.s.data.toList b.s.data.toList, cmpI a.t b.t, cmpId a.n a.o b.n b.o]
def GrewO (w w' : World) : Prop := ∃ q os, w' = grow (w.drewN q) os
theorem grewO_of {w w' : World} {n : Nat} {os : Array Obj} (h : GrewO (grow (w.drewN n) os) w') : GrewO w w' := by
  obtain ⟨q, os', rfl⟩ := h
  refine ⟨n + q, os ++ os', ?_⟩
  show grow (grow ((w.drewN n).drewN q) os) os' = _
  rw [grow_grow, World.drewN_drewN]
theorem GrewO.below {w w' : World} (h : GrewO w w') : Below w.heap.size w w' := by
  obtain ⟨q, os, rfl⟩ := h
  exact ⟨rfl, by first | rfl | simp [grow, World.drewN], rfl, by simp, fun k hk => heap_grow_old _ _ hk⟩
theorem grow_cell {w : World} {a : Addr} {v : Value} {n : Nat} {os : Array Obj} (hb : a.block < w.heap.size) (h : w.cell? a = some v) : (grow (w.drewN n) os).cell? a = some v := cell_grown hb h n os
theorem grewO_end (w : World) (n : Nat) (os0 os : Array Obj) (o : Obj) : GrewO w ((grow ((grow w os0).drewN n) os).alloc o) := ⟨n, os0 ++ (os ++ #[o]), by
  rw [alloc_eq_grow, grow_grow]
  show grow (grow (w.drewN n) os0) _ = _
  rw [grow_grow]⟩
theorem or_cells (W : World) (zs : List Int) (t : TypeId) {b : Nat} (hb : W.heap.size = b) : ∀ i y, zs[i]? = some y → (W.alloc (.cells (zs.map (Value.int .i64)).toArray t)).cell? ⟨b, i, none⟩ = some (.int .i64 y) := fun i y h => by
  subst hb
  rw [(Blk.made W t (zs.map (Value.int .i64))).cell, List.getElem?_map, h]
  rfl
theorem Calls.grown_of_same {P : Program} {f : FuncId} {args : Array Value} {w : World} {n : Nat} {os : Array Obj} {v : Value}
    (h : Calls P f args (grow (w.drewN n) os) fun e w' => e = .returned v ∧ w' = grow (w.drewN n) os) : Calls P f args (grow (w.drewN n) os) fun e w'' => e = .returned v ∧ ∃ p : GrownBy, w'' = grow (w.drewN p.n) p.os :=
  h.mono fun _ _ ⟨he, hq⟩ => ⟨he, ⟨n, os⟩, hq⟩
set_option maxRecDepth 100000 in
set_option maxHeartbeats 4000000 in
theorem compId (n o m q : Nat) (w : World) :
    Calls Try.prog 50 #[.agg #[.int .u64 (n : Int), .int .u16 (o : Int)], .agg #[.int .u64 (m : Int), .int .u16 (q : Int)]] w fun e w' => e = .returned (.int .i64 (cmpId n o m q)) ∧ GrewO w w' := by
  obtain ⟨W0, hW0⟩ : ∃ W : World, W = (w.alloc (.cells #[.int .u64 (n : Int), .int .u16 (o : Int)] 44)).alloc (.cells #[.int .u64 (m : Int), .int .u16 (q : Int)] 44) := ⟨_, rfl⟩
  have hs : W0.heap.size = w.heap.size + 2 := by rw [hW0]; simp
  have g1 : ∀ k os, (grow (W0.drewN k) os).cell? ⟨w.heap.size, 0, none⟩ = some (.int .u64 (n : Int)) := fun k os => grow_cell (by simp [hs]) (by rw [hW0]; simp)
  have g2 : ∀ k os, (grow (W0.drewN k) os).cell? ⟨w.heap.size, 1, none⟩ = some (.int .u16 (o : Int)) := fun k os => grow_cell (by simp [hs]) (by rw [hW0]; simp)
  have g3 : ∀ k os, (grow (W0.drewN k) os).cell? ⟨w.heap.size + 1, 0, none⟩ = some (.int .u64 (m : Int)) := fun k os => grow_cell (by simp [hs]) (by rw [hW0]; simp)
  have g4 : ∀ k os, (grow (W0.drewN k) os).cell? ⟨w.heap.size + 1, 1, none⟩ = some (.int .u16 (q : Int)) := fun k os => grow_cell (by simp [hs]) (by rw [hW0]; simp)
  have C1 := fun W => Lib.hid (cmpU64 (n : Int) (m : Int) W)
  have C2 := fun W => Lib.hid (cmpU16 (o : Int) (q : Int) W)
  obtain ⟨x, hx⟩ : ∃ x, x = cmpI (n : Int) (m : Int) := ⟨_, rfl⟩
  obtain ⟨y, hy⟩ : ∃ y, y = cmpI (o : Int) (q : Int) := ⟨_, rfl⟩
  obtain ⟨r, hr⟩ : ∃ r, r = cmpId n o m q := ⟨_, rfl⟩
  rw [← hx] at C1
  rw [← hy] at C2
  rw [← hr]
  have HR : Hid (r = orL [x, y]) := Lib.hid (by rw [hr, hx, hy]; rfl)
  have HG : Hid (W0 = grow w #[.cells #[.int .u64 (n : Int), .int .u16 (o : Int)] 44, .cells #[.int .u64 (m : Int), .int .u16 (q : Int)] 44]) := Lib.hid (by rw [hW0, alloc_eq_grow, alloc_eq_grow, grow_grow]; rfl)
  clear hx hy hr
  go_enter Try.func50, Try.ntmps50
  go_upto_region 1 with (fail)
  rw [← hW0]
  clear hW0
  refine wp_quiet_tailC (C := fun w' => ∃ p : GrownBy, w' = grow (W0.drewN p.n) p.os) 10 (by kernel_rfl) (by kernel_rfl) (by kernel_rfl) (by kernel_rfl) (by kernel_rfl) (by kernel_rfl) (by kernel_rfl) (grewBy_one _) (by kernel_rfl) ?_
  simp only [List.take_succ_cons, List.take_zero, List.drop_succ_cons, List.drop_zero]
  repeat (go_big_quiet_step (first
    | (go_at_call 53; exact Calls.grown_of_same ((C1 _).out))
    | (go_at_call 54; exact Calls.grown_of_same ((C2 _).out))))
  refine wpQuiet_nil ?_
  intro wq hwq
  obtain ⟨⟨nq, osq⟩, rfl⟩ := hwq
  go_wp2_with (fail)
  refine (cmpOr [x, y] _ 2 _ (by unfold maxLen; simp) (or_cells _ [x, y] _ (by simp [hs]))).mono ?_
  rintro e w' ⟨rfl, h⟩
  subst h
  go_wp2_with (fail)
  go_ret
  rw [HR.out, HG.out]
  exact ⟨rfl, grewO_end _ _ _ _ _⟩
set_option maxRecDepth 100000 in
set_option maxHeartbeats 4000000 in
theorem compPc (a b : Pc) (w : World) :
    Calls Try.prog 46 #[.agg a.vs.toArray, .agg b.vs.toArray] w fun e w' => e = .returned (.int .i64 (cmpPc a b)) ∧ GrewO w w' := by
  obtain ⟨s, t, v, n, o⟩ := a
  obtain ⟨s', t', v', m, q⟩ := b
  show Calls _ _ #[.agg #[.string s, .int .i64 t, .int .i64 v, .int .u64 (n : Int), .int .u16 (o : Int)], .agg #[.string s', .int .i64 t', .int .i64 v', .int .u64 (m : Int), .int .u16 (q : Int)]] w _
  obtain ⟨W0, hW0⟩ : ∃ W : World, W = (w.alloc (.cells #[.string s, .int .i64 t, .int .i64 v, .int .u64 (n : Int), .int .u16 (o : Int)] 46)).alloc (.cells #[.string s', .int .i64 t', .int .i64 v', .int .u64 (m : Int), .int .u16 (q : Int)] 46) := ⟨_, rfl⟩
  have hs : W0.heap.size = w.heap.size + 2 := by rw [hW0]; simp
  have g1 : ∀ k os, (grow (W0.drewN k) os).cell? ⟨w.heap.size, 0, none⟩ = some (.string s) := fun k os => grow_cell (by simp [hs]) (by rw [hW0]; simp)
  have g2 : ∀ k os, (grow (W0.drewN k) os).cell? ⟨w.heap.size, 1, none⟩ = some (.int .i64 t) := fun k os => grow_cell (by simp [hs]) (by rw [hW0]; simp)
  have g3 : ∀ k os, (grow (W0.drewN k) os).cell? ⟨w.heap.size, 3, none⟩ = some (.int .u64 (n : Int)) := fun k os => grow_cell (by simp [hs]) (by rw [hW0]; simp)
  have g4 : ∀ k os, (grow (W0.drewN k) os).cell? ⟨w.heap.size, 4, none⟩ = some (.int .u16 (o : Int)) := fun k os => grow_cell (by simp [hs]) (by rw [hW0]; simp)
  have g5 : ∀ k os, (grow (W0.drewN k) os).cell? ⟨w.heap.size + 1, 0, none⟩ = some (.string s') := fun k os => grow_cell (by simp [hs]) (by rw [hW0]; simp)
  have g6 : ∀ k os, (grow (W0.drewN k) os).cell? ⟨w.heap.size + 1, 1, none⟩ = some (.int .i64 t') := fun k os => grow_cell (by simp [hs]) (by rw [hW0]; simp)
  have g7 : ∀ k os, (grow (W0.drewN k) os).cell? ⟨w.heap.size + 1, 3, none⟩ = some (.int .u64 (m : Int)) := fun k os => grow_cell (by simp [hs]) (by rw [hW0]; simp)
  have g8 : ∀ k os, (grow (W0.drewN k) os).cell? ⟨w.heap.size + 1, 4, none⟩ = some (.int .u16 (q : Int)) := fun k os => grow_cell (by simp [hs]) (by rw [hW0]; simp)
  have C1 := fun W => Lib.hid (cmpStr s s' W)
  have C2 := fun W => Lib.hid (cmpI64 t t' W)
  have C3 := fun W => Lib.hid (compId n o m q W)
  obtain ⟨x, hx⟩ : ∃ x, x = Lib.compareBytes s.data.toList s'.data.toList := ⟨_, rfl⟩
  obtain ⟨y, hy⟩ : ∃ y, y = cmpI t t' := ⟨_, rfl⟩
  obtain ⟨z, hz⟩ : ∃ z, z = cmpId n o m q := ⟨_, rfl⟩
  obtain ⟨r, hr⟩ : ∃ r, r = cmpPc ⟨s, t, v, n, o⟩ ⟨s', t', v', m, q⟩ := ⟨_, rfl⟩
  rw [← hx] at C1
  rw [← hy] at C2
  rw [← hz] at C3
  rw [← hr]
  have HR : Hid (r = orL [x, y, z]) := Lib.hid (by rw [hr, hx, hy, hz]; rfl)
  have HG : Hid (W0 = grow w #[.cells #[.string s, .int .i64 t, .int .i64 v, .int .u64 (n : Int), .int .u16 (o : Int)] 46, .cells #[.string s', .int .i64 t', .int .i64 v', .int .u64 (m : Int), .int .u16 (q : Int)] 46]) := Lib.hid (by rw [hW0, alloc_eq_grow, alloc_eq_grow, grow_grow]; rfl)
  clear hx hy hz hr
  go_enter Try.func46, Try.ntmps46
  go_upto_region 1 with (fail)
  rw [← hW0]
  clear hW0
  refine wp_quiet_tailC (C := fun w' => ∃ p : GrownBy, w' = grow (W0.drewN p.n) p.os) 15 (by kernel_rfl) (by kernel_rfl) (by kernel_rfl) (by kernel_rfl) (by kernel_rfl) (by kernel_rfl) (by kernel_rfl) (grewBy_one _) (by kernel_rfl) ?_
  simp only [List.take_succ_cons, List.take_zero, List.drop_succ_cons, List.drop_zero]
  repeat (go_big_quiet_step (first
    | (go_at_call 48; exact Calls.grown_of_same ((C1 _).out))
    | (go_at_call 49; exact Calls.grown_of_same ((C2 _).out))
    | (go_at_call 50; exact Calls.grown_of ((C3 _).out))))
  refine wpQuiet_nil ?_
  intro wq hwq
  obtain ⟨⟨nq, osq⟩, rfl⟩ := hwq
  go_wp2_with (fail)
  refine (cmpOr [x, y, z] _ 3 _ (by unfold maxLen; simp) (or_cells _ [x, y, z] _ (by simp [hs]))).mono ?_
  rintro e w' ⟨rfl, h⟩
  subst h
  go_wp2_with (fail)
  go_ret
  rw [HR.out, HG.out]
  exact ⟨rfl, grewO_end _ _ _ _ _⟩
end Go.Proofs.Ytcicdbhffkpldaa
