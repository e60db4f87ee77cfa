/- Part 27 of the words that the laws share: DsA, DsS, DsT, DsR, DsN. No condition of its own: each theorem says its own. -/
import Derived.Test.YtbodiioemohenaaDoorPart13
import Derived.Test.YtbodiioemohenaaDoorPart12
import Derived.Test.YtbodiioemohenaaDoorPart26
import Derived.Test.YtbodiioemohenaaDoorPart9
import Derived.Test.YtbodiioemohenaaDoorPart4
import Derived.Test.YtbodiioemohenaaDoorPart2
import Derived.OwnWalk
import Derived.Deep.Cut

/- What a disk is whose sectors are three maps; Dead, Ops, what refuses, what counts a change. Conditions: the counts fit. -/
namespace Go.Proofs.YtbodiioemohenaaDoor
open Go.RowKit

/-- A map, or none: what it holds. -/
def MapO (w : World) (m : Option Nat) (f : Int → Option Value) : Prop :=
  match m with
  | none => ∀ k, f k = none
  | some b => MapI w b f
theorem MapO.chg {w w' : World} {m : Option Nat} {f : Int → Option Value} {G : Nat → Prop} (h : MapO w m f) (hc : Chg G w w') (hG : ∀ b, m = some b → ¬ G b) : MapO w' m f := by
  cases m with
  | none => exact h
  | some b => exact MapI.chg h hc (hG b rfl)
theorem MapO.lt {w : World} {m : Option Nat} {f : Int → Option Value} (h : MapO w m f) : ∀ b, m = some b → b < w.heap.size := fun b hb => by
  subst hb
  exact MapI.lt h
def dkV (a b c : Option Nat) (S : DS) : List Value := [.map a, .map b, .map c, .int .i64 (S.fuse : Int), .int .i64 (S.ops : Int), .bool S.dead]
def DkF (X : Nat) (a b c : Option Nat) (k : Nat) : Prop := k = X ∨ a = some k ∨ b = some k ∨ c = some k
structure Dk (w : World) (X : Nat) (a b c : Option Nat) (S : DS) : Prop where
  blk : Blk w X 45 (dkV a b c S)
  safe : ∃ f, MapO w a f ∧ ∀ k, (f k).getD (arrV z128) = arrV (safeB S.L k)
  wr : MapO w b (wrF S.L)
  torn : MapO w c (toF S.L)
  na : ∀ x, a = some x → x ≠ X ∧ b ≠ some x ∧ c ≠ some x
  nb : ∀ x, b = some x → x ≠ X ∧ c ≠ some x
  nc : ∀ x, c = some x → x ≠ X
  same : a.isSome = b.isSome ∧ c.isSome = b.isSome
  ok : DOk S
  opn : OpnOk S.L
  fuse : (S.fuse : Int) ≤ 9223372036854775807
  ops : S.ops ≤ 1000000
theorem Dk.lt {w : World} {X : Nat} {a b c : Option Nat} {S : DS} (h : Dk w X a b c S) : ∀ k, DkF X a b c k → k < w.heap.size := fun k hk => by
  obtain ⟨f, hf, _⟩ := h.safe
  rcases hk with rfl | hk | hk | hk
  · exact h.blk.lt
  · exact hf.lt k hk
  · exact h.wr.lt k hk
  · exact h.torn.lt k hk
theorem Dk.other {w w' : World} {X : Nat} {a b c : Option Nat} {S : DS} {G : Nat → Prop} (h : Dk w X a b c S) (hc : Chg G w w') (hd : ∀ k, DkF X a b c k → ¬ G k) : Dk w' X a b c S := by
  obtain ⟨f, hf, hf2⟩ := h.safe
  exact ⟨hc.blk h.blk (hd X (.inl rfl)), ⟨f, hf.chg hc fun k hk => hd k (.inr (.inl hk)), hf2⟩, h.wr.chg hc fun k hk => hd k (.inr (.inr (.inl hk))), h.torn.chg hc fun k hk => hd k (.inr (.inr (.inr hk))), h.na, h.nb, h.nc, h.same, h.ok, h.opn, h.fuse, h.ops⟩
theorem sole_only {w w' : World} {X : Nat} (h : Sole w w' X) : Chg (fun k => k = X) w w' := ⟨h.below.os, h.below.tape, h.below.output, Nat.le_of_eq h.size.symm, fun k _ hk => h.other k hk⟩
/-- The fuse, the count and the power have changed, no sector. -/
theorem Dk.head {w w' : World} {X : Nat} {a b c : Option Nat} {S S' : DS} (h : Dk w X a b c S) (hs : Sole w w' X) (hL : S'.L = S.L) (hb : Blk w' X 45 (dkV a b c S')) (hf : (S'.fuse : Int) ≤ 9223372036854775807) (ho : S'.ops ≤ 1000000) : Dk w' X a b c S' := by
  have hc := sole_only hs
  obtain ⟨f, hf1, hf2⟩ := h.safe
  refine ⟨hb, ⟨f, hf1.chg hc fun k hk => (h.na k hk).1, ?_⟩, ?_, ?_, h.na, h.nb, h.nc, h.same, dok_of h.ok hL, ?_, hf, ho⟩
  · rw [hL]; exact hf2
  · rw [hL]; exact h.wr.chg hc fun k hk => (h.nb k hk).1
  · rw [hL]; exact h.torn.chg hc fun k hk => h.nc k hk
  · rw [hL]; exact h.opn
theorem zeroArr : (Tryd.prog.info? 63).bind (·.zero) = some (arrV z128) := by
  kernel_rfl
theorem zeroUnit : (Tryd.prog.info? 80).bind (·.zero) = some unitV := by
  kernel_rfl
theorem size128 : (Tryd.prog.info? 63).map (·.size) = some 128 := by
  kernel_rfl
theorem run_lookN {t e : TypeId} (ht : Tryd.prog.underlying t = some (.map 3 e)) {z : Value} (hz : (Tryd.prog.info? e).bind (·.zero) = some z) {k : Int} (hk : (Lit.int .i64 k).wf = true) (c : Bool) (w : World) : (Instr.lookup t (.map none) (.int .i64 k) c).run Tryd.prog w = .ok (if c then .tuple #[z, .bool false] else z) w := by
  have hc := intK.check w true (keyI hk)
  unfold Instr.lookup
  simp only [Sem.run_bind, run_underlying ht, Result.andThen_ok, Sem.run_pure, Array.isEmpty_empty, hc, Instr.findKey, Instr.findNow, run_underlying Tryd.underlying3, zero_run hz]
section
variable {w : World} {ops : Array Oper} {rest : List Oper} {o : Oper} {a : Act} {Q : Exit → Act → World → Prop}
/-- What is found in a map, or in none. -/
theorem wpList_lookO (hg : o.guard = none) (m x : Operand) (t e : TypeId) (hop : o.op = Op.lookup t m x false) (ht : Tryd.prog.underlying t = some (.map 3 e)) {z : Value} (hz : (Tryd.prog.info? e).bind (·.zero) = some z)
    {b : Option Nat} {f : Int → Option Value} (hm : a.eval m = .map b) (h : MapO w b f) {k : Int} (hk : (Lit.int .i64 k).wf = true) (hx : a.eval x = .int .i64 k) (v : Value) (hv : (f k).getD z = v)
    (hK : wpList Tryd.prog ops Q rest (a.put o.dst v) w) : wpList Tryd.prog ops Q (o :: rest) a w := by
  cases b with
  | some b => exact wpList_lookI hg m x t e hop ht hz hm h hk hx v hv hK
  | none =>
    rw [h k] at hv
    have hv : z = v := hv
    subst hv
    refine wpList_plain hg fun K' hK' => ?_
    unfold Oper.wp
    simp [execOp, hop, hm, hx, run_lookN ht hz hk false, Result.andThen]
    exact hK' _ _ hK
theorem wpList_lookO_ok (hg : o.guard = none) (m x : Operand) (t e : TypeId) (hop : o.op = Op.lookup t m x true) (ht : Tryd.prog.underlying t = some (.map 3 e)) {z : Value} (hz : (Tryd.prog.info? e).bind (·.zero) = some z)
    {b : Option Nat} {f : Int → Option Value} (hm : a.eval m = .map b) (h : MapO w b f) {k : Int} (hk : (Lit.int .i64 k).wf = true) (hx : a.eval x = .int .i64 k) (v : Value) (hv : (f k).getD z = v) (there : Bool) (hth : (f k).isSome = there)
    (hK : wpList Tryd.prog ops Q rest (a.put o.dst (.tuple #[v, .bool there])) w) : wpList Tryd.prog ops Q (o :: rest) a w := by
  cases b with
  | some b => exact wpList_lookI_ok hg m x t e hop ht hz hm h hk hx v hv there hth hK
  | none =>
    rw [h k] at hv hth
    have hv : z = v := hv
    have hth : false = there := hth
    subst hv
    subst hth
    refine wpList_plain hg fun K' hK' => ?_
    unfold Oper.wp
    simp [execOp, hop, hm, hx, run_lookN ht hz hk true, Result.andThen]
    exact hK' _ _ hK
/-- A map, or none, cleared. -/
theorem wpList_clearO (hg : o.guard = none) (m : Operand) (t e : TypeId) (hop : o.op = Op.call { callee := Callee.builtin Builtin.clear, args := #[m], argTypes := #[t] }) (ht : Tryd.prog.underlying t = some (.map 3 e))
    {b : Option Nat} {f : Int → Option Value} (hm : a.eval m = .map b) (h : MapO w b f)
    (hK : ∀ w', MapO w' b (fun _ => none) → Chg (fun j => b = some j) w w' → wpList Tryd.prog ops Q rest (a.put o.dst (.tuple #[])) w') : wpList Tryd.prog ops Q (o :: rest) a w := by
  cases b with
  | some b => exact wpList_clearI hg m t e hop ht hm h fun w' h1 h2 => hK w' h1 (h2.mono fun j hj => by rw [hj])
  | none =>
    refine wpList_plain hg fun K' hK' => ?_
    unfold Oper.wp
    simp [execOp, hop, resolve, invoke, builtin, hm, Builtin.clear_, run_underlying ht, Result.andThen]
    exact hK' _ _ (hK w (fun _ => rfl) (Chg.refl _ _))
end
set_option maxRecDepth 100000 in
set_option maxHeartbeats 1000000 in
theorem dkRefuses {w : World} {X : Nat} {d : Bool} (c5 : w.cell? ⟨X, 5, none⟩ = some (.bool d)) : Calls Tryd.prog 19 #[.pointer (some ⟨X, 0, none⟩)] w fun e w' => e = .returned (.bool d) ∧ w' = w := by
  go_enter Tryd.func19, Tryd.ntmps19
  go_wp2_with (fail)
  go_ret
  exact ⟨rfl, rfl⟩
set_option maxRecDepth 100000 in
theorem dkRefuses_nil (w : World) : Calls Tryd.prog 19 #[.pointer none] w fun e w' => e = .returned (.bool true) ∧ w' = w := by
  go_enter Tryd.func19, Tryd.ntmps19
  go_wp2_with (fail)
  go_ret
  exact ⟨rfl, rfl⟩
set_option maxRecDepth 100000 in
set_option maxHeartbeats 1000000 in
theorem dkDead_any {w : World} {X : Nat} {a b c : Option Nat} {S : DS} (h : Dk w X a b c S) : Calls Tryd.prog 11 #[.pointer (some ⟨X, 0, none⟩)] w fun e w' => e = .returned (.bool S.dead) ∧ w' = w := by
  have c5 : w.cell? ⟨X, 5, none⟩ = some (.bool S.dead) := by rw [h.blk.cell]; rfl
  clear h
  go_enter Tryd.func11, Tryd.ntmps11
  go_wp2_with (fail)
  go_ret
  exact ⟨rfl, rfl⟩
set_option maxRecDepth 100000 in
set_option maxHeartbeats 2000000 in
theorem change_k {w : World} {X : Nat} {a b c : Option Nat} {S S' : DS} {cd : Int} (hcd : (if (burnS S).2 then 10 else 0 : Int) = cd) (hS' : (burnS S).1 = S') (hb0 : Blk w X 45 (dkV a b c S)) (hfz : (S.fuse : Int) ≤ 9223372036854775807) (ho : S.ops < 1000000) :
    Calls Tryd.prog 39 #[.pointer (some ⟨X, 0, none⟩)] w fun e w' => e = .returned (.int .i64 cd) ∧ Blk w' X 45 (dkV a b c S') ∧ Sole w w' X := by
  have HCD := Lib.hid hcd
  have HS := Lib.hid hS'
  clear hcd hS'
  obtain ⟨ops, hops⟩ : ∃ ops, ops = S.ops := ⟨_, rfl⟩
  obtain ⟨fuse, hfuse⟩ : ∃ fuse, fuse = S.fuse := ⟨_, rfl⟩
  have hb := hb0
  unfold dkV at hb
  rw [← hops, ← hfuse] at hb
  have oI : (ops : Int) < 1000000 := by omega
  have fI : (fuse : Int) ≤ 9223372036854775807 := by rw [hfuse]; exact hfz
  have e1 : IntKind.i64.wrap ((ops : Int) + 1) = (ops : Int) + 1 := IntWalk.i64_in _ (by omega)
  have c4 : w.cell? ⟨X, 4, none⟩ = some (.int .i64 (ops : Int)) := by rw [hb.cell]; rfl
  have f4 := hb.free 4
  obtain ⟨W1, hW1⟩ : ∃ W : World, W = w.setCell ⟨X, 4, none⟩ (.int .i64 ((ops : Int) + 1)) := ⟨_, rfl⟩
  have B1 : Blk W1 X 45 [.map a, .map b, .map c, .int .i64 (fuse : Int), .int .i64 ((ops : Int) + 1), .bool S.dead] := by rw [hW1]; exact hb.set 4 _
  have L1 : Sole w W1 X := by rw [hW1]; exact Sole.setCell w X 4 _
  have c3 : W1.cell? ⟨X, 3, none⟩ = some (.int .i64 (fuse : Int)) := by rw [B1.cell]; rfl
  have f3 := B1.free 3
  have HOP := Lib.hid hops
  have HFU := Lib.hid hfuse
  rcases Nat.lt_or_ge 0 fuse with hpos | hz
  · have pI : 0 < fuse := hpos
    have n0 : ((fuse : Int) == 0) = false := by rw [beq_eq_false_iff_ne]; omega
    obtain ⟨W2, hW2⟩ : ∃ W : World, W = W1.setCell ⟨X, 3, none⟩ (.int .i64 ((fuse : Int) - 1)) := ⟨_, rfl⟩
    have B2 : Blk W2 X 45 [.map a, .map b, .map c, .int .i64 ((fuse : Int) - 1), .int .i64 ((ops : Int) + 1), .bool S.dead] := by rw [hW2]; exact B1.set 3 _
    have L2 : Hid (Sole w W2 X) := Lib.hid (L1.trans (by rw [hW2]; exact Sole.setCell W1 X 3 _))
    obtain ⟨g, hg⟩ : ∃ g : Int, g = (fuse : Int) - 1 := ⟨_, rfl⟩
    have c3' : W2.cell? ⟨X, 3, none⟩ = some (.int .i64 g) := by rw [hg, B2.cell]; rfl
    have c5' : W2.cell? ⟨X, 5, none⟩ = some (.bool S.dead) := by rw [B2.cell]; rfl
    have f5' := B2.free 5
    by_cases h1 : fuse = 1
    · have hE : Hid (burnS S = ({ S with ops := S.ops + 1, fuse := 0, dead := true }, true)) := Lib.hid (by
        unfold burnS
        rw [if_pos (by omega), if_pos (by omega)])
      have B3 : Hid (Blk (W2.setCell ⟨X, 5, none⟩ (.bool true)) X 45 [.map a, .map b, .map c, .int .i64 0, .int .i64 ((ops : Int) + 1), .bool true]) := Lib.hid (by
        have h2 := B2.set 5 (.bool true)
        rw [show (fuse : Int) - 1 = 0 by omega] at h2
        exact h2)
      have L3 : Hid (Sole w (W2.setCell ⟨X, 5, none⟩ (.bool true)) X) := Lib.hid (L2.out.trans (Sole.setCell W2 X 5 _))
      have N1 : Hid (decide ((0 : Int) < g) = false) := Lib.hid (decide_eq_false (by omega))
      clear hb0 hb ho hops hfuse B1 B2 L1 L2 hpos h1 hg
      go_enter Tryd.func39, Tryd.ntmps39
      go_upto_region 2 with (fail)
      rw [← hW1]
      clear hW1 c4 f4 e1
      go_upto_region 5 with (fail)
      rw [← hW2]
      clear hW2 c3 f3
      have n1 := N1.out
      go_wp2_with (fail)
      go_ret
      refine ⟨by rw [← HCD.out, hE.out]; rfl, ?_, L3.out⟩
      rw [← HS.out, hE.out]
      have hb := B3.out
      rw [HOP.out] at hb
      exact hb
    · have hE : Hid (burnS S = ({ S with ops := S.ops + 1, fuse := fuse - 1 }, false)) := Lib.hid (by
        unfold burnS
        rw [if_pos (by omega), if_neg (by omega), ← hfuse])
      have N1 : Hid (decide ((0 : Int) < g) = true) := Lib.hid (decide_eq_true (by omega))
      have HB2 : Hid (Blk W2 X 45 [.map a, .map b, .map c, .int .i64 ((fuse - 1 : Nat) : Int), .int .i64 ((ops : Int) + 1), .bool S.dead]) := Lib.hid (by
        rw [show ((fuse - 1 : Nat) : Int) = (fuse : Int) - 1 by omega]
        exact B2)
      clear hb0 hb ho hops hfuse B1 B2 L1 hpos h1 c5' f5' hg
      go_enter Tryd.func39, Tryd.ntmps39
      go_upto_region 2 with (fail)
      rw [← hW1]
      clear hW1 c4 f4 e1
      go_upto_region 5 with (fail)
      rw [← hW2]
      clear hW2 c3 f3
      have n1 := N1.out
      go_wp2_with (fail)
      go_ret
      refine ⟨by rw [← HCD.out, hE.out]; rfl, ?_, L2.out⟩
      rw [← HS.out, hE.out]
      have hb := HB2.out
      rw [HOP.out] at hb
      exact hb
  · have hE : Hid (burnS S = ({ S with ops := S.ops + 1 }, false)) := Lib.hid (by
      unfold burnS
      rw [if_neg (by omega)])
    have z0 : (fuse : Int) = 0 := by omega
    have HB1 := Lib.hid B1
    have HL1 := Lib.hid L1
    clear hb0 hb ho hops hfuse B1 L1 hz
    go_enter Tryd.func39, Tryd.ntmps39
    go_upto_region 2 with (fail)
    rw [← hW1]
    clear hW1 c4 f4 e1
    go_wp2_with (fail)
    go_ret
    refine ⟨by rw [← HCD.out, hE.out]; rfl, ?_, HL1.out⟩
    rw [← HS.out, hE.out]
    have hb := HB1.out
    rw [HOP.out, HFU.out] at hb
    exact hb
theorem change_any {w : World} {X : Nat} {a b c : Option Nat} {S : DS} (hb0 : Blk w X 45 (dkV a b c S)) (hfz : (S.fuse : Int) ≤ 9223372036854775807) (ho : S.ops < 1000000) :
    Calls Tryd.prog 39 #[.pointer (some ⟨X, 0, none⟩)] w fun e w' => e = .returned (.int .i64 (if (burnS S).2 then 10 else 0)) ∧ Blk w' X 45 (dkV a b c (burnS S).1) ∧ Sole w w' X := change_k rfl rfl hb0 hfz ho
end Go.Proofs.YtbodiioemohenaaDoor

/- A sector of a disk: its bytes, and whether it can be read; Read. Conditions: the place is one. -/
namespace Go.Proofs.YtbodiioemohenaaDoor
open Go.RowKit

/-- A block is made: which, what it holds. -/
theorem wpList_alloc_w {P : Program} {ops : Array Oper} {rest : List Oper} {o : Oper} {a : Act} {w : World} {Q : Exit → Act → World → Prop} (hgd : o.guard = none) (t : TypeId) (ho : o.op = .alloc t) (cs : List Value)
    (hz : (P.info? t).bind (·.zero) = some (.agg cs.toArray)) (N : Nat) (hN : w.heap.size = N)
    (h : ∀ w', Blk w' N t cs → Below N w w' → w'.heap.size = N + 1 → wpList P ops Q rest (a.put o.dst (.pointer (some ⟨N, 0, none⟩))) w') : wpList P ops Q (o :: rest) a w := by
  refine wpList_alloc_v hgd t ho cs.toArray hz N hN ?_
  subst hN
  exact h _ (Blk.made w t cs) ((Below.refl _ _).alloc (Nat.le_refl _) _) (World.size_alloc _ _)
theorem size76 : (Tryd.prog.info? 80).map (·.size) = some 0 := by
  kernel_rfl
/-- What a disk's maps hold stays while only new blocks are written. -/
structure DkAt (W : World) (X : Nat) (a b c : Option Nat) (S : DS) (f : Int → Option Value) : Prop where
  c0 : W.cell? ⟨X, 0, none⟩ = some (.map a)
  c1 : W.cell? ⟨X, 1, none⟩ = some (.map b)
  c2 : W.cell? ⟨X, 2, none⟩ = some (.map c)
  sf : MapO W a f
  wr : MapO W b (wrF S.L)
  to : MapO W c (toF S.L)
theorem Dk.at {w : World} {X : Nat} {a b c : Option Nat} {S : DS} (h : Dk w X a b c S) : ∃ f, (∀ k, (f k).getD (arrV z128) = arrV (safeB S.L k)) ∧ ∀ W, Below w.heap.size w W → DkAt W X a b c S f := by
  obtain ⟨f, hf, hv⟩ := h.safe
  refine ⟨f, hv, fun W hW => ?_⟩
  have hc := Chg.of_below hW
  have hb := hc.blk h.blk (by have := h.blk.lt; omega)
  refine ⟨by rw [hb.cell]; rfl, by rw [hb.cell]; rfl, by rw [hb.cell]; rfl, hf.chg hc fun k hk => ?_, h.wr.chg hc fun k hk => ?_, h.torn.chg hc fun k hk => ?_⟩
  · have := hf.lt k hk; omega
  · have := h.wr.lt k hk; omega
  · have := h.torn.lt k hk; omega
set_option maxRecDepth 100000 in
set_option maxHeartbeats 2000000 in
theorem sector_open {w : World} {X : Nat} {a b c : Option Nat} {S : DS} (h : Dk w X a b c S) (k : Int) (hk : 0 ≤ k ∧ k < 1024) (bs : List UInt8) (hbs : bs.length = 128) (hv : wrF S.L k = some (arrV bs)) :
    Calls Tryd.prog 35 #[.pointer (some ⟨X, 0, none⟩), .int .i64 k] w fun e w' => e = .returned (.tuple #[arrV bs, .bool true]) ∧ Below w.heap.size w w' := by
  obtain ⟨f, _, hat⟩ := h.at
  have HA := Lib.hid hat
  obtain ⟨C, hC⟩ : ∃ C, C = w.heap.size := ⟨_, rfl⟩
  have HC := Lib.hid hC
  have HV : Hid ((wrF S.L k).getD (arrV z128) = arrV bs) := Lib.hid (by rw [hv]; rfl)
  have HT : Hid ((wrF S.L k).isSome = true) := Lib.hid (by rw [hv]; rfl)
  have HB : Hid ((bs.map bv).length = 128) := Lib.hid (by rw [List.length_map]; exact hbs)
  have HZ : Hid ((z128.map bv).length = 128) := Lib.hid (by rw [List.length_map]; rfl)
  have HS : Hid ((Tryd.prog.info? 63).map (·.size) = some (bs.map bv).length) := Lib.hid (by rw [HB.out]; exact size128)
  obtain ⟨zz, hzz⟩ : ∃ zz, zz = z128 := ⟨_, rfl⟩
  rw [← hzz] at HZ HV
  have HZZ := Lib.hid hzz
  clear h hat hC hbs hv hzz
  go_enter Tryd.func35, Tryd.ntmps35
  go_wp2_with (first
    | (with_reducible refine here_alloc ?_
       refine wpList_alloc_w rfl 63 rfl (zz.map bv) (by rw [HZZ.out]; exact zeroArr) C HC.out.symm ?_
       intro w1 k1 b1 z1
       have K1 := Lib.hid k1
       have B1 := Lib.hid (HC.out ▸ b1 : Below w.heap.size w w1)
       have Z1 := Lib.hid z1
       have c1 := (HA.out w1 B1.out).c1
       clear k1 b1 z1)
    | (with_reducible refine here_alloc ?_
       refine wpList_alloc_w rfl 63 rfl (zz.map bv) (by rw [HZZ.out]; exact zeroArr) (C + 1) Z1.out ?_
       intro w2 k2 b2 z2
       have K1' := Lib.hid (K1.out.below b2 (by omega))
       have K2 := Lib.hid k2
       have B2 := Lib.hid (B1.out.trans (b2.mono (by have := HC.out; omega)))
       clear k2 b2 z2 c1 K1 B1 Z1)
    | (with_reducible refine here_look ?_
       refine wpList_lookO_ok rfl _ _ 42 63 rfl Tryd.underlying42 zeroArr rfl (HA.out w1 B1.out).wr (wfI hk) rfl _ (HZZ.out ▸ HV.out) true HT.out ?_)
    | (with_reducible refine here_store ?_
       refine wpList_store_blk rfl 63 _ _ rfl (C + 1) 63 _ K2.out (bs.map bv) rfl rfl (by rw [HB.out, HZ.out]) HS.out (bv_one _) ?_
       intro w3 k3 s3
       have K1 := Lib.hid (s3.blk K1'.out (by omega))
       have K3 := Lib.hid k3
       have B3 := Lib.hid (B2.out.trans (s3.below.mono (by have := HC.out; omega)))
       clear k3 s3 K2 B2 K1')
    | (with_reducible refine here_load ?_
       refine wpList_load_blk rfl 63 _ rfl (C + 1) rfl 63 (bs.map bv) _ K3.out Tryd.underlying63 rfl HS.out ?_)
    | (with_reducible refine here_store ?_
       refine wpList_store_blk rfl 63 _ _ rfl C 63 _ K1.out (bs.map bv) rfl rfl (by rw [HB.out, HZ.out]) HS.out (bv_one _) ?_
       intro w9 hb9 hs9
       have K9 := Lib.hid hb9
       have B9 := Lib.hid (B3.out.trans (hs9.below.mono (Nat.le_of_eq HC.out.symm)))
       clear hb9 hs9 K1 K3 B3))
  refine bodyPost_ret (v := .tuple #[arrV bs, .bool true]) ?_ rfl ⟨rfl, B9.out⟩
  exact results_blk_tmp (ty := 63) Tryd.results35 _ w9 C 63 (bs.map bv) _ _ rfl rfl K9.out Tryd.underlying63 rfl HS.out
end Go.Proofs.YtbodiioemohenaaDoor

/- A sector of a disk that is safe, or isn't there; both ways told; Read. Conditions: none of its own. -/
namespace Go.Proofs.YtbodiioemohenaaDoor
open Go.RowKit

set_option maxRecDepth 100000 in
set_option maxHeartbeats 2000000 in
theorem sector_shut {w : World} {X : Nat} {a b c : Option Nat} {S : DS} (h : Dk w X a b c S) (k : Int) (hk : 0 ≤ k ∧ k < 1024) (bs : List UInt8) (hbs : bs.length = 128) (hv : wrF S.L k = none) (hs : safeB S.L k = bs) (t r : Bool) (ht : (toF S.L k).isSome = t) (hr : (!t) = r) :
    Calls Tryd.prog 35 #[.pointer (some ⟨X, 0, none⟩), .int .i64 k] w fun e w' => e = .returned (.tuple #[arrV bs, .bool r]) ∧ Below w.heap.size w w' := by
  obtain ⟨f, hf, hat⟩ := h.at
  have HA := Lib.hid hat
  obtain ⟨C, hC⟩ : ∃ C, C = w.heap.size := ⟨_, rfl⟩
  have HC := Lib.hid hC
  have HW : Hid ((wrF S.L k).isSome = false) := Lib.hid (by rw [hv]; rfl)
  have HF : Hid ((f k).getD (arrV z128) = arrV bs) := Lib.hid (by rw [hf, hs])
  have HT := Lib.hid ht
  have HU : Hid ((toF S.L k).getD unitV = unitV) := Lib.hid (by
    unfold toF
    cases getP S.L k with
    | none => rfl
    | some p =>
      show (if stP p then some unitV else none : Option Value).getD unitV = unitV
      split <;> rfl)
  have HB : Hid ((bs.map bv).length = 128) := Lib.hid (by rw [List.length_map]; exact hbs)
  have HZ : Hid ((z128.map bv).length = 128) := Lib.hid (by rw [List.length_map]; rfl)
  have HS : Hid ((Tryd.prog.info? 63).map (·.size) = some (bs.map bv).length) := Lib.hid (by rw [HB.out]; exact size128)
  obtain ⟨zz, hzz⟩ : ∃ zz, zz = z128 := ⟨_, rfl⟩
  rw [← hzz] at HZ
  have HV : Hid ((wrF S.L k).getD (arrV z128) = arrV zz) := Lib.hid (by rw [hv, hzz]; rfl)
  have HZZ := Lib.hid hzz
  have HSZ : Hid ((Tryd.prog.info? 63).map (·.size) = some (zz.map bv).length) := Lib.hid (by rw [HZ.out]; exact size128)
  have HR := Lib.hid hr
  clear h hat hC hbs hv hzz hf hs ht hr
  go_enter Tryd.func35, Tryd.ntmps35
  have hr := HR.out
  go_wp2_with (first
    | (with_reducible refine here_alloc ?_
       refine wpList_alloc_w rfl 63 rfl (zz.map bv) (by rw [HZZ.out]; exact zeroArr) C HC.out.symm ?_
       intro w1 k1 b1 z1
       have K1 := Lib.hid k1
       have B1 := Lib.hid (HC.out ▸ b1 : Below w.heap.size w w1)
       have Z1 := Lib.hid z1
       have c1 := (HA.out w1 B1.out).c1
       clear k1 b1 z1)
    | (with_reducible refine here_alloc ?_
       refine wpList_alloc_w rfl 63 rfl (zz.map bv) (by rw [HZZ.out]; exact zeroArr) (C + 1) Z1.out ?_
       intro w2 k2 b2 z2
       have K1' := Lib.hid (K1.out.below b2 (by omega))
       have K2 := Lib.hid k2
       have B2 := Lib.hid (B1.out.trans (b2.mono (by have := HC.out; omega)))
       have Z2 := Lib.hid z2
       clear k2 b2 z2 c1 K1 B1 Z1)
    | (with_reducible refine here_look ?_
       refine wpList_lookO_ok rfl _ _ 42 63 rfl Tryd.underlying42 zeroArr rfl (HA.out w1 B1.out).wr (wfI hk) rfl _ HV.out false HW.out ?_)
    | (with_reducible refine here_look ?_
       refine wpList_lookO_ok rfl _ _ 43 80 rfl Tryd.underlying43 zeroUnit rfl (HA.out w3 B3.out).to (wfI hk) rfl _ HU.out t HT.out ?_)
    | (with_reducible refine here_store ?_
       refine wpList_store_blk rfl 63 _ _ rfl (C + 1) 63 _ K2.out (zz.map bv) rfl rfl rfl HSZ.out (bv_one _) ?_
       intro w3 k3 s3
       have K1 := Lib.hid (s3.blk K1'.out (by omega))
       have B3 := Lib.hid (B2.out.trans (s3.below.mono (by have := HC.out; omega)))
       have Z3 := Lib.hid (s3.size.trans Z2.out)
       have c2 := (HA.out w3 B3.out).c2
       clear k3 s3 K2 B2 K1' Z2)
    | (with_reducible refine here_alloc ?_
       refine wpList_alloc_w rfl 80 rfl [] zeroUnit (C + 2) Z3.out ?_
       intro w4 k4 b4 z4
       have K4 := Lib.hid k4
       have K1 := Lib.hid (K1.out.below b4 (by omega))
       have B4 := Lib.hid (B3.out.trans (b4.mono (by have := HC.out; omega)))
       clear k4 b4 z4 B3 Z3 c2)
    | (with_reducible refine here_store ?_
       refine wpList_store_blk rfl 80 _ _ rfl (C + 2) 80 _ K4.out [] rfl rfl rfl size76 (fun v hv => by cases hv) ?_
       intro w5 k5 s5
       have K5 := Lib.hid (s5.blk K1.out (by omega))
       have B5 := Lib.hid (B4.out.trans (s5.below.mono (by have := HC.out; omega)))
       have c0 := (HA.out w5 B5.out).c0
       clear k5 s5 K4 B4 K1)
    | (with_reducible refine here_look ?_
       refine wpList_lookO rfl _ _ 42 63 rfl Tryd.underlying42 zeroArr rfl (HA.out w5 B5.out).sf (wfI hk) rfl _ HF.out ?_)
    | (with_reducible refine here_store ?_
       refine wpList_store_blk rfl 63 _ _ rfl C 63 _ K5.out (bs.map bv) rfl rfl (by rw [HB.out, HZ.out]) HS.out (bv_one _) ?_
       intro w9 hb9 hs9
       have K9 := Lib.hid hb9
       have B9 := Lib.hid (B5.out.trans (hs9.below.mono (Nat.le_of_eq HC.out.symm)))
       clear hb9 hs9 K5 B5))
  refine bodyPost_ret (v := .tuple #[arrV bs, .bool r]) ?_ rfl ⟨rfl, B9.out⟩
  exact results_blk_tmp (ty := 63) Tryd.results35 _ w9 C 63 (bs.map bv) _ _ rfl rfl K9.out Tryd.underlying63 rfl HS.out
theorem sector_any {w : World} {X : Nat} {a b c : Option Nat} {S : DS} (h : Dk w X a b c S) (k : Int) (hk : 0 ≤ k ∧ k < 1024) :
    Calls Tryd.prog 35 #[.pointer (some ⟨X, 0, none⟩), .int .i64 k] w fun e w' => e = .returned (.tuple #[arrV (sectB S.L k), .bool (sectW S.L k)]) ∧ Below w.heap.size w w' := by
  obtain ⟨h1, h2⟩ := sect_open h.opn k
  have hl := sectB_len h.ok k
  have hsl := safeB_len h.ok k
  cases hw : wrF S.L k with
  | none =>
    rw [hw] at h1 h2
    have h1 : arrV (sectB S.L k) = arrV (safeB S.L k) := h1
    have h2 : sectW S.L k = !(toF S.L k).isSome := h2
    rw [h1, h2]
    exact sector_shut h k hk _ hsl hw rfl _ _ rfl rfl
  | some v =>
    obtain ⟨p, hp, ho, rfl⟩ := wrF_some hw
    rw [hw] at h1 h2
    have h1 : arrV (sectB S.L k) = arrV p.now := h1
    have h2 : sectW S.L k = true := h2
    rw [h1, h2]
    exact sector_open h k hk _ (h.ok.full p (getP_plc hp).1).1 hw
end Go.Proofs.YtbodiioemohenaaDoor

/- A disk's New, Read, Fuse. Conditions: none of their own. -/
namespace Go.Proofs.YtbodiioemohenaaDoor
open Go.RowKit

theorem rd_blk128 {w : World} {B : Nat} {ty : TypeId} {bs : List UInt8} (h : Blk w B ty (bs.map bv)) (hl : bs.length = 128) : Rd w (.slice (some ⟨B, 0, none⟩) 128 128) bs := by
  refine .inr ⟨B, 0, 128, by rw [hl], h.lt, ?_, ?_, ?_⟩
  · omega
  · unfold maxLen
    omega
  · intro i hi
    rw [h.cell, Nat.zero_add, List.getElem?_map, List.getElem?_eq_getElem hi]
    rfl
theorem slice128 (C : Nat) (W : World) : (Instr.sliceAt 63 (.pointer (some ⟨C, 0, none⟩)) none none none).run Tryd.prog W = .ok (.slice (some ⟨C, 0, none⟩) 128 128) W := by
  obtain ⟨i0, hi0, hz0, hz1, hz2⟩ := info_parts info_u8
  have e1 : Tryd.prog.arrayLen 63 = 128 := by simp [Program.arrayLen, Tryd.underlying63]
  have e2 : Tryd.prog.elem 63 = 5 := by simp [Program.elem, Tryd.underlying63]
  have e3 : (sizeOf 5).run Tryd.prog W = .ok 1 W := by simp [sizeOf, typeInfo, hi0, hz1]
  rw [run_sliceAt_array_all W 63 ⟨C, 0, none⟩ (by rw [e1, e2]; exact Tryd.underlying63), e2, e3]
  simp [slicedAt, e1, Addr.add]
set_option maxRecDepth 100000 in
set_option maxHeartbeats 2000000 in
theorem dkRead_in {w : World} {X : Nat} {a b c : Option Nat} {S : DS} (h : Dk w X a b c S) (k : Int) (hk : 0 ≤ k ∧ k < 1024) (t : Bool) (ht : sectW S.L k = t) :
    Calls Tryd.prog 63 #[.pointer (some ⟨X, 0, none⟩), .int .i64 k] w fun e w' => ∃ u, e = .returned (.tuple #[u, .int .i64 (if t then 0 else 9)]) ∧ Rd w' u (if t then sectB S.L k else []) ∧ (∀ j, u.ownBlock = some j → w.heap.size ≤ j) ∧ Below w.heap.size w w' := by
  have HC := Lib.hid (sector_any h k hk)
  have HL := Lib.hid (sectB_len h.ok k)
  obtain ⟨bs, hbs⟩ : ∃ bs, bs = sectB S.L k := ⟨_, rfl⟩
  rw [← hbs] at HC HL ⊢
  rw [ht] at HC
  have g1 : decide (k < 0) = false := decide_eq_false (by omega)
  have g2 : decide (1024 ≤ k) = false := decide_eq_false (by omega)
  have HB : Hid ((bs.map bv).length = 128) := Lib.hid (by rw [List.length_map]; exact HL.out)
  have HS : Hid ((Tryd.prog.info? 63).map (·.size) = some (bs.map bv).length) := Lib.hid (by rw [HB.out]; exact size128)
  have HZ : Hid ((z128.map bv).length = 128) := Lib.hid (by rw [List.length_map]; rfl)
  obtain ⟨zz, hzz⟩ : ∃ zz, zz = z128 := ⟨_, rfl⟩
  rw [← hzz] at HZ
  have HZZ := Lib.hid hzz
  clear h hbs ht hzz
  cases t with
  | true =>
    go_enter Tryd.func63, Tryd.ntmps63
    go_wp2_with (fail)
    refine HC.out.mono ?_
    rintro e w1 ⟨rfl, b1⟩
    obtain ⟨C, hC⟩ : ∃ C, w1.heap.size = C := ⟨_, rfl⟩
    have HN := Lib.hid hC
    have B1 := Lib.hid b1
    have hsl := fun W => slice128 C W
    clear hC b1
    go_wp2_with (first
      | (with_reducible refine here_alloc ?_
         refine wpList_alloc_w rfl 63 rfl (zz.map bv) (by rw [HZZ.out]; exact zeroArr) C HN.out ?_
         intro w2 k2 b2 z2
         have K2 := Lib.hid k2
         have B2 := Lib.hid (HN.out ▸ b2 : Below w1.heap.size w1 w2)
         clear k2 b2 z2)
      | (with_reducible refine here_store ?_
         refine wpList_store_blk rfl 63 _ _ rfl C 63 _ K2.out (bs.map bv) rfl rfl (by rw [HB.out, HZ.out]) HS.out (bv_one _) ?_
         intro w3 k3 s3
         have K3 := Lib.hid k3
         have B3 := Lib.hid (B2.out.trans (s3.below.mono (Nat.le_of_eq HN.out)))
         clear k3 s3 B2 K2))
    go_ret2
    have hs := HN.out
    have h2 := B1.out.size
    refine ⟨_, rfl, rd_blk128 K3.out HL.out, fun j hj => ?_, B1.out.trans (B3.out.mono h2)⟩
    have hj : some C = some j := hj
    injection hj with hj
    rw [← hj, ← hs]
    exact h2
  | false =>
    go_enter Tryd.func63, Tryd.ntmps63
    go_wp2_with (fail)
    refine HC.out.mono ?_
    rintro e w1 ⟨rfl, b1⟩
    obtain ⟨C, hC⟩ : ∃ C, w1.heap.size = C := ⟨_, rfl⟩
    have HN := Lib.hid hC
    have B1 := Lib.hid b1
    clear hC b1
    go_wp2_with (first
      | (with_reducible refine here_alloc ?_
         refine wpList_alloc_w rfl 63 rfl (zz.map bv) (by rw [HZZ.out]; exact zeroArr) C HN.out ?_
         intro w2 k2 b2 z2
         have K2 := Lib.hid k2
         have B2 := Lib.hid (HN.out ▸ b2 : Below w1.heap.size w1 w2)
         clear k2 b2 z2)
      | (with_reducible refine here_store ?_
         refine wpList_store_blk rfl 63 _ _ rfl C 63 _ K2.out (bs.map bv) rfl rfl (by rw [HB.out, HZ.out]) HS.out (bv_one _) ?_
         intro w3 k3 s3
         have B3 := Lib.hid (B2.out.trans (s3.below.mono (Nat.le_of_eq HN.out)))
         clear k3 s3 B2 K2))
    go_ret2
    exact ⟨_, rfl, Rd.nil _, fun j hj => (by cases hj), B1.out.trans (B3.out.mono B1.out.size)⟩
set_option maxRecDepth 100000 in
set_option maxHeartbeats 1000000 in
theorem dkRead_out (X : Nat) (k : Int) (hk : k < 0 ∨ 1024 ≤ k) (w : World) :
    Calls Tryd.prog 63 #[.pointer (some ⟨X, 0, none⟩), .int .i64 k] w fun e w' => e = .returned (.tuple #[.slice none 0 0, .int .i64 1]) ∧ w' = w := by
  by_cases h1 : k < 0
  · have g1 : decide (k < 0) = true := decide_eq_true h1
    clear hk h1
    go_enter Tryd.func63, Tryd.ntmps63
    go_wp2_with (fail)
    go_ret2
    exact ⟨rfl, rfl⟩
  · have g1 : decide (k < 0) = false := decide_eq_false h1
    have g2 : decide (1024 ≤ k) = true := decide_eq_true (by omega)
    clear hk h1
    go_enter Tryd.func63, Tryd.ntmps63
    go_wp2_with (fail)
    go_ret2
    exact ⟨rfl, rfl⟩
set_option maxRecDepth 100000 in
set_option maxHeartbeats 1000000 in
theorem dkRead_nil (k : Int) (w : World) :
    Calls Tryd.prog 63 #[.pointer none, .int .i64 k] w fun e w' => e = .returned (.tuple #[.slice none 0 0, .int .i64 1]) ∧ w' = w := by
  go_enter Tryd.func63, Tryd.ntmps63
  go_wp2_with (fail)
  go_ret2
  exact ⟨rfl, rfl⟩
theorem dkRead_any {w : World} {X : Nat} {a b c : Option Nat} {S : DS} (h : Dk w X a b c S) (k : Int) :
    Calls Tryd.prog 63 #[.pointer (some ⟨X, 0, none⟩), .int .i64 k] w fun e w' => ∃ u, e = .returned (.tuple #[u, .int .i64 ((readS S k).2 : Int)]) ∧ Rd w' u (readS S k).1 ∧ (∀ j, u.ownBlock = some j → w.heap.size ≤ j) ∧ Below w.heap.size w w' := by
  rw [readS_sect]
  by_cases hk : k < 0 ∨ 1024 ≤ k
  · rw [if_pos hk]
    refine (dkRead_out X k hk w).mono ?_
    rintro e w' ⟨rfl, rfl⟩
    exact ⟨_, rfl, Rd.nil _, fun j hj => (by cases hj), Below.refl _ _⟩
  · rw [if_neg hk]
    have h1 := dkRead_in h k (by omega) _ rfl
    cases ht : sectW S.L k with
    | true =>
      rw [ht] at h1
      exact h1
    | false =>
      rw [ht] at h1
      exact h1
theorem zeroDisk : (Tryd.prog.info? 45).bind (·.zero) = some (.agg (dkV none none none newS).toArray) := by
  kernel_rfl
theorem dk_new {w : World} {X : Nat} (hb : Blk w X 45 (dkV none none none newS)) : Dk w X none none none newS :=
  ⟨hb, ⟨fun _ => none, fun _ => rfl, fun _ => rfl⟩, fun _ => rfl, fun _ => rfl, fun x hx => (by cases hx), fun x hx => (by cases hx), fun x hx => (by cases hx), ⟨rfl, rfl⟩, dok_new, opn_nil, by decide, by decide⟩
end Go.Proofs.YtbodiioemohenaaDoor

/- A disk's New and Fuse; of a disk that is none: Write, Sync, Fuse, Dead, Ops, Raw, Copy. Conditions: none of their own. -/
namespace Go.Proofs.YtbodiioemohenaaDoor
open Go.RowKit

set_option maxRecDepth 100000 in
set_option maxHeartbeats 1000000 in
theorem dkNew_any (w : World) : Calls Tryd.prog 6 #[] w fun e w' => e = .returned (.pointer (some ⟨w.heap.size, 0, none⟩)) ∧ Dk w' w.heap.size none none none newS ∧ Below w.heap.size w w' := by
  go_enter Tryd.func6, Tryd.ntmps6
  go_wp2_with (fail)
  go_ret
  refine ⟨rfl, dk_new ?_, (Below.refl _ _).alloc (Nat.le_refl _) _⟩
  exact Blk.made w _ _
set_option maxRecDepth 100000 in
set_option maxHeartbeats 1000000 in
theorem dkFuse_any {w : World} {X : Nat} {a b c : Option Nat} {S : DS} (h : Dk w X a b c S) (n : Int) (hn : (Lit.int .i64 n).wf = true) :
    Calls Tryd.prog 8 #[.pointer (some ⟨X, 0, none⟩), .int .i64 n] w fun e w' => e = .returned (.int .i64 ((fuseS S n).2 : Int)) ∧ Dk w' X a b c (fuseS S n).1 ∧ Sole w w' X := by
  have c5 : w.cell? ⟨X, 5, none⟩ = some (.bool S.dead) := by rw [h.blk.cell]; rfl
  have HC := Lib.hid (dkRefuses c5)
  have f3 := h.blk.free 3
  have c3 : w.cell? ⟨X, 3, none⟩ = some (.int .i64 (S.fuse : Int)) := by rw [h.blk.cell]; rfl
  have H := Lib.hid h
  have hn2 : n ≤ 9223372036854775807 := by
    simp [Lit.wf, IntKind.min, IntKind.max, IntKind.signed, IntKind.bits] at hn
    omega
  obtain ⟨d, hd⟩ : ∃ d, S.dead = d := ⟨_, rfl⟩
  rw [hd] at HC
  have HD := Lib.hid hd
  clear h c5 hd
  cases d with
  | true =>
    go_enter Tryd.func8, Tryd.ntmps8
    go_wp2_with (fail)
    refine HC.out.mono ?_
    rintro e w1 ⟨rfl, rfl⟩
    go_wp2_with (fail)
    go_ret
    have hd := HD.out
    unfold fuseS
    rw [if_pos hd]
    exact ⟨rfl, H.out, Sole.refl _ _⟩
  | false =>
    go_enter Tryd.func8, Tryd.ntmps8
    go_wp2_with (fail)
    refine HC.out.mono ?_
    rintro e w1 ⟨rfl, rfl⟩
    go_wp2_with (fail)
    all_goals
      have hle := h
      have hd := HD.out
      have E : fuseS S n = ({ S with fuse := n.toNat }, 0) := by
        unfold fuseS
        rw [if_neg (by rw [hd]; decide)]
      rw [E]
    · have HE : Hid (n.toNat = 0) := Lib.hid (by omega)
      clear hle h
      go_ret
      refine ⟨rfl, H.out.head (Sole.setCell _ X 3 _) rfl ?_ ?_ H.out.ops, Sole.setCell _ X 3 _⟩
      · have hb := H.out.blk.set 3 (.int .i64 0)
        unfold dkV
        rw [HE.out]
        exact hb
      · show ((n.toNat : Nat) : Int) ≤ _
        rw [HE.out]
        decide
    · have HE : Hid ((n.toNat : Int) = n) := Lib.hid (by omega)
      clear hle h
      go_ret
      refine ⟨rfl, H.out.head (Sole.setCell _ X 3 _) rfl ?_ ?_ H.out.ops, Sole.setCell _ X 3 _⟩
      · have hb := H.out.blk.set 3 (.int .i64 n)
        unfold dkV
        rw [HE.out]
        exact hb
      · show ((n.toNat : Nat) : Int) ≤ _
        rw [HE.out]
        exact hn2
section
variable (w : World)
set_option maxRecDepth 100000 in
set_option maxHeartbeats 1000000 in
theorem dkFuse_nil (n : Int) : Calls Tryd.prog 8 #[.pointer none, .int .i64 n] w fun e w' => e = .returned (.int .i64 10) ∧ w' = w := by
  go_enter Tryd.func8, Tryd.ntmps8
  go_wp2_with (fail)
  refine (dkRefuses_nil w).mono ?_
  rintro e w1 ⟨rfl, rfl⟩
  go_wp2_with (fail)
  go_ret
  exact ⟨rfl, rfl⟩
set_option maxRecDepth 100000 in
set_option maxHeartbeats 1000000 in
theorem dkSync_nil : Calls Tryd.prog 26 #[.pointer none] w fun e w' => e = .returned (.int .i64 10) ∧ w' = w := by
  go_enter Tryd.func26, Tryd.ntmps26
  go_wp2_with (fail)
  refine (dkRefuses_nil w).mono ?_
  rintro e w1 ⟨rfl, rfl⟩
  go_wp2_with (fail)
  go_ret
  exact ⟨rfl, rfl⟩
set_option maxRecDepth 100000 in
set_option maxHeartbeats 1000000 in
theorem dkWrite_nil (k : Int) (u : Value) : Calls Tryd.prog 37 #[.pointer none, .int .i64 k, u] w fun e w' => e = .returned (.int .i64 10) ∧ w' = w := by
  go_enter Tryd.func37, Tryd.ntmps37
  go_wp2_with (fail)
  refine (dkRefuses_nil w).mono ?_
  rintro e w1 ⟨rfl, rfl⟩
  go_wp2_with (fail)
  go_ret
  exact ⟨rfl, rfl⟩
set_option maxRecDepth 100000 in
set_option maxHeartbeats 1000000 in
theorem dkBoot_nil (u : Value) : Calls Tryd.prog 12 #[.pointer none, u] w fun e w' => e = .returned (.tuple #[]) ∧ w' = w := by
  go_enter Tryd.func12, Tryd.ntmps12
  go_wp2_with (fail)
  (try simp only [Exit.inBlock, Exit.then])
  refine bodyPost_ret (results_none rfl _ _ _) rfl ?_
  exact ⟨rfl, rfl⟩
set_option maxRecDepth 100000 in
set_option maxHeartbeats 1000000 in
theorem dkDead_nil : Calls Tryd.prog 11 #[.pointer none] w fun e w' => e = .returned (.bool false) ∧ w' = w := by
  go_enter Tryd.func11, Tryd.ntmps11
  go_wp2_with (fail)
  go_ret
  exact ⟨rfl, rfl⟩
end
end Go.Proofs.YtbodiioemohenaaDoor
