/- Part 9 of the words that the laws share: DRefB. No condition of its own: each theorem says its own. -/
import Derived.Test.YtkgbfghlonennaaPart8
import Derived.Deep.Cut

/- The ninth reference's burn, zero and Sync's fields: contracts. Conditions: the disk is as a disk is; fewer than a million changes. -/
namespace Go.Proofs.Ytkgbfghlonennaa
open Go.RowKit

theorem RefIs.head {w w' : World} {X : Nat} {S : DS} {F : Nat → Prop} {v : Value} {Q : List PV} (h : RefIs w X S F v Q) (hs : Sole w w' X) (S' : DS) (hL : S'.L = S.L)
    (hb : Blk w' X 30 [v, .int .i64 (S'.fuse : Int), .bool S'.dead, .int .i64 (S'.ops : Int)]) (hf : (S'.fuse : Int) ≤ 9223372036854775807) (ho : S'.ops ≤ 1000000) : RefIs w' X S' F v Q := by
  have hc : Chg (fun k => k = X) w w' := ⟨hs.below.os, hs.below.tape, hs.below.output, Nat.le_of_eq hs.size.symm, fun k _ hk => hs.other k hk⟩
  refine ⟨hb, hc.ownR h.row fun k hk => (h.fv k hk).2, h.pls.trans hL.symm, h.fx, h.fv, fun q hq => ⟨hc.rd (h.ok q hq).now fun k hk => ((h.ok q hq).fn k hk).2.1, hc.rd (h.ok q hq).was fun k hk => ((h.ok q hq).fw k hk).2.1, (h.ok q hq).fn, (h.ok q hq).fw⟩, fun k hk => Nat.lt_of_lt_of_le (h.fl k hk) hc.size, ⟨?_, ?_, ?_⟩, hf, ho⟩
  · rw [hL]; exact h.good.low
  · rw [hL]; exact h.good.rise
  · rw [hL]; exact h.good.full
theorem sole_chg {w w' : World} {X : Nat} {F : Nat → Prop} (h : Sole w w' X) (hF : F X) : Chg F w w' := ⟨h.below.os, h.below.tape, h.below.output, Nat.le_of_eq h.size.symm, fun k _ hk => h.other k (fun e => hk (e ▸ hF))⟩
set_option maxRecDepth 100000 in
set_option maxHeartbeats 1000000 in
theorem refBurn_any {w : World} {X : Nat} {S : DS} {F : Nat → Prop} {v : Value} {Q : List PV} (h : RefIs w X S F v Q) (ho : S.ops < 1000000) :
    Calls Try.prog 42 #[.pointer (some ⟨X, 0, none⟩)] w fun e w' => e = .returned (.bool (burnS S).2) ∧ RefIs w' X (burnS S).1 F v Q ∧ Sole w w' X := by
  obtain ⟨ops, hops⟩ : ∃ ops, ops = S.ops := ⟨_, rfl⟩
  obtain ⟨fuse, hfuse⟩ : ∃ fuse, fuse = S.fuse := ⟨_, rfl⟩
  have hb := h.blk
  rw [← hops, ← hfuse] at hb
  have HR := Lib.hid h
  have oI : (ops : Int) < 1000000 := by omega
  have fI : (fuse : Int) ≤ 9223372036854775807 := by rw [hfuse]; exact h.fz
  have e1 : IntKind.i64.wrap ((ops : Int) + 1) = (ops : Int) + 1 := IntWalk.i64_in _ (by omega)
  have c3 : w.cell? ⟨X, 3, none⟩ = some (.int .i64 (ops : Int)) := by rw [hb.cell]; rfl
  have f3 := hb.free 3
  obtain ⟨W1, hW1⟩ : ∃ W : World, W = w.setCell ⟨X, 3, none⟩ (.int .i64 ((ops : Int) + 1)) := ⟨_, rfl⟩
  have B1 : Blk W1 X 30 [v, .int .i64 (fuse : Int), .bool S.dead, .int .i64 ((ops : Int) + 1)] := by rw [hW1]; exact hb.set 3 _
  have L1 : Sole w W1 X := by rw [hW1]; exact Sole.setCell w X 3 _
  have c1 : W1.cell? ⟨X, 1, none⟩ = some (.int .i64 (fuse : Int)) := by rw [B1.cell]; rfl
  have f1 := B1.free 1
  have HOP := Lib.hid hops
  have HFU := Lib.hid hfuse
  have E1 : Hid (S.ops + 1 ≤ 1000000) := Lib.hid (by omega)
  rcases Nat.lt_or_ge 0 fuse with hpos | hz
  · have pI : 0 < fuse := hpos
    obtain ⟨W2, hW2⟩ : ∃ W : World, W = W1.setCell ⟨X, 1, none⟩ (.int .i64 ((fuse : Int) - 1)) := ⟨_, rfl⟩
    have B2 : Blk W2 X 30 [v, .int .i64 ((fuse : Int) - 1), .bool S.dead, .int .i64 ((ops : Int) + 1)] := by rw [hW2]; exact B1.set 1 _
    have L2 : Hid (Sole w W2 X) := Lib.hid (L1.trans (by rw [hW2]; exact Sole.setCell W1 X 1 _))
    have c1' : W2.cell? ⟨X, 1, none⟩ = some (.int .i64 ((fuse : Int) - 1)) := by rw [B2.cell]; rfl
    have c2' : W2.cell? ⟨X, 2, none⟩ = some (.bool S.dead) := by rw [B2.cell]; rfl
    have f2' := B2.free 2
    by_cases h1 : fuse = 1
    · have hE : Hid (burnS S = ({ S with ops := S.ops + 1, fuse := 0, dead := true }, true)) := Lib.hid (by
        unfold burnS
        rw [if_pos (by omega), if_pos (by omega)])
      have B3 : Hid (Blk (W2.setCell ⟨X, 2, none⟩ (.bool true)) X 30 [v, .int .i64 0, .bool true, .int .i64 ((ops : Int) + 1)]) := Lib.hid (by
        have h2 := B2.set 2 (.bool true)
        rw [show (fuse : Int) - 1 = 0 by omega] at h2
        exact h2)
      have L3 : Hid (Sole w (W2.setCell ⟨X, 2, none⟩ (.bool true)) X) := Lib.hid (L2.out.trans (Sole.setCell W2 X 2 _))
      have N1 : Hid ((((fuse : Int) - 1) == 0) = true) := Lib.hid (by rw [beq_iff_eq]; omega)
      clear h hb ho hops hfuse B1 B2 L1 L2 hpos h1
      go_enter Try.func42, Try.ntmps42
      go_upto_region 2 with (fail)
      rw [← hW1]
      clear hW1 c3 f3 e1
      go_upto_region 4 with (fail)
      rw [← hW2]
      clear hW2 c1 f1
      have n1 := N1.out
      go_wp2_with (fail)
      go_ret
      refine ⟨by rw [hE.out]; rfl, ?_, L3.out⟩
      rw [hE.out]
      refine HR.out.head L3.out _ rfl ?_ (by show ((0 : Nat) : Int) ≤ _; decide) E1.out
      have hb := B3.out
      rw [HOP.out] at hb
      exact hb
    · have hE : Hid (burnS S = ({ S with ops := S.ops + 1, fuse := fuse - 1 }, false)) := Lib.hid (by
        unfold burnS
        rw [if_pos (by omega), if_neg (by omega), ← hfuse])
      have N1 : Hid ((((fuse : Int) - 1) == 0) = false) := Lib.hid (by rw [beq_eq_false_iff_ne]; omega)
      have HB2 : Hid (Blk W2 X 30 [v, .int .i64 ((fuse - 1 : Nat) : Int), .bool S.dead, .int .i64 ((ops : Int) + 1)]) := Lib.hid (by
        rw [show ((fuse - 1 : Nat) : Int) = (fuse : Int) - 1 by omega]
        exact B2)
      have nI : Hid (((fuse - 1 : Nat) : Int) ≤ 9223372036854775807) := Lib.hid (by omega)
      clear h hb ho hops hfuse B1 B2 L1 hpos h1 c2' f2'
      go_enter Try.func42, Try.ntmps42
      go_upto_region 2 with (fail)
      rw [← hW1]
      clear hW1 c3 f3 e1
      go_upto_region 4 with (fail)
      rw [← hW2]
      clear hW2 c1 f1
      have n1 := N1.out
      go_wp2_with (fail)
      go_ret
      refine ⟨by rw [hE.out]; rfl, ?_, L2.out⟩
      rw [hE.out]
      refine HR.out.head L2.out _ rfl ?_ nI.out E1.out
      have hb := HB2.out
      rw [HOP.out] at hb
      exact hb
  · have hE : Hid (burnS S = ({ S with ops := S.ops + 1 }, false)) := Lib.hid (by
      unfold burnS
      rw [if_neg (by omega)])
    have z0 : (fuse : Int) = 0 := by omega
    have HB1 := Lib.hid B1
    have HL1 := Lib.hid L1
    have FZ := Lib.hid h.fz
    clear h hb ho hops hfuse B1 L1 hz
    go_enter Try.func42, Try.ntmps42
    go_upto_region 2 with (fail)
    rw [← hW1]
    clear hW1 c3 f3 e1
    go_wp2_with (fail)
    go_ret
    refine ⟨by rw [hE.out]; rfl, ?_, HL1.out⟩
    rw [hE.out]
    refine HR.out.head HL1.out _ rfl ?_ FZ.out E1.out
    have hb := HB1.out
    rw [HOP.out, HFU.out] at hb
    exact hb
end Go.Proofs.Ytkgbfghlonennaa
