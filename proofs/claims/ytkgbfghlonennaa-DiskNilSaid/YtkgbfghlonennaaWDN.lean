/- The walk of DiskNil over contracts of the developers' disk, of one and of none. Premises: the contracts. -/
import Derived.Test.YtkgbfghlonennaaPart16
namespace Go.Proofs.Ytkgbfghlonennaa.diskNil
open Go.RowKit

/-- The act in its block, its bytes. -/
def NilS (w : World) (B : Nat) (a : ActV) (u : Value) (V : World) : Prop := Blk V B 34 [.int .i64 a.kind, .int .i64 a.plc, u] ∧ Rd V u a.bs ∧ Below w.heap.size w V
theorem NilS.on {w : World} {B : Nat} {a : ActV} {u : Value} {V V' : World} (h : NilS w B a u V) (hb : Below V.heap.size V V') : NilS w B a u V' := ⟨h.1.below hb h.1.lt, h.2.1.below hb, h.2.2.trans (hb.mono h.2.2.size)⟩
set_option maxRecDepth 100000 in
set_option maxHeartbeats 2000000 in
theorem walkC (DC : DiskC) (DN : DiskN) (a : ActV) (u : Value) (w : World) (ha : ActOk w a u) : Calls Try.prog 6 #[.agg #[.int .i64 a.kind, .int .i64 a.plc, u]] w fun e w' => e = .returned (.bool true) ∧ Below w.heap.size w w' := by
  obtain ⟨kd, pl, bs⟩ := a
  obtain ⟨W0, hW0⟩ : ∃ W : World, W = w.alloc (.cells #[.int .i64 kd, .int .i64 pl, u] 34) := ⟨_, rfl⟩
  have hb0 : Below w.heap.size w W0 := by rw [hW0]; exact (Below.refl _ _).alloc (Nat.le_refl _) _
  have s0 : NilS w w.heap.size ⟨kd, pl, bs⟩ u W0 := ⟨by rw [hW0]; exact Blk.made w _ _, ha.rd.below hb0, hb0⟩
  have HP : Hid ((Lit.int .i64 pl).wf = true) := Lib.hid ha.wp
  have C : Hid (∀ V, NilS w w.heap.size ⟨kd, pl, bs⟩ u V → V.cell? ⟨w.heap.size, 1, none⟩ = some (.int .i64 pl) ∧ V.cell? ⟨w.heap.size, 2, none⟩ = some u) := Lib.hid fun V h => ⟨by rw [h.1.cell]; rfl, by rw [h.1.cell]; rfl⟩
  clear hb0 ha
  go_enter Try.func6, Try.ntmps6
  go_upto_region 1 with (fail)
  rw [← hW0]
  clear hW0
  have S0 := Lib.hid s0
  clear s0
  obtain ⟨c1, c2⟩ := C.out W0 S0.out
  go_wp2_with (fail)
  refine (DN.read pl W0 HP.out).mono ?_
  rintro e w1 ⟨x, rfl, hx, b1⟩
  obtain ⟨Ax, kx, rfl, _, _, _⟩ := hx.form
  have S1 := Lib.hid (S0.out.on b1)
  clear hx b1 S0 c1 c2
  obtain ⟨c1, c2⟩ := C.out w1 S1.out
  go_wp2_with (fail)
  refine (DN.boot u bs w1 S1.out.2.1).mono ?_
  rintro e w2 ⟨rfl, b2⟩
  have S2 := Lib.hid (S1.out.on b2)
  clear b2 S1 c1 c2
  obtain ⟨c1, c2⟩ := C.out w2 S2.out
  go_wp2_with (fail)
  refine (DN.write pl u bs w2 HP.out S2.out.2.1).mono ?_
  rintro e w3 ⟨rfl, b3⟩
  have S3 := Lib.hid (S2.out.on b3)
  clear b3 S2 c1 c2
  go_wp2_with (fail)
  refine (DN.sync w3).mono ?_
  rintro e w4 ⟨rfl, b4⟩
  have S4 := Lib.hid (S3.out.on b4)
  clear b4 S3
  obtain ⟨c1, c2⟩ := C.out w4 S4.out
  go_wp2_with (fail)
  refine (DN.fuse pl w4 HP.out).mono ?_
  rintro e w5 ⟨rfl, b5⟩
  have S5 := Lib.hid (S4.out.on b5)
  clear b5 S4 c1 c2
  go_wp2_with (fail)
  refine (DN.dead w5).mono ?_
  rintro e w6 ⟨rfl, b6⟩
  have S6 := Lib.hid (S5.out.on b6)
  clear b6 S5
  go_wp2_with (fail)
  refine (DN.ops w6).mono ?_
  rintro e w7 ⟨rfl, b7⟩
  have S7 := Lib.hid (S6.out.on b7)
  clear b7 S6
  go_wp2_with (fail)
  refine (DN.raw w7).mono ?_
  rintro e w8 ⟨y, rfl, hy, b8⟩
  obtain ⟨Ay, ky, rfl, _, _, _⟩ := hy.form
  have S8 := Lib.hid (S7.out.on b8)
  clear hy b8 S7
  go_wp2_with (fail)
  refine (DN.copy w8).mono ?_
  rintro e w9 ⟨rfl, b9⟩
  have S9 := Lib.hid (S8.out.on b9)
  clear b9 S8
  have he : ∀ W : World, (binOp .eql 25 (.pointer none) (.pointer none)).run Try.prog W = .ok (.bool true) W := fun _ => rfl
  go_wp2_with (fail)
  refine (awakeD_any DC w9).mono ?_
  rintro e w10 ⟨rfl, b10⟩
  have S10 := Lib.hid (S9.out.on b10)
  clear b10 S9
  go_wp2_with (fail)
  go_ret
  exact ⟨rfl, S10.out.2.2⟩
end Go.Proofs.Ytkgbfghlonennaa.diskNil
